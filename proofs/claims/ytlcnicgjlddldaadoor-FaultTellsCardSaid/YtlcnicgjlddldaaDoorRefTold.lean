/- What the document's faults tell: the code, the places, the words, the path, and whether a code is in them. -/
import Derived.Test.YtlcnicgjlddldaaDoorTold
import Derived.Test.YtlcnicgjlddldaaDoorRefB
namespace Go.Proofs.YtlcnicgjlddldaaDoor
open Go Go.RowKit

/-- The first part within, of what is around a fault. -/
def Tr.kid : Tr → Option Tr
  | .code _ => none
  | .place _ t => some t
  | .word _ t => some t
  | .row [] => none
  | .row (t :: _) => some t
def Tr.kind : Tr → Nat
  | .code _ => 1
  | .place _ _ => 2
  | .word _ _ => 3
  | .row _ => 4
def Tr.ownPlace : Tr → Int
  | .place p _ => p
  | _ => 0
def Tr.ownWord : Tr → ByteArray
  | .word s _ => s
  | _ => ⟨#[]⟩
/-- Around a code: the kid's five cells lie at the head of a block. -/
structure Kid (S : Nat → Prop) (w : World) (t t0 : Tr) (cs : List Value) (g m cap k : Nat) (c q : Int) (s : ByteArray) (a : Option Addr) (n cp : Nat) : Prop where
  cells : cs = [.int .i64 t.kind, .int .i64 0, .int .i64 t.ownPlace, .string t.ownWord, .slice (some ⟨g, 0, none⟩) m cap]
  two : 2 ≤ t.kind
  one : 1 ≤ m
  kid : t.kid = some t0
  less : t0.sz < t.sz
  rep : RefT S w t0 [.int .i64 k, .int .i64 c, .int .i64 q, .string s, .slice a n cp]
  d0 : w.cell? ⟨g, 0, none⟩ = some (.int .i64 k)
  d1 : w.cell? ⟨g, 1, none⟩ = some (.int .i64 c)
  d2 : w.cell? ⟨g, 2, none⟩ = some (.int .i64 q)
  d3 : w.cell? ⟨g, 3, none⟩ = some (.string s)
  d4 : w.cell? ⟨g, 4, none⟩ = some (.slice a n cp)
theorem RefT.five {S : Nat → Prop} {w : World} {t : Tr} {ds : List Value} {g off : Nat} (h : RefT S w t ds) (hc : CellsAt w g off ds) : ∃ (k : Nat) (c p : Int) (s : ByteArray) (a : Option Addr) (n cap : Nat), ds = [.int .i64 k, .int .i64 c, .int .i64 p, .string s, .slice a n cap] ∧
    w.cell? ⟨g, off, none⟩ = some (.int .i64 k) ∧ w.cell? ⟨g, off + 1, none⟩ = some (.int .i64 c) ∧ w.cell? ⟨g, off + 2, none⟩ = some (.int .i64 p) ∧ w.cell? ⟨g, off + 3, none⟩ = some (.string s) ∧ w.cell? ⟨g, off + 4, none⟩ = some (.slice a n cap) := by
  obtain ⟨k, c, p, s, a, n, cap, rfl, _⟩ := RefO.form (t := some t) h
  exact ⟨k, c, p, s, a, n, cap, rfl, hc 0 _ rfl, hc 1 _ rfl, hc 2 _ rfl, hc 3 _ rfl, hc 4 _ rfl⟩
theorem RefT.kid {S : Nat → Prop} {w : World} {t : Tr} {cs : List Value} (h : RefT S w t cs) : (∃ c, t = .code c ∧ cs = [.int .i64 1, .int .i64 c, .int .i64 0, .string ⟨#[]⟩, .slice none 0 0] ∧ c ≠ 0) ∨ ∃ t0 g m cap k c q s a n cp, Kid S w t t0 cs g m cap k c q s a n cp := by
  cases t with
  | code c => exact .inl ⟨c, rfl, h.1, h.2⟩
  | place p t =>
    obtain ⟨g, cap, ds, rfl, hg, hl, hc, h⟩ := h
    obtain ⟨k, c, q, s, a, m, cp, rfl, d0, d1, d2, d3, d4⟩ := RefT.five h hc
    exact .inr ⟨t, g, 1, cap, k, c, q, s, a, m, cp, rfl, Nat.le_refl _, Nat.le_refl _, rfl, by simp [Tr.sz], h, d0, d1, d2, d3, d4⟩
  | word s0 t =>
    obtain ⟨g, cap, ds, rfl, hg, hl, hc, h⟩ := h
    obtain ⟨k, c, q, s, a, m, cp, rfl, d0, d1, d2, d3, d4⟩ := RefT.five h hc
    exact .inr ⟨t, g, 1, cap, k, c, q, s, a, m, cp, rfl, by show 2 ≤ 3; omega, Nat.le_refl _, rfl, by simp [Tr.sz], h, d0, d1, d2, d3, d4⟩
  | row ts =>
    obtain ⟨g, cap, rfl, hg, h2, h3, h⟩ := h
    cases ts with
    | nil => simp at h2
    | cons t ts =>
      obtain ⟨⟨ds, hl, hc, h⟩, _⟩ := h
      obtain ⟨k, c, q, s, a, m, cp, rfl, d0, d1, d2, d3, d4⟩ := RefT.five h hc
      exact .inr ⟨t, g, _, cap, k, c, q, s, a, m, cp, rfl, by show 2 ≤ 4; omega, by simp, rfl, by simp [Tr.sz, szAll]; omega, h, d0, d1, d2, d3, d4⟩
theorem Kid.ext {S : Nat → Prop} {w w' : World} {t t0 : Tr} {cs : List Value} {g m cap k : Nat} {c q : Int} {s : ByteArray} {a : Option Addr} {n cp : Nat} (h : Kid S w t t0 cs g m cap k c q s a n cp) (hx : Ext w w') : Kid S w' t t0 cs g m cap k c q s a n cp :=
  ⟨h.cells, h.two, h.one, h.kid, h.less, RefT.kept (hx.but S) (fun _ h => .inl h) h.rep, hx.cell h.d0, hx.cell h.d1, hx.cell h.d2, hx.cell h.d3, hx.cell h.d4⟩
theorem kid_code {t t0 : Tr} (h : t.kid = some t0) : t.codeOf = t0.codeOf := by
  cases t with
  | code c => cases h
  | place p t => obtain rfl := Option.some.inj h; rw [Tr.codeOf]
  | word s t => obtain rfl := Option.some.inj h; rw [Tr.codeOf]
  | row ts =>
    cases ts with
    | nil => cases h
    | cons t ts => obtain rfl := Option.some.inj h; rw [Tr.codeOf, codeFirst]
theorem kid_spine {t t0 : Tr} (h : t.kid = some t0) : t.spine = (match t with | .place p _ => [SP.place p] | .word s _ => [SP.word s] | .row _ => [SP.row] | .code _ => []) ++ t0.spine := by
  cases t with
  | code c => cases h
  | place p t => obtain rfl := Option.some.inj h; rw [Tr.spine]; rfl
  | word s t => obtain rfl := Option.some.inj h; rw [Tr.spine]; rfl
  | row ts =>
    cases ts with
    | nil => cases h
    | cons t ts => obtain rfl := Option.some.inj h; rw [Tr.spine, spineFirst]; rfl

theorem pair_after (W : World) (g : Nat) (x y X Y : Value) (c0 : W.cell? ⟨g, 0, none⟩ = some x) (c1 : W.cell? ⟨g, 1, none⟩ = some y) :
    ((W.setCell ⟨g, 0, none⟩ X).setCell ⟨g, 1, none⟩ Y).cell? ⟨g, 0, none⟩ = some X ∧ ((W.setCell ⟨g, 0, none⟩ X).setCell ⟨g, 1, none⟩ Y).cell? ⟨g, 1, none⟩ = some Y := by
  have hne : (⟨g, 1, none⟩ : Addr) ≠ ⟨g, 0, none⟩ := fun e => by injection e with _ h; cases h
  constructor
  · rw [World.cell?_setCell_other _ _ _ _ hne]
    exact World.cell?_setCell_same _ _ _ c0
  · refine World.cell?_setCell_same _ _ _ (u := y) ?_
    rw [World.cell?_setCell_other _ _ _ _ (Ne.symm hne)]
    exact c1
theorem box_first {w w2 : World} {l r : Array Value} {T U : TypeId} (hx : Ext ((w.alloc (.cells l T)).alloc (.cells r U)) w2) {i : Nat} {v : Value} (h : l[i]? = some v) : w2.cell? ⟨w.heap.size, i, none⟩ = some v := by
  refine hx.cell (Ext.cell ((Ext.refl _).alloc _) ?_)
  rw [Lib.cell_of_heap (Go.heap_alloc_new _ _)]; exact h
theorem box_second {w w2 : World} {l r : Array Value} {T U : TypeId} (hx : Ext ((w.alloc (.cells l T)).alloc (.cells r U)) w2) {i : Nat} {v : Value} (h : r[i]? = some v) : w2.cell? ⟨w.heap.size + 1, i, none⟩ = some v := by
  refine hx.cell ?_
  have e : (w.alloc (.cells l T)).heap.size = w.heap.size + 1 := by simp
  rw [← e, Lib.cell_of_heap (Go.heap_alloc_new _ _)]; exact h
theorem box_free {w w2 : World} {l r : Array Value} {T U : TypeId} (hx : Ext ((w.alloc (.cells l T)).alloc (.cells r U)) w2) (i : Nat) : w2.frozen? ⟨w.heap.size + 1, i, none⟩ = false := by
  have e : (w.alloc (.cells l T)).heap.size = w.heap.size + 1 := by simp
  rw [← e]
  refine (hx.frozen (by simp)).trans ?_
  have hb := Go.heap_alloc_new (w.alloc (.cells l T)) (.cells r U)
  unfold World.frozen?
  rw [show (⟨(w.alloc (.cells l T)).heap.size, i, none⟩ : Addr).block = (w.alloc (.cells l T)).heap.size from rfl, hb]
  simp
set_option maxHeartbeats 4000000 in
set_option maxRecDepth 100000 in
theorem refCode_rep (S : Nat → Prop) : ∀ (N : Nat) (t : Tr) (cs : List Value) (w : World), t.sz ≤ N → RefT S w t cs → Calls Tryd.prog 16 #[.agg cs.toArray] w fun e w' => e = .returned (.int .i64 t.codeOf) ∧ Ext w w'
  | 0, t, cs, w, hn, _ => by cases t <;> simp [Tr.sz] at hn
  | N + 1, t, cs, w, hn, h => by
    rcases h.kid with ⟨c, rfl, rfl, hc⟩ | ⟨t0, g, m, cap, k, c, q, s, a, n, cp, hk⟩
    · clear hc hn h
      go_enter Tryd.func16, Tryd.ntmps16
      go_wp2
      go_ret
      exact ⟨by simp [Tr.codeOf], (Ext.refl w).alloc _⟩
    · obtain rfl := hk.cells
      have hx : Ext w (w.alloc (.cells #[.int .i64 t.kind, .int .i64 0, .int .i64 t.ownPlace, .string t.ownWord, .slice (some ⟨g, 0, none⟩) m cap] 37)) := (Ext.refl w).alloc _
      have HK := Lib.hid (hk.ext hx)
      have hN : t0.sz ≤ N := by have := hk.less; omega
      have d0 := HK.out.d0
      have d1 := HK.out.d1
      have d2 := HK.out.d2
      have d3 := HK.out.d3
      have d4 := HK.out.d4
      have hm : (0 : Int) < (m : Int) := by have := hk.one; omega
      have hk1 : ((t.kind : Int) == 0) = false := by have := hk.two; simp; omega
      have hk2 : ((t.kind : Int) == 1) = false := by have := hk.two; simp; omega
      have hk3 : (1 : Int) < (t.kind : Int) := by have := hk.two; omega
      have HX := Lib.hid (And.intro hx (And.intro hN h)); clear hk hx hN hn h
      go_enter Tryd.func16, Tryd.ntmps16
      go_wp2_with fail
      refine (refCode_rep S N t0 _ _ HX.out.2.1 HK.out.rep).mono ?_
      rintro e w2 ⟨rfl, hx2⟩
      go_wp2
      go_ret
      exact ⟨by rw [kid_code HK.out.kid]; rfl, HX.out.1.trans hx2⟩
def wordsB (t : Tr) : Bool := !(spWords t.spine).isEmpty
theorem kid_words {t t0 : Tr} (h : t.kid = some t0) : wordsB t = (decide (t.kind = 3) || wordsB t0) := by
  unfold wordsB
  rw [kid_spine h]
  cases t with
  | code c => cases h
  | place p t => rfl
  | word s t => rfl
  | row ts => rfl
set_option maxHeartbeats 4000000 in
set_option maxRecDepth 100000 in
theorem refWords_rep (S : Nat → Prop) : ∀ (N : Nat) (t : Tr) (cs : List Value) (w : World), t.sz ≤ N → RefT S w t cs → Calls Tryd.prog 43 #[.agg cs.toArray] w fun e w' => e = .returned (.bool (wordsB t)) ∧ Ext w w'
  | 0, t, cs, w, hn, _ => by cases t <;> simp [Tr.sz] at hn
  | N + 1, t, cs, w, hn, h => by
    rcases h.kid with ⟨c, rfl, rfl, hc⟩ | ⟨t0, g, m, cap, k, c, q, s, a, n, cp, hk⟩
    · clear hc hn h
      go_enter Tryd.func43, Tryd.ntmps43
      go_wp2
      go_ret
      exact ⟨by simp [wordsB, Tr.spine, spWords], (Ext.refl w).alloc _⟩
    · obtain rfl := hk.cells
      have hx : Ext w (w.alloc (.cells #[.int .i64 t.kind, .int .i64 0, .int .i64 t.ownPlace, .string t.ownWord, .slice (some ⟨g, 0, none⟩) m cap] 37)) := (Ext.refl w).alloc _
      have HK := Lib.hid (hk.ext hx)
      have hN : t0.sz ≤ N := by have := hk.less; omega
      have d0 := HK.out.d0
      have d1 := HK.out.d1
      have d2 := HK.out.d2
      have d3 := HK.out.d3
      have d4 := HK.out.d4
      have hm : (0 : Int) < (m : Int) := by have := hk.one; omega
      have hk1 : ((t.kind : Int) == 0) = false := by have := hk.two; simp; omega
      have hk2 : ((t.kind : Int) == 1) = false := by have := hk.two; simp; omega
      have hk3 : (1 : Int) < (t.kind : Int) := by have := hk.two; omega
      have HX := Lib.hid (And.intro hx (And.intro hN h)); clear hk hx hN hn h
      go_enter Tryd.func43, Tryd.ntmps43
      by_cases h3 : t.kind = 3
      · have hb : ((t.kind : Int) == 3) = true := by rw [h3]; rfl
        have H3 := Lib.hid h3; clear h3
        go_wp2_with fail
        go_ret
        exact ⟨by rw [kid_words HK.out.kid]; simp [H3.out], HX.out.1⟩
      · have hb : ((t.kind : Int) == 3) = false := by simp; omega
        have H3 := Lib.hid h3; clear h3
        go_wp2_with fail
        refine (refWords_rep S N t0 _ _ HX.out.2.1 HK.out.rep).mono ?_
        rintro e w2 ⟨rfl, hx2⟩
        go_wp2
        go_ret
        exact ⟨by rw [kid_words HK.out.kid]; simp [H3.out], HX.out.1.trans hx2⟩
theorem kid_sum {t t0 : Tr} (h : t.kid = some t0) : t.sum = (if t.kind = 2 then wrap64 (t0.sum + t.ownPlace) else t0.sum) ∧ t.placed = (decide (t.kind = 2) || t0.placed) := by
  unfold Tr.sum Tr.placed
  rw [kid_spine h]
  cases t with
  | code c => cases h
  | place p t =>
    refine ⟨?_, rfl⟩
    show spSum (wrap64 (0 + p)) t0.spine = wrap64 (spSum 0 t0.spine + p)
    rw [spSum_add _ _ (wrap_range _)]
    unfold wrap64; omega
  | word s t => exact ⟨rfl, rfl⟩
  | row ts => exact ⟨rfl, rfl⟩
set_option maxHeartbeats 4000000 in
set_option maxRecDepth 100000 in
theorem refPlace_rep (S : Nat → Prop) : ∀ (N : Nat) (t : Tr) (cs : List Value) (w : World), t.sz ≤ N → RefT S w t cs → Calls Tryd.prog 14 #[.agg cs.toArray] w fun e w' => e = .returned (.agg #[.int .i64 t.sum, .bool t.placed]) ∧ Ext w w'
  | 0, t, cs, w, hn, _ => by cases t <;> simp [Tr.sz] at hn
  | N + 1, t, cs, w, hn, h => by
    rcases h.kid with ⟨c, rfl, rfl, hc⟩ | ⟨t0, g, m, cap, k, c, q, s, a, n, cp, hk⟩
    · clear hc hn h
      go_enter Tryd.func14, Tryd.ntmps14
      go_wp2
      exact bodyPost_ret (v := .agg #[.int .i64 0, .bool false]) (by simp [results, Tryd.results14, go_sem]) rfl ⟨by simp [Tr.sum, Tr.placed, Tr.spine, spSum, spIs], ((Ext.refl w).alloc _).alloc _⟩
    · obtain rfl := hk.cells
      have hx : Ext w ((w.alloc (.cells #[.int .i64 t.kind, .int .i64 0, .int .i64 t.ownPlace, .string t.ownWord, .slice (some ⟨g, 0, none⟩) m cap] 37)).alloc (.cells #[.int .i64 0, .bool false] 33)) := ((Ext.refl w).alloc _).alloc _
      have HK := Lib.hid (hk.ext hx)
      have hN : t0.sz ≤ N := by have := hk.less; omega
      have d0 := HK.out.d0
      have d1 := HK.out.d1
      have d2 := HK.out.d2
      have d3 := HK.out.d3
      have d4 := HK.out.d4
      have hm : (0 : Int) < (m : Int) := by have := hk.one; omega
      have hk1 : ((t.kind : Int) == 0) = false := by have := hk.two; simp; omega
      have hk2 : ((t.kind : Int) == 1) = false := by have := hk.two; simp; omega
      have hk3 : (1 : Int) < (t.kind : Int) := by have := hk.two; omega
      have HX := Lib.hid (And.intro hx (And.intro hN h)); clear hk hx hN hn h
      go_enter Tryd.func14, Tryd.ntmps14
      by_cases h3 : t.kind = 2
      · have hb : ((t.kind : Int) == 2) = true := by rw [h3]; rfl
        have H3 := Lib.hid h3; clear h3
        go_wp2_with fail
        refine (refPlace_rep S N t0 _ _ HX.out.2.1 HK.out.rep).mono ?_
        rintro e w2 ⟨rfl, hx2⟩
        have hy : Ext ((w.alloc (.cells #[.int .i64 t.kind, .int .i64 0, .int .i64 t.ownPlace, .string t.ownWord, .slice (some ⟨g, 0, none⟩) m cap] 37)).alloc (.cells #[.int .i64 0, .bool false] 33)) (w2.alloc (.cells #[.int .i64 t0.sum, .bool t0.placed] 33)) := hx2.alloc _
        have b0 := box_first hy (i := 0) rfl
        have b2 := box_first hy (i := 2) rfl
        have hz : Ext ((w.alloc (.cells #[.int .i64 t.kind, .int .i64 0, .int .i64 t.ownPlace, .string t.ownWord, .slice (some ⟨g, 0, none⟩) m cap] 37)).alloc (.cells #[.int .i64 0, .bool false] 33)) (w2.alloc (.cells #[.int .i64 (wrap64 (t0.sum + t.ownPlace)), .bool true] 33)) := hx2.alloc _
        have s0 := box_second hz (i := 0) rfl
        have s1 := box_second hz (i := 1) rfl
        have h0 := box_free hz 0
        have h1 := box_free hz 1
        have HE := Lib.hid ((HX.out.1.trans hx2).alloc (.cells #[.int .i64 (wrap64 (t0.sum + t.ownPlace)), .bool true] 33)); clear hx2 hy hz d0 d1 d2 d3 d4
        go_wp2
        obtain ⟨p0, p1⟩ := pair_after _ _ _ _ (.int .i64 (wrap64 (t0.sum + t.ownPlace))) (.bool true) s0 s1
        exact bodyPost_ret (v := .agg #[.int .i64 (wrap64 (t0.sum + t.ownPlace)), .bool true]) (by simp [results, Tryd.results14, go_sem, p0, p1]) rfl ⟨by rw [(kid_sum HK.out.kid).1, (kid_sum HK.out.kid).2]; simp [H3.out], (HE.out.setCell (p := ⟨w.heap.size + 1, 0, none⟩) (Nat.le_succ _) _).setCell (p := ⟨w.heap.size + 1, 1, none⟩) (Nat.le_succ _) _⟩
      · have hb : ((t.kind : Int) == 2) = false := by simp; omega
        have H3 := Lib.hid h3; clear h3
        go_wp2_with fail
        refine (refPlace_rep S N t0 _ _ HX.out.2.1 HK.out.rep).mono ?_
        rintro e w2 ⟨rfl, hx2⟩
        have hy : Ext ((w.alloc (.cells #[.int .i64 t.kind, .int .i64 0, .int .i64 t.ownPlace, .string t.ownWord, .slice (some ⟨g, 0, none⟩) m cap] 37)).alloc (.cells #[.int .i64 0, .bool false] 33)) (w2.alloc (.cells #[.int .i64 t0.sum, .bool t0.placed] 33)) := hx2.alloc _
        have b0 := box_first hy (i := 0) rfl
        have b2 := box_first hy (i := 2) rfl
        have hz : Ext ((w.alloc (.cells #[.int .i64 t.kind, .int .i64 0, .int .i64 t.ownPlace, .string t.ownWord, .slice (some ⟨g, 0, none⟩) m cap] 37)).alloc (.cells #[.int .i64 0, .bool false] 33)) (w2.alloc (.cells #[.int .i64 t0.sum, .bool t0.placed] 33)) := hx2.alloc _
        have s0 := box_second hz (i := 0) rfl
        have s1 := box_second hz (i := 1) rfl
        have h0 := box_free hz 0
        have h1 := box_free hz 1
        have HE := Lib.hid ((HX.out.1.trans hx2).alloc (.cells #[.int .i64 t0.sum, .bool t0.placed] 33)); clear hx2 hy hz d0 d1 d2 d3 d4
        go_wp2
        obtain ⟨p0, p1⟩ := pair_after _ _ _ _ (.int .i64 t0.sum) (.bool t0.placed) s0 s1
        exact bodyPost_ret (v := .agg #[.int .i64 t0.sum, .bool t0.placed]) (by simp [results, Tryd.results14, go_sem, p0, p1]) rfl ⟨by rw [(kid_sum HK.out.kid).1, (kid_sum HK.out.kid).2]; simp [H3.out], (HE.out.setCell (p := ⟨w.heap.size + 1, 0, none⟩) (Nat.le_succ _) _).setCell (p := ⟨w.heap.size + 1, 1, none⟩) (Nat.le_succ _) _⟩

theorem kid_path {t t0 : Tr} (h : t.kid = some t0) : t.path = (if t.kind = 3 then (if wordsB t0 = true then t.ownWord.data.toList ++ [47] ++ t0.path else t.ownWord.data.toList) else t0.path) := by
  unfold Tr.path wordsB
  rw [kid_spine h]
  cases t with
  | code c => cases h
  | place p t => rfl
  | word s t =>
    show Lib.join ((s :: spWords t0.spine).map (·.data.toList)) [47] = _
    cases hw : spWords t0.spine with
    | nil => simp [Tr.kind, Tr.ownWord, Lib.join, List.intercalate]
    | cons a r => simp [Tr.kind, Tr.ownWord, Lib.join, List.intercalate]
  | row ts => rfl
theorem kid_wordsLen {t t0 : Tr} (h : t.kid = some t0) (hl : wordsLen t.spine ≤ 1000000) : wordsLen t0.spine ≤ 1000000 ∧ t.ownWord.size ≤ 1000000 := by
  rw [kid_spine h] at hl
  cases t with
  | code c => cases h
  | place p t => exact ⟨hl, show (0 : Nat) ≤ 1000000 by omega⟩
  | word s t =>
    have h1 : s.size + 1 + wordsLen t0.spine ≤ 1000000 := hl
    exact ⟨by omega, show s.size ≤ 1000000 by omega⟩
  | row ts => exact ⟨hl, show (0 : Nat) ≤ 1000000 by omega⟩
theorem path_bytes (l m : List UInt8) (s : ByteArray) (h : l = s.data.toList ++ [47] ++ m) : (⟨l.toArray⟩ : ByteArray) = s ++ ⟨#[47]⟩ ++ ⟨m.toArray⟩ := by
  subst h
  apply ByteArray.ext
  rw [ByteArray.data_append, ByteArray.data_append]
  apply Array.toList_inj.1
  simp
theorem path_own (l : List UInt8) (s : ByteArray) (h : l = s.data.toList) : (⟨l.toArray⟩ : ByteArray) = s := by
  subst h
  apply ByteArray.ext
  simp
set_option maxHeartbeats 4000000 in
set_option maxRecDepth 100000 in
theorem refPath_rep (S : Nat → Prop) : ∀ (N : Nat) (t : Tr) (cs : List Value) (w : World), t.sz ≤ N → wordsLen t.spine ≤ 1000000 → RefT S w t cs → Calls Tryd.prog 18 #[.agg cs.toArray] w fun e w' => e = .returned (.string ⟨t.path.toArray⟩) ∧ Ext w w'
  | 0, t, cs, w, hn, _, _ => by cases t <;> simp [Tr.sz] at hn
  | N + 1, t, cs, w, hn, hwl, h => by
    rcases h.kid with ⟨c, rfl, rfl, hc⟩ | ⟨t0, g, m, cap, k, c, q, s, a, n, cp, hk⟩
    · clear hc hn h hwl
      go_enter Tryd.func18, Tryd.ntmps18
      go_wp2
      go_ret
      exact ⟨by simp [Tr.path, Tr.spine, spWords, Lib.join], (Ext.refl w).alloc _⟩
    · obtain rfl := hk.cells
      have hx : Ext w (w.alloc (.cells #[.int .i64 t.kind, .int .i64 0, .int .i64 t.ownPlace, .string t.ownWord, .slice (some ⟨g, 0, none⟩) m cap] 37)) := (Ext.refl w).alloc _
      have HK := Lib.hid (hk.ext hx)
      have hN : t0.sz ≤ N := by have := hk.less; omega
      have hwl0 : wordsLen t0.spine ≤ 1000000 ∧ t.ownWord.size ≤ 1000000 := kid_wordsLen hk.kid hwl
      have d0 := HK.out.d0
      have d1 := HK.out.d1
      have d2 := HK.out.d2
      have d3 := HK.out.d3
      have d4 := HK.out.d4
      have hm : (0 : Int) < (m : Int) := by have := hk.one; omega
      have hk1 : ((t.kind : Int) == 0) = false := by have := hk.two; simp; omega
      have hk2 : ((t.kind : Int) == 1) = false := by have := hk.two; simp; omega
      have hk3 : (1 : Int) < (t.kind : Int) := by have := hk.two; omega
      have hb0 := Go.heap_alloc_new w (.cells #[.int .i64 t.kind, .int .i64 0, .int .i64 t.ownPlace, .string t.ownWord, .slice (some ⟨g, 0, none⟩) m cap] 37)
      have e0 : (w.alloc (.cells #[.int .i64 t.kind, .int .i64 0, .int .i64 t.ownPlace, .string t.ownWord, .slice (some ⟨g, 0, none⟩) m cap] 37)).cell? ⟨w.heap.size, 0, none⟩ = some (.int .i64 t.kind) := by rw [Lib.cell_of_heap hb0]; rfl
      have e3 : (w.alloc (.cells #[.int .i64 t.kind, .int .i64 0, .int .i64 t.ownPlace, .string t.ownWord, .slice (some ⟨g, 0, none⟩) m cap] 37)).cell? ⟨w.heap.size, 3, none⟩ = some (.string t.ownWord) := by rw [Lib.cell_of_heap hb0]; rfl
      have e4 : (w.alloc (.cells #[.int .i64 t.kind, .int .i64 0, .int .i64 t.ownPlace, .string t.ownWord, .slice (some ⟨g, 0, none⟩) m cap] 37)).cell? ⟨w.heap.size, 4, none⟩ = some (.slice (some ⟨g, 0, none⟩) m cap) := by rw [Lib.cell_of_heap hb0]; rfl
      have HB := Lib.hid (And.intro e0 (And.intro e3 e4))
      have HX := Lib.hid (And.intro hx (And.intro hN (And.intro h hwl0))); clear hk hx hN hn h hwl hwl0 e0 e3 e4 hb0
      go_enter Tryd.func18, Tryd.ntmps18
      go_wp2_with fail
      refine (refPath_rep S N t0 _ _ HX.out.2.1 HX.out.2.2.2.1 HK.out.rep).mono ?_
      rintro e w2 ⟨rfl, hx2⟩
      have g0 := hx2.cell HB.out.1
      have g3 := hx2.cell HB.out.2.1
      have g4 := hx2.cell HB.out.2.2
      have HK2 := Lib.hid (HK.out.ext hx2)
      have HE := Lib.hid (HX.out.1.trans hx2); clear hx2 d0 d1 d2 d3 d4
      by_cases h3 : t.kind = 3
      · have hb : ((t.kind : Int) == 3) = true := by rw [h3]; rfl
        have d0 := HK2.out.d0
        have d1 := HK2.out.d1
        have d2 := HK2.out.d2
        have d3 := HK2.out.d3
        have d4 := HK2.out.d4
        have H3 := Lib.hid h3; clear h3
        go_wp2_with fail
        refine (refWords_rep S N t0 _ w2 HX.out.2.1 HK2.out.rep).mono ?_
        rintro e w3 ⟨rfl, hx3⟩
        have g3' := hx3.cell g3
        have HE3 := Lib.hid (HE.out.trans hx3); clear hx3 g0 g3 g4 d0 d1 d2 d3 d4
        have hpl : t0.path.length ≤ 1000000 := Nat.le_trans (join_le t0.spine) HX.out.2.2.2.1
        have hz1 : ¬ 9223372036854775807 < t.ownWord.size + 1 + t0.path.length := by have := HX.out.2.2.2.2; omega
        cases hw : wordsB t0
        · have hp : (⟨t.path.toArray⟩ : ByteArray) = t.ownWord := path_own _ _ (by rw [kid_path HK.out.kid, if_pos H3.out, hw]; simp)
          have HP := Lib.hid hp; clear hp
          go_wp2
          go_ret
          exact ⟨by rw [HP.out]; rfl, HE3.out⟩
        · have hp : (⟨t.path.toArray⟩ : ByteArray) = t.ownWord ++ ⟨#[47]⟩ ++ ⟨t0.path.toArray⟩ := path_bytes _ _ _ (by rw [kid_path HK.out.kid, if_pos H3.out, hw]; simp)
          have HP := Lib.hid hp; clear hp
          go_wp2
          go_ret
          exact ⟨by rw [HP.out]; rfl, HE3.out⟩
      · have hb : ((t.kind : Int) == 3) = false := by simp; omega
        have H3 := Lib.hid h3; clear h3
        go_wp2
        go_ret
        exact ⟨by rw [kid_path HK.out.kid, if_neg H3.out]; rfl, HE.out⟩

def Tr.kids : Tr → List Tr
  | .code _ => []
  | .place _ t => [t]
  | .word _ t => [t]
  | .row ts => ts
theorem RefAll.at {S : Nat → Prop} {w : World} {g : Nat} : ∀ {off : Nat} {ts : List Tr} {i : Nat} {t : Tr}, RefAll S w g off ts → ts[i]? = some t → ∃ ds, CellsAt w g (off + i * 5) ds ∧ RefT S w t ds
  | _, [], _, _, _, h => by simp at h
  | off, u :: ts, 0, t, h, hi => by
    obtain ⟨⟨ds, _, hc, hr⟩, _⟩ := h
    simp at hi; subst hi
    exact ⟨ds, by simpa using hc, hr⟩
  | off, u :: ts, i + 1, t, h, hi => by
    obtain ⟨ds, hc, hr⟩ := RefAll.at (i := i) (t := t) h.2 (by simpa using hi)
    exact ⟨ds, by rw [show off + (i + 1) * 5 = off + 5 + i * 5 from by omega]; exact hc, hr⟩
/-- All kids lie in a block. -/
theorem RefT.kids {S : Nat → Prop} {w : World} {t : Tr} {cs : List Value} (h : RefT S w t cs) : (∃ c, t = .code c ∧ cs = [.int .i64 1, .int .i64 c, .int .i64 0, .string ⟨#[]⟩, .slice none 0 0] ∧ c ≠ 0) ∨ ∃ g cap, cs = [.int .i64 t.kind, .int .i64 0, .int .i64 t.ownPlace, .string t.ownWord, .slice (some ⟨g, 0, none⟩) t.kids.length cap] ∧ 2 ≤ t.kind ∧ 1 ≤ t.kids.length ∧ t.kids.length ≤ 1000000 ∧ RefAll S w g 0 t.kids ∧ ¬ S g := by
  cases t with
  | code c => exact .inl ⟨c, rfl, h.1, h.2⟩
  | place p t =>
    obtain ⟨g, cap, ds, rfl, hg, hl, hc, h⟩ := h
    exact .inr ⟨g, cap, rfl, Nat.le_refl _, Nat.le_refl _, by show 1 ≤ 1000000; omega, ⟨⟨ds, hl, hc, h⟩, trivial⟩, hg⟩
  | word s t =>
    obtain ⟨g, cap, ds, rfl, hg, hl, hc, h⟩ := h
    exact .inr ⟨g, cap, rfl, by show 2 ≤ 3; omega, Nat.le_refl _, by show 1 ≤ 1000000; omega, ⟨⟨ds, hl, hc, h⟩, trivial⟩, hg⟩
  | row ts =>
    obtain ⟨g, cap, rfl, hg, h2, h3, h⟩ := h
    exact .inr ⟨g, cap, rfl, by show 2 ≤ 4; omega, by show 1 ≤ ts.length; omega, h3, h, hg⟩
theorem kids_has {t : Tr} (h : 2 ≤ t.kind) (c : Int) : t.has c = hasAny c t.kids := by
  cases t with
  | code c => simp [Tr.kind] at h
  | place p t => rw [Tr.has]; simp [Tr.kids, hasAny]
  | word s t => rw [Tr.has]; simp [Tr.kids, hasAny]
  | row ts => rw [Tr.has]; rfl
theorem kids_sz {t : Tr} {i : Nat} {u : Tr} (h : t.kids[i]? = some u) : u.sz < t.sz := by
  cases t with
  | code c => simp [Tr.kids] at h
  | place p t => cases i <;> simp [Tr.kids] at h; subst h; simp [Tr.sz]
  | word s t => cases i <;> simp [Tr.kids] at h; subst h; simp [Tr.sz]
  | row ts => have := sz_mem ts i u h; simp only [Tr.sz]; omega
set_option maxHeartbeats 4000000 in
set_option maxRecDepth 100000 in
theorem refIs_rep (S : Nat → Prop) (d : Int) : ∀ (N : Nat) (t : Tr) (cs : List Value) (w : World), t.sz ≤ N → RefT S w t cs → Calls Tryd.prog 22 #[.agg cs.toArray, .int .i64 d] w fun e w' => e = .returned (.bool (t.has d)) ∧ Ext w w'
  | 0, t, cs, w, hn, _ => by cases t <;> simp [Tr.sz] at hn
  | N + 1, t, cs, w, hn, h => by
    rcases h.kids with ⟨c, rfl, rfl, hc⟩ | ⟨g, cap, rfl, hk2, hk1, hkb, hall⟩
    · clear hc hn h
      by_cases hd : c = d
      · subst hd
        go_enter Tryd.func22, Tryd.ntmps22
        go_wp2
        go_ret
        exact ⟨by simp [Tr.has], (Ext.refl w).alloc _⟩
      · have hb : (c == d) = false := by simpa using hd
        have HD := Lib.hid hd; clear hd
        go_enter Tryd.func22, Tryd.ntmps22
        go_wp2
        go_ret
        exact ⟨by rw [Tr.has, hb]; rfl, (Ext.refl w).alloc _⟩
    · have hx : Ext w (w.alloc (.cells #[.int .i64 t.kind, .int .i64 0, .int .i64 t.ownPlace, .string t.ownWord, .slice (some ⟨g, 0, none⟩) t.kids.length cap] 37)) := (Ext.refl w).alloc _
      have hb0 := Go.heap_alloc_new w (.cells #[.int .i64 t.kind, .int .i64 0, .int .i64 t.ownPlace, .string t.ownWord, .slice (some ⟨g, 0, none⟩) t.kids.length cap] 37)
      have e4 : (w.alloc (.cells #[.int .i64 t.kind, .int .i64 0, .int .i64 t.ownPlace, .string t.ownWord, .slice (some ⟨g, 0, none⟩) t.kids.length cap] 37)).cell? ⟨w.heap.size, 4, none⟩ = some (.slice (some ⟨g, 0, none⟩) t.kids.length cap) := by rw [Lib.cell_of_heap hb0]; rfl
      have hk3 : (1 : Int) < (t.kind : Int) := by omega
      have HB := Lib.hid (And.intro e4 (And.intro hx (And.intro hn (And.intro hall hk2)))); clear e4 hb0 hx hn hall hk2 h
      have hsz := fun (i : Nat) (u : Tr) (hu : t.kids[i]? = some u) => kids_sz hu
      have hhas := fun c => kids_has HB.out.2.2.2.2 c
      have HH := Lib.hid (And.intro hsz hhas); clear hsz hhas
      go_enter Tryd.func22, Tryd.ntmps22
      generalize t.kids = l at HB HH hk1 hkb ⊢
      go_wp2
      generalize hW0 : w.alloc (.cells #[.int .i64 t.kind, .int .i64 0, .int .i64 t.ownPlace, .string t.ownWord, .slice (some ⟨g, 0, none⟩) l.length cap] 37) = W0 at HB ⊢
      clear hW0
      go_loopg [5] l.length (fun k c wr => ∃ i : Nat, Hid (i + k = l.length) ∧ c = .int .i64 i ∧ Hid (hasAny d (l.take i) = false ∧ Ext W0 wr))
      case atStart => exact ⟨0, Nat.zero_add _, rfl, by simp [hasAny], Ext.refl _⟩
      case round =>
        obtain ⟨i, hi, rfl, hinv⟩ := hrel
        have e4 := hinv.out.2.cell HB.out.1
        by_cases hlt : i < l.length
        · obtain ⟨u, hu⟩ : ∃ u, l[i]? = some u := ⟨l[i], List.getElem?_eq_getElem hlt⟩
          obtain ⟨ds, hc, hr⟩ := RefAll.at (RefAll.kept (hg := HB.out.2.2.2.1.2) ((HB.out.2.1.trans hinv.out.2).but S) (fun _ h => .inl h) HB.out.2.2.2.1.1) hu
          rw [Nat.zero_add] at hc
          obtain ⟨k, c, q, s, a, m, cp, rfl, d0, d1, d2, d3, d4⟩ := RefT.five hr hc
          have hus := HH.out.1 i u hu
          have HU := Lib.hid (And.intro hr (And.intro (show u.sz ≤ N by have := HB.out.2.2.1; omega) hu)); clear hu hc hr hus
          go_wp2_with fail
          refine (refIs_rep S d N u _ wr HU.out.2.1 HU.out.1).mono ?_
          rintro e w2 ⟨rfl, hx2⟩
          have HE := Lib.hid (hinv.out.2.trans hx2); clear hx2 d0 d1 d2 d3 d4 e4
          cases hud : u.has d
          · have HUD := Lib.hid hud; clear hud
            go_wp2
            go_roundg (gk - 1)
            case measure => have := hi.out; omega
            case rel =>
              refine ⟨i + 1, ?_, by go_num, ?_, HE.out⟩
              · show i + 1 + (gk - 1) = l.length
                have := hi.out; omega
              · rw [hasAny_take d l i u HU.out.2.2, hinv.out.1, HUD.out]; rfl
          · have HUD := Lib.hid hud; clear hud
            go_wp2
            go_ret
            exact ⟨by rw [HH.out.2 d, hasAny_mem d l i u HU.out.2.2 HUD.out]; rfl, HB.out.2.1.trans HE.out⟩
        · go_wp2
          go_ret
          have hil : l.take i = l := List.take_of_length_le (by omega)
          refine ⟨?_, HB.out.2.1.trans hinv.out.2⟩
          have := hinv.out.1
          rw [hil] at this
          rw [HH.out.2 d, this]; rfl
end Go.Proofs.YtlcnicgjlddldaaDoor
