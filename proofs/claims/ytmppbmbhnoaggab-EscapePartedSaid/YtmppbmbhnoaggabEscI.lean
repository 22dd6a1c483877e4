/- Rows of acts are read; the example; a row cut; two rows the same. -/
import Derived.Test.YtmppbmbhnoaggabEscH
namespace Go.Proofs.Ytmppbmbhnoaggab
open Go Go.RowKit
attribute [local go_sem 10000] eq_act

/-- An act lies in memory. -/
def ActAt (w : World) (g o : Nat) (a : ActV) : Prop := ∀ j u, (actC a)[j]? = some u → w.cell? ⟨g, o + j, none⟩ = some u
theorem ActAt.ext {w w' : World} {g o : Nat} {a : ActV} (h : ActAt w g o a) (hx : Ext w w') : ActAt w' g o a := fun j u hu => hx.cell (h j u hu)
theorem OwnA.act {w : World} {base : Nat} {A : Option Addr} {n c : Nat} {l : List ActV} (h : OwnA w base (.slice A n c) l) (hl : okAs l) {i : Nat} {a : ActV} (hi : l[i]? = some a) : ∃ g, A = some ⟨g, 0, none⟩ ∧ ActAt w g (i * 13) a := by
  have hpos : 0 < n := by
    obtain ⟨A', c', e, _⟩ := h.form
    injection e with _ e2 _
    have := (List.getElem?_eq_some_iff.1 hi).1
    omega
  obtain ⟨g, rfl⟩ := own_some h hpos
  refine ⟨g, rfl, fun j u hu => ?_⟩
  have := h.news _ rfl (i * 13 + j) u (cellsA_at l i j a u hl hi hu)
  rwa [add_off, Nat.zero_add] at this
/-- What a walk wants to know of an act. -/
structure ActFacts (w : World) (g o : Nat) (k r p m : Int) (n : Nat) (n0 n1 n2 n3 n4 n5 n6 n7 : Int) : Prop where
  a0 : w.cell? ⟨g, o, none⟩ = some (.int .i64 k)
  a1 : w.cell? ⟨g, o + 1, none⟩ = some (.int .i32 r)
  a2 : w.cell? ⟨g, o + 2, none⟩ = some (.int .u8 p)
  a3 : w.cell? ⟨g, o + 3, none⟩ = some (.int .u8 m)
  a4 : w.cell? ⟨g, o + 4, none⟩ = some (.int .i64 n)
  a5 : w.cell? ⟨g, o + 5, none⟩ = some (.int .i64 n0)
  a6 : w.cell? ⟨g, o + 6, none⟩ = some (.int .i64 n1)
  a7 : w.cell? ⟨g, o + 7, none⟩ = some (.int .i64 n2)
  a8 : w.cell? ⟨g, o + 8, none⟩ = some (.int .i64 n3)
  a9 : w.cell? ⟨g, o + 9, none⟩ = some (.int .i64 n4)
  aa : w.cell? ⟨g, o + 10, none⟩ = some (.int .i64 n5)
  ab : w.cell? ⟨g, o + 11, none⟩ = some (.int .i64 n6)
  ac : w.cell? ⟨g, o + 12, none⟩ = some (.int .i64 n7)
theorem ActAt.facts {w : World} {g o : Nat} {k r p m : Int} {n : Nat} {n0 n1 n2 n3 n4 n5 n6 n7 : Int} (h : ActAt w g o ⟨k, r, p, m, n, [n0, n1, n2, n3, n4, n5, n6, n7]⟩) : ActFacts w g o k r p m n n0 n1 n2 n3 n4 n5 n6 n7 :=
  ⟨h 0 _ rfl, h 1 _ rfl, h 2 _ rfl, h 3 _ rfl, h 4 _ rfl, h 5 _ rfl, h 6 _ rfl, h 7 _ rfl, h 8 _ rfl, h 9 _ rfl, h 10 _ rfl, h 11 _ rfl, h 12 _ rfl⟩
/-- A row of characters that a call lays itself. -/
theorem runes_new (W : World) (l : List Int) (hl : ∀ n, n ∈ l → isI32 n) (n : Nat) (hn : l.length = n) (hp : 0 < n) (cs : Array Value) (hcs : cs = (cellsR l).toArray) : IsRunes (W.alloc (.cells cs 21)) (.slice (some ⟨W.heap.size, 0, none⟩) n n) l := by
  subst hn hcs
  refine ⟨_, l.length, rfl, ⟨Nat.le_refl _, fun e => by cases e⟩, fun i m hi => ⟨hl m (List.mem_of_getElem? hi), _, _, rfl, ?_⟩⟩
  have hb : Blk (W.alloc (.cells (cellsR l).toArray 21)) W.heap.size 21 (cellsR l).toArray := Go.heap_alloc_new _ _
  rw [Nat.zero_add, Blk.cell hb i]
  simp [cellsR, hi]
theorem beside_new {W : World} {g n c : Nat} (h : g < W.heap.size) : Beside (.slice (some ⟨W.heap.size, 0, none⟩) n c) g := by
  intro g' off n' c' e
  injection e with e1 _ _
  injection e1 with e1
  injection e1 with e1 _ _
  omega
abbrev zero12 : Array Value := #[.int .i64 0, .int .u8 0, .int .u8 0, .int .i64 0, .int .i64 0, .int .i64 0, .int .i64 0, .int .i64 0, .int .i64 0, .int .i64 0, .int .i64 0, .int .i64 0]
/-- A new parser. -/
theorem par_new (W : World) : ParAt (W.alloc (.cells zero12 28)) W.heap.size .new := Go.heap_alloc_new _ _
/-- What is made anew, and turned, leaves all that was there. -/
theorem ext_only {a b c : World} {g : Nat} (h : Ext a b) (k : Only g b c) (hg : a.heap.size ≤ g) : Ext a c := ext_fresh h k hg
/-- What a step tells, written out. -/
theorem told_none : toldV .none = .tuple #[.agg zero13, .bool false] := rfl
theorem told_print (r : Int) : toldV ⟨1, r, 0, 0, 0, z8⟩ = .tuple #[.agg #[.int .i64 1, .int .i32 r, .int .u8 0, .int .u8 0, .int .i64 0, .int .i64 0, .int .i64 0, .int .i64 0, .int .i64 0, .int .i64 0, .int .i64 0, .int .i64 0, .int .i64 0], .bool true] := rfl
theorem told_any (k r p m : Int) (n : Nat) (n0 n1 n2 n3 n4 n5 n6 n7 : Int) : toldV ⟨k, r, p, m, n, [n0, n1, n2, n3, n4, n5, n6, n7]⟩ = .tuple #[.agg #[.int .i64 k, .int .i32 r, .int .u8 p, .int .u8 m, .int .i64 n, .int .i64 n0, .int .i64 n1, .int .i64 n2, .int .i64 n3, .int .i64 n4, .int .i64 n5, .int .i64 n6, .int .i64 n7], .bool (decide (k ≠ 0))] := rfl
def sample : List Int := [27, 91, 50, 59, 51, 72]
theorem sample_run : runE .new sample = ([⟨4, 72, 0, 0, 2, [2, 3, 0, 0, 0, 0, 0, 0]⟩], .new) := by decide
set_option maxHeartbeats 4000000 in
set_option maxRecDepth 100000 in
theorem awake_true (w : World) : Calls Try.prog 9 #[] w fun e w' => e = .returned (.bool true) ∧ Ext w w' := by
  have hx2 := ((Ext.refl w).alloc (.cells zero12 28)).alloc (.cells #[.int .i32 27, .int .i32 91, .int .i32 50, .int .i32 59, .int .i32 51, .int .i32 72] 21)
  have hp2 : ParAt ((w.alloc (.cells zero12 28)).alloc (.cells #[.int .i32 27, .int .i32 91, .int .i32 50, .int .i32 59, .int .i32 51, .int .i32 72] 21)) w.heap.size .new := (par_new w).ext ((Ext.refl _).alloc _)
  have hr2 := runes_new (w.alloc (.cells zero12 28)) sample (by unfold sample isI32; decide) 6 rfl (by decide) #[.int .i32 27, .int .i32 91, .int .i32 50, .int .i32 59, .int .i32 51, .int .i32 72] rfl
  have hb2 : Beside (.slice (some ⟨(w.alloc (.cells zero12 28)).heap.size, 0, none⟩) 6 6) w.heap.size := beside_new (by simp)
  rw [show (w.alloc (.cells zero12 28)).heap.size = w.heap.size + 1 by simp] at hr2 hb2
  have H := Lib.hid (And.intro hx2 (And.intro hp2 (And.intro hr2 hb2))); clear hx2 hp2 hr2 hb2
  go_enter Try.func9, Try.ntmps9
  go_wp2_with fail
  refine (Feed_of _ w.heap.size .new _ sample H.out.2.1 (ok_innE 0 (by decide) (by decide)) H.out.2.2.1 (fun _ => H.out.2.2.2) (by decide)).mono ?_
  rintro e w1 ⟨v, rfl, ho, _, hy⟩
  rw [sample_run] at ho
  have hxw := ext_only H.out.1 hy (Nat.le_refl _)
  obtain ⟨A, c, rfl, _⟩ := ho.form
  obtain ⟨g, rfl, hat⟩ := ho.act (i := 0) (fun a ha => by rw [List.mem_singleton.1 ha]; exact ⟨by decide, by decide, by decide, by decide, rfl, by decide, fun j hj => by
    rcases Nat.lt_or_ge j 8 with h8 | h8
    · have hj' : 2 ≤ j := hj
      have : j = 2 ∨ j = 3 ∨ j = 4 ∨ j = 5 ∨ j = 6 ∨ j = 7 := by omega
      rcases this with rfl | rfl | rfl | rfl | rfl | rfl <;> rfl
    · rw [List.getD_eq_getElem?_getD, List.getElem?_eq_none (by simpa using h8)]; rfl, by decide⟩) rfl
  obtain ⟨a0, a1, a2, a3, a4, a5, a6, a7, a8, a9, aa, ab, ac⟩ := hat.facts
  have HX := Lib.hid hxw
  clear ho hy hat hxw a2 a3 a7 a8 a9 aa ab ac
  simp only [Nat.zero_mul, Nat.zero_add] at a0 a1 a4 a5 a6
  go_wp2
  go_ret
  exact ⟨rfl, HX.out⟩
set_option maxHeartbeats 1000000 in
set_option maxRecDepth 100000 in
theorem few_of (zs : List Int) (v : Value) (w : World) (hv : IsRunes w v zs) (hm : zs.length ≤ maxLen) : Calls Try.prog 10 #[v] w fun e w' => (∃ v', e = .returned v' ∧ IsRunes w v' (fewL zs 60) ∧ ∀ W, IsRunes W v zs → IsRunes W v' (fewL zs 60)) ∧ w' = w := by
  obtain ⟨A, c, rfl, hc, _⟩ := hv.form
  unfold maxLen at hm
  by_cases h : 60 < zs.length
  · obtain ⟨g, off, rfl⟩ := hv.addr (by omega)
    have hcut := fun W (k : IsRunes W (.slice (some ⟨g, off, none⟩) zs.length c) zs) => IsRunes.cut k 60 (by omega)
    have he : fewL zs 60 = zs.take 60 := if_pos h
    rw [he]
    have H := Lib.hid (And.intro (hcut w hv) hcut); clear hcut he hv
    go_enter Try.func10, Try.ntmps10
    go_wp2
    go_ret
    exact ⟨⟨_, rfl, H.out⟩, rfl⟩
  · have he : fewL zs 60 = zs := if_neg h
    rw [he]
    have H := Lib.hid (And.intro hv he); clear he hv
    go_enter Try.func10, Try.ntmps10
    go_wp2
    go_ret
    exact ⟨⟨_, rfl, H.out.1, fun _ k => k⟩, rfl⟩
set_option maxHeartbeats 4000000 in
set_option maxRecDepth 100000 in
theorem SameA_of (l : List ActV) (va vb : Value) (w : World) (b1 b2 : Nat) (ha : OwnA w b1 va l) (hb : OwnA w b2 vb l) (hl : okAs l) (hm : l.length ≤ 1000000) : Calls Try.prog 16 #[va, vb] w fun e w' => e = .returned (.bool true) ∧ Ext w w' := by
  obtain ⟨A, c, rfl, hA⟩ := ha.form
  obtain ⟨B, d, rfl, hB⟩ := hb.form
  obtain ⟨L, hL⟩ : ∃ L, l.length = L := ⟨_, rfl⟩
  rw [hL] at ha hb hm ⊢
  have H := Lib.hid (And.intro ha (And.intro hb (And.intro hL hl))); clear ha hb hL hl hA hB
  go_enter Try.func16, Try.ntmps16
  go_wp2
  go_loopg [5] L (fun k u wr => ∃ i : Nat, u = .int .i64 i ∧ Hid (i + k = L ∧ Ext w wr))
  case atStart => exact ⟨0, rfl, Nat.zero_add _, Ext.refl w⟩
  case round =>
    obtain ⟨i, rfl, hin⟩ := hrel
    by_cases hi : i < L
    · obtain ⟨x, hx⟩ : ∃ x, l[i]? = some x := ⟨l[i]'(by rw [H.out.2.2.1]; exact hi), List.getElem?_eq_getElem _⟩
      obtain ⟨g, rfl, h1⟩ := H.out.1.act H.out.2.2.2 hx
      obtain ⟨g', rfl, h2⟩ := H.out.2.1.act H.out.2.2.2 hx
      obtain ⟨n0, n1, n2, n3, n4, n5, n6, n7, e8⟩ := eight _ (H.out.2.2.2 x (List.mem_of_getElem? hx)).len
      obtain ⟨kd, rr, pp, mm, nn, ns⟩ := x
      simp only at e8
      subst e8
      obtain ⟨a0, a1, a2, a3, a4, a5, a6, a7, a8, a9, aa, ab, ac⟩ := (h1.ext hin.out.2).facts
      obtain ⟨b0, b1, b2, b3, b4, b5, b6, b7, b8, b9, ba, bb, bc⟩ := (h2.ext hin.out.2).facts
      clear h1 h2 hx
      go_wp2_with fail
      go_quiet (fail)
      clear a0 a1 a2 a3 a4 a5 a6 a7 a8 a9 aa ab ac b0 b1 b2 b3 b4 b5 b6 b7 b8 b9 ba bb bc
      have HS := Lib.hid (hin.out.2.drewN nq)
      go_wp2_with fail
      go_roundg (gk - 1)
      case measure => have := hin.out.1; omega
      case rel => exact ⟨i + 1, by go_num, by have := hin.out.1; show i + 1 + (gk - 1) = L; omega, HS.out⟩
    · go_wp2_with fail
      go_ret
      exact ⟨rfl, hin.out.2⟩
end Go.Proofs.Ytmppbmbhnoaggab
