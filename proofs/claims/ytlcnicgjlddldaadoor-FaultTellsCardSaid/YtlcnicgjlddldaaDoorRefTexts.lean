/- What the document's faults tell: their texts; and what it and the program tell alike. -/
import Derived.Test.YtlcnicgjlddldaaDoorRefTold
import Derived.Test.YtlcnicgjlddldaaDoorFaultH
import Derived.Deep.RegionHeld3
namespace Go.Proofs.YtlcnicgjlddldaaDoor
open Go Go.RowKit

set_option maxHeartbeats 2000000 in
set_option maxRecDepth 100000 in
theorem digits_pos (c : Nat) (w : World) (hc : c ≤ 9223372036854775807) : Calls Tryd.prog 46 #[.int .i64 c] w fun e w' => e = .returned (.string ⟨(Lib.itoa c).toArray⟩) ∧ Ext w w' := by
  go_enter Tryd.func46, Tryd.ntmps46
  go_wp2
  go_loopg [3, 4] c (fun k n s wr => ∃ (m : Nat) (x : ByteArray), m ≤ k ∧ m ≤ c ∧ n = .int .u64 m ∧ s = .string x ∧ Hid (Lib.decDigits c = Lib.decDigits m ++ x.data.toList) ∧ Hid (Ext w wr))
  case atStart => exact ⟨c, _, Nat.le_refl _, Nat.le_refl _, rfl, rfl, by show _ = _; simp, Ext.refl w⟩
  case round =>
    obtain ⟨m, x, hk, hmc, rfl, rfl, hd, hx⟩ := hrel
    have hl : x.size ≤ 21 := by
      have h1 := Lib.itoa_length_le c (by omega) (by omega)
      rw [Lib.itoa_nonneg, hd.out, List.length_append] at h1
      have h2 : x.data.toList.length = x.size := Array.length_toList
      omega
    by_cases h10 : 10 ≤ m
    · have hq : (m : Int) % 10 < 10 := by omega
      have hq0 : 0 ≤ (m : Int) % 10 := by omega
      have k1 := conv1 (wr.alloc (.cells #[.int .u8 (48 + (m : Int) % 10)] 5)) ⟨wr.heap.size, 0, none⟩ 1 (48 + (m : Int) % 10) (by simp) (by omega) (by omega)
      go_wp2
      go_roundg (m / 10)
      case measure => omega
      case rel =>
        refine ⟨m / 10, _, Nat.le_refl _, by omega, by go_num, rfl, ?_, hx.out.alloc _⟩
        show _ = _
        rw [hd.out, dec_step m h10, ByteArray.data_append, Array.toList_append]
        simp
    · have hz : Lib.decDigits m = [UInt8.ofNat (48 + m)] := dec_one m (by omega)
      have HZ := Lib.hid hz; clear hz
      have k1 := conv1 (wr.alloc (.cells #[.int .u8 (48 + (m : Int))] 5)) ⟨wr.heap.size, 0, none⟩ 1 (48 + (m : Int)) (by simp) (by omega) (by omega)
      go_wp2
      go_ret
      refine ⟨?_, hx.out.alloc _⟩
      have h1 := hd.out
      rw [HZ.out] at h1
      rw [Lib.itoa_nonneg, h1]
      refine congrArg (fun b => Ending.returned (.string b)) (ByteArray.ext (Array.ext' ?_))
      simp
set_option maxHeartbeats 2000000 in
set_option maxRecDepth 100000 in
theorem digits_neg (c : Nat) (w : World) (hc1 : 1 ≤ c) (hc : c ≤ 9223372036854775808) : Calls Tryd.prog 46 #[.int .i64 (-(c : Int))] w fun e w' => e = .returned (.string ⟨(Lib.itoa (-(c : Int))).toArray⟩) ∧ Ext w w' := by
  have hb := wrap_back c hc
  go_enter Tryd.func46, Tryd.ntmps46
  go_wp2
  clear hb
  go_loopg [3, 4] c (fun k n s wr => ∃ (m : Nat) (x : ByteArray), m ≤ k ∧ m ≤ c ∧ n = .int .u64 m ∧ s = .string x ∧ Hid (Lib.decDigits c = Lib.decDigits m ++ x.data.toList) ∧ Hid (Ext w wr))
  case atStart => exact ⟨c, _, Nat.le_refl _, Nat.le_refl _, rfl, rfl, by show _ = _; simp, Ext.refl w⟩
  case round =>
    obtain ⟨m, x, hk, hmc, rfl, rfl, hd, hx⟩ := hrel
    have hl : x.size ≤ 21 := by
      have h1 := Lib.itoa_length_le (-(c : Int)) (by omega) (by omega)
      rw [Lib.itoa_neg c hc1, List.length_cons, hd.out, List.length_append] at h1
      have h2 : x.data.toList.length = x.size := Array.length_toList
      omega
    by_cases h10 : 10 ≤ m
    · have hq : (m : Int) % 10 < 10 := by omega
      have hq0 : 0 ≤ (m : Int) % 10 := by omega
      have k1 := conv1 (wr.alloc (.cells #[.int .u8 (48 + (m : Int) % 10)] 5)) ⟨wr.heap.size, 0, none⟩ 1 (48 + (m : Int) % 10) (by simp) (by omega) (by omega)
      go_wp2
      go_roundg (m / 10)
      case measure => omega
      case rel =>
        refine ⟨m / 10, _, Nat.le_refl _, by omega, by go_num, rfl, ?_, hx.out.alloc _⟩
        show _ = _
        rw [hd.out, dec_step m h10, ByteArray.data_append, Array.toList_append]
        simp
    · have hz : Lib.decDigits m = [UInt8.ofNat (48 + m)] := dec_one m (by omega)
      have HZ := Lib.hid hz; clear hz
      have k1 := conv1 (wr.alloc (.cells #[.int .u8 (48 + (m : Int))] 5)) ⟨wr.heap.size, 0, none⟩ 1 (48 + (m : Int)) (by simp) (by omega) (by omega)
      go_wp2
      go_ret
      refine ⟨?_, hx.out.alloc _⟩
      have h1 := hd.out
      rw [HZ.out] at h1
      rw [Lib.itoa_neg c hc1, h1]
      refine congrArg (fun b => Ending.returned (.string b)) (ByteArray.ext (Array.ext' ?_))
      simp
theorem digits_of (c : Int) (w : World) (h0 : -9223372036854775808 ≤ c) (h1 : c ≤ 9223372036854775807) : Calls Tryd.prog 46 #[.int .i64 c] w fun e w' => e = .returned (.string ⟨(Lib.itoa c).toArray⟩) ∧ Ext w w' := by
  by_cases h : c < 0
  · obtain ⟨u, rfl⟩ : ∃ u : Nat, c = -(u : Int) := ⟨c.natAbs, by omega⟩
    exact digits_neg u w (by omega) (by omega)
  · obtain ⟨u, rfl⟩ : ∃ u : Nat, c = (u : Int) := ⟨c.toNat, by omega⟩
    exact digits_pos u w (by omega)
theorem textR_false : ∀ (b : List Tr), b ≠ [] → textAll false b = [59, 32] ++ textAll true b
  | [], h => absurd rfl h
  | t :: ts, _ => by rw [textAll, textAll]; simp
theorem textR_append (f : Bool) : ∀ (a b : List Tr), a ≠ [] → textAll f (a ++ b) = textAll f a ++ textAll false b
  | [], b, h => absurd rfl h
  | [t], b, _ => by rw [List.singleton_append, textAll, textAll, textAll]; simp
  | t :: u :: a, b, _ => by
    have ih := textR_append false (u :: a) b (by simp)
    rw [List.cons_append, show textAll f (t :: (u :: a ++ b)) = (if f then [] else [59, 32]) ++ t.text ++ textAll false (u :: a ++ b) from by rw [textAll], ih, show textAll f (t :: u :: a) = (if f then [] else [59, 32]) ++ t.text ++ textAll false (u :: a) from by rw [textAll]]
    simp only [List.append_assoc]

/-- A tree that some memory holds: its numbers fit. -/
def Fits (t : Tr) : Prop := ∃ w v, Rep w t v
theorem Fits.code {c : Int} (h : Fits (.code c)) : -9223372036854775808 ≤ c ∧ c ≤ 9223372036854775807 := by
  obtain ⟨w, v, _, _, h1, h2⟩ := h
  exact ⟨h1, h2⟩
theorem Fits.place {p : Int} {t : Tr} (h : Fits (.place p t)) : (-9223372036854775808 ≤ p ∧ p ≤ 9223372036854775807) ∧ Fits t := by
  obtain ⟨w, v, u, x, _, h1, h2⟩ := h
  exact ⟨h1, w, _, h2⟩
theorem Fits.word {s : ByteArray} {t : Tr} (h : Fits (.word s t)) : Fits t := by
  obtain ⟨w, v, u, x, _, h2⟩ := h
  exact ⟨w, _, h2⟩
theorem Fits.row {ts : List Tr} (h : Fits (.row ts)) {i : Nat} {u : Tr} (hu : ts[i]? = some u) : Fits u := by
  obtain ⟨w, v, r, b, off, cap, _, _, _, _, _, _, h⟩ := h
  obtain ⟨y, x, _, hr⟩ := RepAll.at h hu
  exact ⟨w, _, hr⟩
theorem ba_of (l : List UInt8) (b : ByteArray) (h : b.data.toList = l) : (⟨l.toArray⟩ : ByteArray) = b := by
  subst h
  apply ByteArray.ext
  simp
theorem textAll_takeS (l : List Tr) (i : Nat) (u : Tr) (h : l[i]? = some u) : textAll true (l.take (i + 1)) = textAll true (l.take i) ++ (if i = 0 then [] else [59, 32]) ++ u.text := by
  rw [List.take_add_one, h]
  show textAll true (l.take i ++ [u]) = _
  by_cases hi : i = 0
  · subst hi
    rw [List.take_zero, List.nil_append, if_pos rfl, textAll, textAll, textAll]; simp
  · have hne : l.take i ≠ [] := by
      intro he
      have h2 := (List.getElem?_eq_some_iff.1 h).1
      have h3 : (l.take i).length = i := by rw [List.length_take]; omega
      rw [he] at h3
      simp at h3
      omega
    rw [textR_append true _ _ hne, if_neg hi, textAll, textAll]; simp
theorem textAll_take_le (l : List Tr) (i : Nat) : (textAll true (l.take i)).length ≤ (textAll true l).length := by
  by_cases h : l.take i = []
  · rw [h, textAll]; simp
  · have := textR_append true (l.take i) (l.drop i) h
    rw [List.take_append_drop] at this
    rw [this, List.length_append]; omega
/-- What a part's text reads of its memory. -/
def KX (W0 : World) (B g j cap k : Nat) (x : Value) (c q : Int) (s : ByteArray) (a : Option Addr) (m cp : Nat) (W : World) : Prop :=
  W.cell? ⟨B, j, none⟩ = some x ∧ W.cell? ⟨B, 4, none⟩ = some (.slice (some ⟨g, 0, none⟩) 1 cap) ∧ W.cell? ⟨g, 0, none⟩ = some (.int .i64 k) ∧ W.cell? ⟨g, 1, none⟩ = some (.int .i64 c) ∧ W.cell? ⟨g, 2, none⟩ = some (.int .i64 q) ∧ W.cell? ⟨g, 3, none⟩ = some (.string s) ∧ W.cell? ⟨g, 4, none⟩ = some (.slice a m cp) ∧ Ext W0 W
theorem KX.ext {W0 : World} {B g j cap k : Nat} {x : Value} {c q : Int} {s : ByteArray} {a : Option Addr} {m cp : Nat} {W W' : World} (h : KX W0 B g j cap k x c q s a m cp W) (hx : Ext W W') : KX W0 B g j cap k x c q s a m cp W' :=
  ⟨hx.cell h.1, hx.cell h.2.1, hx.cell h.2.2.1, hx.cell h.2.2.2.1, hx.cell h.2.2.2.2.1, hx.cell h.2.2.2.2.2.1, hx.cell h.2.2.2.2.2.2.1, h.2.2.2.2.2.2.2.trans hx⟩
theorem KX.last {W0 : World} {B g j cap k : Nat} {x : Value} {c q : Int} {s : ByteArray} {a : Option Addr} {m cp : Nat} {W : World} (h : KX W0 B g j cap k x c q s a m cp W) : Ext W0 W := h.2.2.2.2.2.2.2
theorem kx_calls {W0 : World} {B g j cap k : Nat} {x : Value} {c q : Int} {s : ByteArray} {a : Option Addr} {m cp : Nat} {f : FuncId} {args : Array Value} {r : Value} (h : ∀ W, Ext W0 W → Calls Tryd.prog f args W fun e w' => e = .returned r ∧ Ext W w') :
    ∀ W, KX W0 B g j cap k x c q s a m cp W → Calls Tryd.prog f args W fun e w' => e = .returned r ∧ KX W0 B g j cap k x c q s a m cp w' := by
  intro W hW
  refine (h W hW.last).mono ?_
  rintro e w' ⟨rfl, hx⟩
  exact ⟨rfl, hW.ext hx⟩
theorem ext_drew_iff2 (a w : World) : Ext a w.drew ↔ Ext a w := ⟨fun h => ⟨h.os, h.tape, h.output, h.size, h.block⟩, Ext.drew⟩
attribute [local simp] ext_drew_iff2
set_option maxHeartbeats 4000000 in
set_option maxRecDepth 100000 in
theorem refText_rep (S : Nat → Prop) : ∀ (N : Nat) (t : Tr) (cs : List Value) (w : World), t.sz ≤ N → Fits t → t.text.length ≤ 1000000 → RefT S w t cs → Calls Tryd.prog 20 #[.agg cs.toArray] w fun e w' => e = .returned (.string ⟨t.text.toArray⟩) ∧ Ext w w'
  | 0, t, cs, w, hn, _, _, _ => by cases t <;> simp [Tr.sz] at hn
  | N + 1, t, cs, w, hn, hf, hl, h => by
    cases t with
    | code c =>
      obtain ⟨rfl, hc⟩ := h
      have hr := hf.code
      have hz : (Lib.itoa c).length ≤ 21 := by
        have := Lib.itoa_length_le c hr.1 hr.2
        omega
      have hp : (⟨(Tr.code c).text.toArray⟩ : ByteArray) = ⟨#[108, 121, 99, 101, 117, 109, 58, 32, 101, 114, 114, 111, 114, 32]⟩ ++ ⟨(Lib.itoa c).toArray⟩ := ba_of _ _ (by rw [ByteArray.data_append, Array.toList_append, Tr.text, codeText])
      have HP := Lib.hid hp; clear hp hc hn hf hl
      go_enter Tryd.func20, Tryd.ntmps20
      go_wp2_with fail
      refine (digits_of c _ hr.1 hr.2).mono ?_
      rintro e w2 ⟨rfl, hx2⟩
      have hE : Ext w w2 := ((Ext.refl w).alloc _).trans hx2
      have HE := Lib.hid hE; clear hE hx2
      go_wp2
      go_ret
      exact ⟨by rw [HP.out]; rfl, HE.out⟩
    | place p t =>
      obtain ⟨g, cap, ds, rfl, hg, hlen, hc, h⟩ := h
      obtain ⟨k, c, q, s1, a, m, cp, rfl, d0, d1, d2, d3, d4⟩ := RefT.five h hc
      have hx : Ext w (w.alloc (.cells #[.int .i64 2, .int .i64 0, .int .i64 p, .string ⟨#[]⟩, .slice (some ⟨g, 0, none⟩) 1 cap] 37)) := (Ext.refl w).alloc _
      have hb0 := Go.heap_alloc_new w (.cells #[.int .i64 2, .int .i64 0, .int .i64 p, .string ⟨#[]⟩, .slice (some ⟨g, 0, none⟩) 1 cap] 37)
      have e3 : (w.alloc (.cells #[.int .i64 2, .int .i64 0, .int .i64 p, .string ⟨#[]⟩, .slice (some ⟨g, 0, none⟩) 1 cap] 37)).cell? ⟨w.heap.size, 2, none⟩ = some (.int .i64 p) := by rw [Lib.cell_of_heap hb0]; rfl
      have e4 : (w.alloc (.cells #[.int .i64 2, .int .i64 0, .int .i64 p, .string ⟨#[]⟩, .slice (some ⟨g, 0, none⟩) 1 cap] 37)).cell? ⟨w.heap.size, 4, none⟩ = some (.slice (some ⟨g, 0, none⟩) 1 cap) := by rw [Lib.cell_of_heap hb0]; rfl
      have hN : t.sz ≤ N := by simp [Tr.sz] at hn; omega
      have hr := hf.place.1
      have hft := hf.place.2
      have hz : (Lib.itoa p).length ≤ 21 := by
        have := Lib.itoa_length_le p hr.1 hr.2
        omega
      have  htl : t.text.length ≤ 1000000 := by rw [Tr.text] at hl; simp at hl; omega
      have hp : (⟨(Tr.place p t).text.toArray⟩ : ByteArray) = ⟨#[97, 116, 32]⟩ ++ ⟨(Lib.itoa p).toArray⟩ ++ ⟨#[58, 32]⟩ ++ ⟨t.text.toArray⟩ := ba_of _ _ (by rw [ByteArray.data_append, ByteArray.data_append, ByteArray.data_append, Array.toList_append, Array.toList_append, Array.toList_append, Tr.text])
      have HP := Lib.hid (And.intro hp (And.intro hft  htl)); clear hp hft hf
      have HR := Lib.hid (RefT.kept (hx.but S) (fun _ h => .inl h) h)
      have HD := Lib.hid (And.intro (hx.cell d0) (And.intro (hx.cell d1) (And.intro (hx.cell d2) (And.intro (hx.cell d3) (hx.cell d4)))))
      have HX := Lib.hid (And.intro hx (And.intro hN (And.intro e3 e4))); clear hx hb0 e3 e4 hN hn hl h hc hlen hg d0 d1 d2 d3 d4
      have d0 := HD.out.1
      have d1 := HD.out.2.1
      have d2 := HD.out.2.2.1
      have d3 := HD.out.2.2.2.1
      have d4 := HD.out.2.2.2.2
      have e2 := HX.out.2.2.1
      have e4 := HX.out.2.2.2
      have z1 : ¬ 9223372036854775807 < 3 + (Lib.itoa p).length := by omega
      have z2 : ¬ 9223372036854775807 < 3 + (Lib.itoa p).length + 2 := by omega
      have z3 : ¬ 9223372036854775807 < 3 + (Lib.itoa p).length + 2 + t.text.length := by omega
      clear hz
      have FD := Lib.hid (kx_calls (W0 := (w.alloc (.cells #[.int .i64 2, .int .i64 0, .int .i64 p, .string ⟨#[]⟩, .slice (some ⟨g, 0, none⟩) 1 cap] 37))) (B := w.heap.size) (g := g) (j := 2) (cap := cap) (k := k) (x := .int .i64 p) (c := c) (q := q) (s := s1) (a := a) (m := m) (cp := cp) (fun W _ => digits_of p W hr.1 hr.2))
      have FT := Lib.hid (kx_calls (W0 := (w.alloc (.cells #[.int .i64 2, .int .i64 0, .int .i64 p, .string ⟨#[]⟩, .slice (some ⟨g, 0, none⟩) 1 cap] 37))) (B := w.heap.size) (g := g) (j := 2) (cap := cap) (k := k) (x := .int .i64 p) (c := c) (q := q) (s := s1) (a := a) (m := m) (cp := cp) (fun W hW => refText_rep S N t [.int .i64 k, .int .i64 c, .int .i64 q, .string s1, .slice a m cp] W HX.out.2.1 HP.out.2.1  htl (RefT.kept (hW.but S) (fun _ h => .inl h) HR.out)))
      have E0 := Ext.refl (w.alloc (.cells #[.int .i64 2, .int .i64 0, .int .i64 p, .string ⟨#[]⟩, .slice (some ⟨g, 0, none⟩) 1 cap] 37))
      go_enter Tryd.func20, Tryd.ntmps20
      go_wp2_with fail
      generalize hW0 : (w.alloc (.cells #[.int .i64 2, .int .i64 0, .int .i64 p, .string ⟨#[]⟩, .slice (some ⟨g, 0, none⟩) 1 cap] 37)) = W0 at d0 d1 d2 d3 d4 e2 e4 FD FT E0 HX HR HD ⊢
      clear hW0 HD
      go_region_held3 (fun w' => w'.cell? ⟨w.heap.size, 2, none⟩ = some (.int .i64 p) ∧ w'.cell? ⟨w.heap.size, 4, none⟩ = some (.slice (some ⟨g, 0, none⟩) 1 cap) ∧ w'.cell? ⟨g, 0, none⟩ = some (.int .i64 k) ∧ w'.cell? ⟨g, 1, none⟩ = some (.int .i64 c) ∧ w'.cell? ⟨g, 2, none⟩ = some (.int .i64 q) ∧ w'.cell? ⟨g, 3, none⟩ = some (.string s1) ∧ w'.cell? ⟨g, 4, none⟩ = some (.slice a m cp) ∧ Ext W0 w')
        (first | exact gS | go_keep)
        (first
          | (go_at_call 46; refine (FD.out _ (by first | exact gS | assumption)).mono ?_; rintro e wn ⟨rfl, gS⟩)
          | (go_at_call 20; refine (FT.out _ (by first | exact gS | assumption)).mono ?_; rintro e wn ⟨rfl, gS⟩))
      all_goals
        have HE := Lib.hid (HX.out.1.trans gS.2.2.2.2.2.2.2)
        go_wp2
        go_ret
        exact ⟨by rw [HP.out.1]; rfl, HE.out⟩
    | word s t =>
      obtain ⟨g, cap, ds, rfl, hg, hlen, hc, h⟩ := h
      obtain ⟨k, c, q, s1, a, m, cp, rfl, d0, d1, d2, d3, d4⟩ := RefT.five h hc
      have hx : Ext w (w.alloc (.cells #[.int .i64 3, .int .i64 0, .int .i64 0, .string s, .slice (some ⟨g, 0, none⟩) 1 cap] 37)) := (Ext.refl w).alloc _
      have hb0 := Go.heap_alloc_new w (.cells #[.int .i64 3, .int .i64 0, .int .i64 0, .string s, .slice (some ⟨g, 0, none⟩) 1 cap] 37)
      have e3 : (w.alloc (.cells #[.int .i64 3, .int .i64 0, .int .i64 0, .string s, .slice (some ⟨g, 0, none⟩) 1 cap] 37)).cell? ⟨w.heap.size, 3, none⟩ = some (.string s) := by rw [Lib.cell_of_heap hb0]; rfl
      have e4 : (w.alloc (.cells #[.int .i64 3, .int .i64 0, .int .i64 0, .string s, .slice (some ⟨g, 0, none⟩) 1 cap] 37)).cell? ⟨w.heap.size, 4, none⟩ = some (.slice (some ⟨g, 0, none⟩) 1 cap) := by rw [Lib.cell_of_heap hb0]; rfl
      have hN : t.sz ≤ N := by simp [Tr.sz] at hn; omega
      have hft := hf.word
      have hz : s.size ≤ 1000000 := by
        have h1 : s.data.toList.length = s.size := Array.length_toList
        rw [Tr.text, List.length_append, List.length_append, h1] at hl; omega
      have htl : t.text.length ≤ 1000000 := by rw [Tr.text] at hl; simp at hl; omega
      have hp : (⟨(Tr.word s t).text.toArray⟩ : ByteArray) = s ++ ⟨#[58, 32]⟩ ++ ⟨t.text.toArray⟩ := ba_of _ _ (by rw [ByteArray.data_append, ByteArray.data_append, Array.toList_append, Array.toList_append, Tr.text])
      have HP := Lib.hid (And.intro hp (And.intro hft htl)); clear hp hft hf
      have HR := Lib.hid (RefT.kept (hx.but S) (fun _ h => .inl h) h)
      have HD := Lib.hid (And.intro (hx.cell d0) (And.intro (hx.cell d1) (And.intro (hx.cell d2) (And.intro (hx.cell d3) (hx.cell d4)))))
      have HX := Lib.hid (And.intro hx (And.intro hN (And.intro e3 e4))); clear hx hb0 e3 e4 hN hn hl h hc hlen hg d0 d1 d2 d3 d4
      have d0 := HD.out.1
      have d1 := HD.out.2.1
      have d2 := HD.out.2.2.1
      have d3 := HD.out.2.2.2.1
      have d4 := HD.out.2.2.2.2
      have e2 := HX.out.2.2.1
      have e4 := HX.out.2.2.2
      have z1 : ¬ 9223372036854775807 < s.size + 2 := by omega
      have z2 : ¬ 9223372036854775807 < s.size + 2 + t.text.length := by omega
      clear hz
      have FT := Lib.hid (kx_calls (W0 := (w.alloc (.cells #[.int .i64 3, .int .i64 0, .int .i64 0, .string s, .slice (some ⟨g, 0, none⟩) 1 cap] 37))) (B := w.heap.size) (g := g) (j := 3) (cap := cap) (k := k) (x := .string s) (c := c) (q := q) (s := s1) (a := a) (m := m) (cp := cp) (fun W hW => refText_rep S N t [.int .i64 k, .int .i64 c, .int .i64 q, .string s1, .slice a m cp] W HX.out.2.1 HP.out.2.1 htl (RefT.kept (hW.but S) (fun _ h => .inl h) HR.out)))
      have E0 := Ext.refl (w.alloc (.cells #[.int .i64 3, .int .i64 0, .int .i64 0, .string s, .slice (some ⟨g, 0, none⟩) 1 cap] 37))
      go_enter Tryd.func20, Tryd.ntmps20
      go_wp2_with fail
      generalize hW0 : (w.alloc (.cells #[.int .i64 3, .int .i64 0, .int .i64 0, .string s, .slice (some ⟨g, 0, none⟩) 1 cap] 37)) = W0 at d0 d1 d2 d3 d4 e2 e4 FT E0 HX HR HD ⊢
      clear hW0 HD
      go_region_held3 (fun w' => w'.cell? ⟨w.heap.size, 3, none⟩ = some (.string s) ∧ w'.cell? ⟨w.heap.size, 4, none⟩ = some (.slice (some ⟨g, 0, none⟩) 1 cap) ∧ w'.cell? ⟨g, 0, none⟩ = some (.int .i64 k) ∧ w'.cell? ⟨g, 1, none⟩ = some (.int .i64 c) ∧ w'.cell? ⟨g, 2, none⟩ = some (.int .i64 q) ∧ w'.cell? ⟨g, 3, none⟩ = some (.string s1) ∧ w'.cell? ⟨g, 4, none⟩ = some (.slice a m cp) ∧ Ext W0 w')
        (first | exact gS | go_keep)
        ((go_at_call 20; refine (FT.out _ (by first | exact gS | assumption)).mono ?_; rintro e wn ⟨rfl, gS⟩))
      all_goals
        have HE := Lib.hid (HX.out.1.trans gS.2.2.2.2.2.2.2)
        go_wp2
        go_ret
        exact ⟨by rw [HP.out.1]; rfl, HE.out⟩
    | row ts =>
      obtain ⟨g, cap, rfl, hg, h2, h3, h⟩ := h
      have hx : Ext w (w.alloc (.cells #[.int .i64 4, .int .i64 0, .int .i64 0, .string ⟨#[]⟩, .slice (some ⟨g, 0, none⟩) ts.length cap] 37)) := (Ext.refl w).alloc _
      have hb0 := Go.heap_alloc_new w (.cells #[.int .i64 4, .int .i64 0, .int .i64 0, .string ⟨#[]⟩, .slice (some ⟨g, 0, none⟩) ts.length cap] 37)
      have e4 : (w.alloc (.cells #[.int .i64 4, .int .i64 0, .int .i64 0, .string ⟨#[]⟩, .slice (some ⟨g, 0, none⟩) ts.length cap] 37)).cell? ⟨w.heap.size, 4, none⟩ = some (.slice (some ⟨g, 0, none⟩) ts.length cap) := by rw [Lib.cell_of_heap hb0]; rfl
      have hfr := fun (i : Nat) (u : Tr) (hu : ts[i]? = some u) => hf.row hu
      have hsz := fun (i : Nat) (u : Tr) (hu : ts[i]? = some u) => sz_mem ts i u hu
      have htx : (Tr.row ts).text = textAll true ts := by rw [Tr.text]
      rw [htx] at hl
      have hn' : szAll ts ≤ N := by simp [Tr.sz] at hn; omega
      have HB := Lib.hid (And.intro e4 (And.intro hx (And.intro hn' (And.intro h (And.intro hfr (And.intro hsz (And.intro htx (And.intro hl hg)))))))); clear e4 hx hn hn' h hfr hsz htx hl hf hb0 hg
      go_enter Tryd.func20, Tryd.ntmps20
      go_wp2
      generalize hW0 : (w.alloc (.cells #[.int .i64 4, .int .i64 0, .int .i64 0, .string ⟨#[]⟩, .slice (some ⟨g, 0, none⟩) ts.length cap] 37)) = W0 at HB ⊢
      clear hW0
      go_loopg [3, 4] ts.length (fun k sv c wr => ∃ (i : Nat) (x : ByteArray), Hid (i + k = ts.length) ∧ sv = .string x ∧ c = .int .i64 i ∧ Hid (x = ⟨(textAll true (ts.take i)).toArray⟩ ∧ Ext W0 wr))
      case atStart => exact ⟨0, _, Nat.zero_add _, rfl, rfl, by simp [textAll], Ext.refl _⟩
      case round =>
        obtain ⟨i, x, hi, rfl, rfl, hinv⟩ := hrel
        have e4 := hinv.out.2.cell HB.out.1
        have hxz : x.size ≤ 1000000 := by
          rw [hinv.out.1, show (⟨(textAll true (ts.take i)).toArray⟩ : ByteArray).size = (textAll true (ts.take i)).length from by simp [ByteArray.size]]
          exact Nat.le_trans (textAll_take_le ts i) HB.out.2.2.2.2.2.2.2.1
        by_cases hlt : i < ts.length
        · obtain ⟨u, hu⟩ : ∃ u, ts[i]? = some u := ⟨ts[i], List.getElem?_eq_getElem hlt⟩
          obtain ⟨ds, hc, hr⟩ := RefAll.at (RefAll.kept (hg := HB.out.2.2.2.2.2.2.2.2) ((HB.out.2.1.trans hinv.out.2).but S) (fun _ h => .inl h) HB.out.2.2.2.1) hu
          rw [Nat.zero_add] at hc
          obtain ⟨k, c, q, s, a, m, cp, rfl, d0, d1, d2, d3, d4⟩ := RefT.five hr hc
          have hul : u.text.length ≤ 1000000 := by
            have h1 := textAll_takeS ts i u hu
            have h2 := textAll_take_le ts (i + 1)
            rw [h1, List.length_append, List.length_append] at h2
            have h3 := HB.out.2.2.2.2.2.2.2.1
            omega
          have hus : u.sz ≤ N := by have h1 := HB.out.2.2.2.2.2.1 i u hu; have h2 := HB.out.2.2.1; omega
          have z1 : ¬ 9223372036854775807 < x.size + 2 := by omega
          have z2 : ¬ 9223372036854775807 < x.size + 2 + u.text.length := by omega
          have z3 : ¬ 9223372036854775807 < x.size + u.text.length := by omega
          have hp : (⟨(textAll true (ts.take (i + 1))).toArray⟩ : ByteArray) = (if i = 0 then x else x ++ ⟨#[59, 32]⟩) ++ ⟨u.text.toArray⟩ := by
            refine ba_of _ _ ?_
            rw [textAll_takeS ts i u hu, hinv.out.1]
            by_cases h0 : i = 0
            · rw [if_pos h0, if_pos h0, ByteArray.data_append, Array.toList_append]; simp
            · rw [if_neg h0, if_neg h0, ByteArray.data_append, ByteArray.data_append, Array.toList_append, Array.toList_append]
          have HU := Lib.hid (And.intro hr (And.intro hus (And.intro (HB.out.2.2.2.2.1 i u hu) (And.intro hul hp)))); clear hu hc hr hus hul hp hxz
          by_cases h0 : i = 0
          · have HI0 := Lib.hid h0
            have hi0 : ¬ (0 : Int) < (i : Int) := by omega
            clear h0
            go_wp2_with fail
            refine (refText_rep S N u _ _ HU.out.2.1 HU.out.2.2.1 HU.out.2.2.2.1 HU.out.1).mono ?_
            rintro e w2 ⟨rfl, hx2⟩
            have HE := Lib.hid (hinv.out.2.trans hx2); clear hx2 d0 d1 d2 d3 d4 e4
            go_wp2
            go_roundg (gk - 1)
            case measure => have := hi.out; omega
            case rel =>
              refine ⟨i + 1, _, ?_, rfl, by go_num, ?_, HE.out⟩
              · show i + 1 + (gk - 1) = ts.length
                have := hi.out; omega
              · rw [HU.out.2.2.2.2, if_pos HI0.out]
          · have HI0 := Lib.hid h0
            have hi0 : (0 : Int) < (i : Int) := by omega
            clear h0
            go_wp2_with fail
            refine (refText_rep S N u _ _ HU.out.2.1 HU.out.2.2.1 HU.out.2.2.2.1 HU.out.1).mono ?_
            rintro e w2 ⟨rfl, hx2⟩
            have HE := Lib.hid (hinv.out.2.trans hx2); clear hx2 d0 d1 d2 d3 d4 e4
            go_wp2
            go_roundg (gk - 1)
            case measure => have := hi.out; omega
            case rel =>
              refine ⟨i + 1, _, ?_, rfl, by go_num, ?_, HE.out⟩
              · show i + 1 + (gk - 1) = ts.length
                have := hi.out; omega
              · rw [HU.out.2.2.2.2, if_neg HI0.out]
        · have hil : ts.take i = ts := List.take_of_length_le (by omega)
          have hxe : x = ⟨(textAll true ts).toArray⟩ := by rw [hinv.out.1, hil]
          have HXE := Lib.hid hxe; clear hxe hil hxz
          go_wp2
          go_ret
          exact ⟨by rw [HB.out.2.2.2.2.2.2.1, ← HXE.out]; rfl, HB.out.2.1.trans hinv.out.2⟩

def noneAgg : Value := .agg #[.int .i64 0, .int .i64 0, .int .i64 0, .string ⟨#[]⟩, .slice none 0 0]
set_option maxHeartbeats 1000000 in
set_option maxRecDepth 100000 in
theorem refCode_none (w : World) : Calls Tryd.prog 16 #[.agg #[.int .i64 0, .int .i64 0, .int .i64 0, .string ⟨#[]⟩, .slice none 0 0]] w fun e w' => e = .returned (.int .i64 0) ∧ Ext w w' := by
  go_enter Tryd.func16, Tryd.ntmps16
  go_wp2
  go_ret
  exact ⟨rfl, (Ext.refl w).alloc _⟩
set_option maxHeartbeats 1000000 in
set_option maxRecDepth 100000 in
theorem refIs_none (d : Int) (w : World) : Calls Tryd.prog 22 #[.agg #[.int .i64 0, .int .i64 0, .int .i64 0, .string ⟨#[]⟩, .slice none 0 0], .int .i64 d] w fun e w' => e = .returned (.bool (decide (d = 0))) ∧ Ext w w' := by
  by_cases h : d = 0
  · subst h
    go_enter Tryd.func22, Tryd.ntmps22
    go_wp2
    go_ret
    exact ⟨rfl, (Ext.refl w).alloc _⟩
  · have hb : ((0 : Int) == d) = false := by simp; omega
    have H := Lib.hid h; clear h
    go_enter Tryd.func22, Tryd.ntmps22
    go_wp2
    go_ret
    exact ⟨by rw [decide_eq_false H.out]; rfl, (Ext.refl w).alloc _⟩
set_option maxHeartbeats 1000000 in
set_option maxRecDepth 100000 in
theorem refPlace_none (w : World) : Calls Tryd.prog 14 #[.agg #[.int .i64 0, .int .i64 0, .int .i64 0, .string ⟨#[]⟩, .slice none 0 0]] w fun e w' => e = .returned (.agg #[.int .i64 0, .bool false]) ∧ Ext w w' := by
  go_enter Tryd.func14, Tryd.ntmps14
  go_wp2
  exact bodyPost_ret (v := .agg #[.int .i64 0, .bool false]) (by simp [results, Tryd.results14, go_sem]) rfl ⟨rfl, ((Ext.refl w).alloc _).alloc _⟩
set_option maxHeartbeats 1000000 in
set_option maxRecDepth 100000 in
theorem refPath_none (w : World) : Calls Tryd.prog 18 #[.agg #[.int .i64 0, .int .i64 0, .int .i64 0, .string ⟨#[]⟩, .slice none 0 0]] w fun e w' => e = .returned (.string ⟨#[]⟩) ∧ Ext w w' := by
  go_enter Tryd.func18, Tryd.ntmps18
  go_wp2
  go_ret
  exact ⟨rfl, (Ext.refl w).alloc _⟩
set_option maxHeartbeats 1000000 in
set_option maxRecDepth 100000 in
theorem refText_none (w : World) : Calls Tryd.prog 20 #[.agg #[.int .i64 0, .int .i64 0, .int .i64 0, .string ⟨#[]⟩, .slice none 0 0]] w fun e w' => e = .returned (.string ⟨#[]⟩) ∧ Ext w w' := by
  go_enter Tryd.func20, Tryd.ntmps20
  go_wp2
  refine wp_loop_rounds 1 ?_
  rw [rounds_succ]
  go_wp2
  go_ret
  exact ⟨rfl, (Ext.refl w).alloc _⟩
/-- What the document and the program tell alike. -/
theorem refCode_O (S : Nat → Prop) (u : Option Tr) (cs : List Value) (w : World) (h : RefO S w u cs) : Calls Tryd.prog 16 #[.agg cs.toArray] w fun e w' => e = .returned (.int .i64 (codeU u)) ∧ Ext w w' := by
  cases u with
  | none => obtain rfl : cs = refNone := h; exact refCode_none w
  | some t => exact refCode_rep S t.sz t cs w (Nat.le_refl _) h
theorem refIs_O (S : Nat → Prop) (u : Option Tr) (cs : List Value) (d : Int) (w : World) (h : RefO S w u cs) : Calls Tryd.prog 22 #[.agg cs.toArray, .int .i64 d] w fun e w' => e = .returned (.bool (hasU d u)) ∧ Ext w w' := by
  cases u with
  | none => obtain rfl : cs = refNone := h; exact refIs_none d w
  | some t => exact refIs_rep S d t.sz t cs w (Nat.le_refl _) h
theorem refPlace_O (S : Nat → Prop) (u : Option Tr) (cs : List Value) (w : World) (h : RefO S w u cs) : Calls Tryd.prog 14 #[.agg cs.toArray] w fun e w' => e = .returned (.agg #[.int .i64 (sumU u), .bool (placedU u)]) ∧ Ext w w' := by
  cases u with
  | none => obtain rfl : cs = refNone := h; exact refPlace_none w
  | some t => exact refPlace_rep S t.sz t cs w (Nat.le_refl _) h
theorem refPath_O (S : Nat → Prop) (u : Option Tr) (cs : List Value) (w w0 : World) (v : Value) (h : RefO S w u cs) (hv : RepO w0 u v) (hl : tlen u ≤ 1000000) : Calls Tryd.prog 18 #[.agg cs.toArray] w fun e w' => e = .returned (.string ⟨(pathU u).toArray⟩) ∧ Ext w w' := by
  cases u with
  | none => obtain rfl : cs = refNone := h; exact refPath_none w
  | some t => exact refPath_rep S t.sz t cs w (Nat.le_refl _) (Nat.le_trans (Rep.spineLen hv).2 hl) h
theorem refText_O (S : Nat → Prop) (u : Option Tr) (cs : List Value) (w w0 : World) (v : Value) (h : RefO S w u cs) (hv : RepO w0 u v) (hl : tlen u ≤ 1000000) : Calls Tryd.prog 20 #[.agg cs.toArray] w fun e w' => e = .returned (.string ⟨(textO u).toArray⟩) ∧ Ext w w' := by
  cases u with
  | none => obtain rfl : cs = refNone := h; exact refText_none w
  | some t => exact refText_rep S t.sz t cs w (Nat.le_refl _) ⟨w0, v, hv⟩ hl h
end Go.Proofs.YtlcnicgjlddldaaDoor
