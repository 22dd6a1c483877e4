/- The law RunesParted, walked. -/
import Derived.Test.YtghbonkbifnidaaDoorRunesTell
namespace Go.Proofs.YtghbonkbifnidaaDoor
open Go Go.RowKit

theorem place_of (a : Int) (n : Nat) (hn : n ≤ 60) : ∃ I : Nat, I ≤ n ∧ (wrap64 (wrap64 (a.tmod ((n : Int) + 1) + (n : Int)) + 1)).tmod ((n : Int) + 1) = (I : Int) := by
  have hm : (0 : Int) < (n : Int) + 1 := by omega
  have h1 := Int.tmod_lt_of_pos a hm
  have h2 := Int.lt_tmod_of_pos a hm
  generalize a.tmod ((n : Int) + 1) = u at h1 h2
  have e1 : wrap64 (u + (n : Int)) = u + (n : Int) := by unfold wrap64; omega
  rw [e1]
  have e2 : wrap64 (u + (n : Int) + 1) = u + (n : Int) + 1 := by unfold wrap64; omega
  rw [e2]
  have h3 := Int.tmod_lt_of_pos (u + (n : Int) + 1) hm
  have h4 := Int.tmod_nonneg ((n : Int) + 1) (show 0 ≤ u + (n : Int) + 1 by omega)
  exact ⟨((u + (n : Int) + 1).tmod ((n : Int) + 1)).toNat, by omega, by omega⟩
/-- However the bytes are parted. -/
theorem parted (x y z : List UInt8) : (DecSt.new.run x).1 ++ ((DecSt.new.run x).2.run y).1 ++ (((DecSt.new.run x).2.run y).2.run z).1 ++ (((DecSt.new.run x).2.run y).2.run z).2.flush = decL (x ++ (y ++ z)) := by
  unfold decL
  rw [run_append, run_append]
  simp [List.append_assoc]
theorem three_parts (s : ByteArray) (lo hi : Nat) (h1 : lo ≤ hi) : bts (s.extract 0 lo) ++ (bts (s.extract lo hi) ++ bts (s.extract hi s.size)) = bts s := by
  rw [bts_extract, bts_extract, bts_extract]
  have hl := bts_len s
  generalize bts s = l at hl
  rw [List.take_of_length_le (show l.length ≤ s.size by omega), List.drop_zero]
  have e : l.take lo ++ (l.take hi).drop lo = l.take hi := by
    have h3 := List.take_append_drop lo (l.take hi)
    rw [List.take_take, Nat.min_eq_left h1] at h3
    exact h3
  rw [← List.append_assoc, e, List.take_append_drop]
structure Thrice (p1 p2 p3 x : ByteArray) (R1 R2 R3 : List Int × DecSt) : Prop where
  r1 : DecSt.new.run (bts p1) = R1
  r2 : R1.2.run (bts p2) = R2
  r3 : R2.2.run (bts p3) = R3
  k1 : R1.2.ok
  k2 : R2.2.ok
  k3 : R3.2.ok
  l1 : R1.1.length ≤ p1.size + 3
  l2 : R2.1.length ≤ p2.size + 3
  l3 : R3.1.length ≤ p3.size + 3
  all : R1.1 ++ R2.1 ++ R3.1 ++ R3.2.flush = decL (bts x)
theorem thrice (p1 p2 p3 x : ByteArray) (h : bts p1 ++ (bts p2 ++ bts p3) = bts x) : ∃ R1 R2 R3, Thrice p1 p2 p3 x R1 R2 R3 := by
  have k1 := ok_run (bts p1) ok_new
  have k2 := ok_run (bts p2) k1
  have k3 := ok_run (bts p3) k2
  have l1 := run_lenO .new (bts p1) ok_new
  have l2 := run_lenO _ (bts p2) k1
  have l3 := run_lenO _ (bts p3) k2
  rw [bts_len] at l1 l2 l3
  exact ⟨_, _, _, rfl, rfl, rfl, k1, k2, k3, l1, l2, l3, by rw [← h]; exact parted _ _ _⟩
set_option maxHeartbeats 4000000 in
set_option maxRecDepth 100000 in
theorem runesParted_true (s : ByteArray) (a b : Int) (w : World) (hF : Firsts w) :
    Calls Tryd.prog 5 #[.string s, .int .i64 a, .int .i64 b] w fun e w' => e = .returned (.bool true) ∧ Ext w w' := by
  have hs60 := shortOf_le s 60
  have H := Lib.hid hF; clear hF
  go_enter Tryd.func5, Tryd.ntmps5
  go_wp2_with fail
  refine (awake_true _ H.out).mono ?_
  rintro e w1 ⟨rfl, hx1⟩
  have H1 := Lib.hid hx1; clear hx1
  go_wp2_with fail
  refine (short_of s 60 _ (by decide)).mono ?_
  rintro e w2 ⟨rfl, rfl⟩
  generalize shortOf s 60 = x at hs60 ⊢
  generalize hn : x.size = n at hs60
  obtain ⟨I, hIn, hI⟩ := place_of a n hs60
  obtain ⟨K, hKn, hK⟩ := place_of b n hs60
  obtain ⟨lo, hlo⟩ : ∃ lo, lo = min I K := ⟨_, rfl⟩
  obtain ⟨hi, hhi⟩ : ∃ hi, hi = max I K := ⟨_, rfl⟩
  have hmin : min (I : Int) (K : Int) = (lo : Int) := by omega
  have hmax : max (I : Int) (K : Int) = (hi : Int) := by omega
  have h1 : lo ≤ hi := by omega
  have h2 : hi ≤ n := by omega
  clear hlo hhi hIn hKn
  have h3 := three_parts x lo hi h1
  rw [hn] at h3
  have hz1 : (x.extract 0 lo).size ≤ 60 := by rw [ByteArray.size_extract]; omega
  have hz2 : (x.extract lo hi).size ≤ 60 := by rw [ByteArray.size_extract]; omega
  have hz3 : (x.extract hi n).size ≤ 60 := by rw [ByteArray.size_extract]; omega
  obtain ⟨R1, R2, R3, hT⟩ := thrice _ _ _ _ h3
  have HT := Lib.hid hT
  have HZ := Lib.hid (And.intro hz1 (And.intro hz2 hz3))
  clear h3 hz1 hz2 hz3 hT
  have HN := Lib.hid hn
  have hd0 : Dec (w2.alloc (.cells #[.int .i64 0, .int .i64 0, .int .u8 0, .int .u8 0, .int .i32 0] 36)) w2.heap.size .new := Go.heap_alloc_new w2 _
  have hx0 : Ext w2 (w2.alloc (.cells #[.int .i64 0, .int .i64 0, .int .u8 0, .int .u8 0, .int .i32 0] 36)) := (Ext.refl w2).alloc _
  have hb0 : (w2.alloc (.cells #[.int .i64 0, .int .i64 0, .int .u8 0, .int .u8 0, .int .i32 0] 36)).heap.size = w2.heap.size + 1 := by simp
  have HB := Lib.hid (And.intro hd0 (And.intro (H1.out.trans hx0) hb0)); clear hd0 hx0 hb0
  go_wp2_with fail
  refine (Feed_any _ _ .new (x.extract 0 lo) HB.out.1 ok_new (H.out.ext HB.out.2.1) (by have := HZ.out.1; omega)).mono ?_
  rintro e w3 ⟨v1, rfl, ho1, hd1, hy1⟩
  rw [HT.out.r1] at ho1 hd1
  rw [HB.out.2.2] at ho1
  have H3 := Lib.hid (And.intro ho1 (And.intro hd1 hy1)); clear ho1 hd1 hy1
  go_wp2_with fail
  refine (Pending_any _ _ R1.2 H3.out.2.1).mono ?_
  rintro e w4 ⟨rfl, rfl⟩
  go_wp2_with fail
  refine (Feed_any _ _ R1.2 (x.extract lo hi) H3.out.2.1 HT.out.k1 (H.out.ext (ext_only HB.out.2.1 H3.out.2.2 (by have := H1.out.size; omega))) (by have := HZ.out.2.1; omega)).mono ?_
  rintro e w5 ⟨v2, rfl, ho2, hd2, hy2⟩
  rw [HT.out.r2] at ho2 hd2
  have H5 := Lib.hid (And.intro (H3.out.1.only hy2 (by omega)) (And.intro (ho2.low (B' := w2.heap.size + 1) (by have := H3.out.2.2.size; rw [HB.out.2.2] at this; exact this)) (And.intro hd2 (H3.out.2.2.trans hy2)))); clear ho2 hd2 hy2
  go_wp2_with fail
  refine (Pending_any _ _ R2.2 H5.out.2.2.1).mono ?_
  rintro e w6 ⟨rfl, rfl⟩
  go_wp2_with fail
  refine (Feed_any _ _ R2.2 (x.extract hi n) H5.out.2.2.1 HT.out.k2 (H.out.ext (ext_only HB.out.2.1 H5.out.2.2.2 (by have := H1.out.size; omega))) (by have := HZ.out.2.2; omega)).mono ?_
  rintro e w7 ⟨v3, rfl, ho3, hd3, hy3⟩
  rw [HT.out.r3] at ho3 hd3
  have H7 := Lib.hid (And.intro (H5.out.1.only hy3 (by omega)) (And.intro (H5.out.2.1.only hy3 (by omega)) (And.intro (ho3.low (B' := w2.heap.size + 1) (by have := H5.out.2.2.2.size; rw [HB.out.2.2] at this; exact this)) (And.intro hd3 (H5.out.2.2.2.trans hy3))))); clear ho3 hd3 hy3
  go_wp2_with fail
  refine (Flush_any _ _ R3.2 H7.out.2.2.2.1 HT.out.k3).mono ?_
  rintro e w8 ⟨v4, rfl, ho4, _, hy4⟩
  have hxw : Ext w w8 := ext_only HB.out.2.1 (H7.out.2.2.2.2.trans hy4) (by have := H1.out.size; omega)
  have H8 := Lib.hid (And.intro (H7.out.1.only hy4 (by omega)) (And.intro (H7.out.2.1.only hy4 (by omega)) (And.intro (H7.out.2.2.1.only hy4 (by omega)) (And.intro ho4 hxw)))); clear ho4 hy4 hxw H3 H5 H7
  have own0 : OwnR (w8.alloc (.cells #[] 21)) w8.heap.size (.slice (some ⟨w8.heap.size, 0, none⟩) 0 0) [] :=
    ⟨rfl, .inr ⟨w8.heap.size, 0, #[], rfl, Nat.le_refl _, Go.heap_alloc_new _ _, Nat.le_refl _, Nat.zero_le _, rfl, rfl⟩⟩
  have hx0 : Ext w8 (w8.alloc (.cells #[] 21)) := (Ext.refl w8).alloc _
  have hl1 := HT.out.l1
  have hl2 := HT.out.l2
  have hl3 := HT.out.l3
  have hz1 := HZ.out.1
  have hz2 := HZ.out.2.1
  have hz3 := HZ.out.2.2
  have hfl := (len_flush R3.2).2
  have HL := Lib.hid (And.intro hl1 (And.intro hl2 (And.intro hl3 (And.intro hz1 (And.intro hz2 (And.intro hz3 hfl)))))); clear hl1 hl2 hl3 hz1 hz2 hz3 hfl
  have H0 := Lib.hid (And.intro own0 (And.intro (H8.out.1.ext hx0) hx0)); clear own0 hx0
  go_wp2_with (at_builtin; refine wpList_app_runes rfl _ _ rfl w8.heap.size _ [] rfl H0.out.1 _ v1 R1.1 rfl H0.out.2.1 (Nat.zero_le _) (by have := HL.out.1; have := HL.out.2.2.2.1; omega) H0.out.2.2.size ?_)
  intro vA wA hA
  have hxA : Ext w8 wA := ext_grown H0.out.2.2 H0.out.1 hA.grown (Nat.le_refl _)
  have HA := Lib.hid (And.intro hA.own (And.intro (H8.out.2.1.ext hxA) hxA)); clear hA hxA
  go_wp2_with (at_builtin; refine wpList_app_runes rfl _ _ rfl w8.heap.size vA _ rfl HA.out.1 _ v2 R2.1 rfl HA.out.2.1 (by have := HL.out; (try simp only [List.length_append]); omega) (by have := HL.out; omega) HA.out.2.2.size ?_)
  intro vB wB hB
  have hxB : Ext w8 wB := ext_grown HA.out.2.2 HA.out.1 hB.grown (Nat.le_refl _)
  have HBB := Lib.hid (And.intro hB.own (And.intro (H8.out.2.2.1.ext hxB) hxB)); clear hB hxB
  go_wp2_with (at_builtin; refine wpList_app_runes rfl _ _ rfl w8.heap.size vB _ rfl HBB.out.1 _ v3 R3.1 rfl HBB.out.2.1 (by have := HL.out; (try simp only [List.length_append]); omega) (by have := HL.out; omega) HBB.out.2.2.size ?_)
  intro vC wC hC
  have hxC : Ext w8 wC := ext_grown HBB.out.2.2 HBB.out.1 hC.grown (Nat.le_refl _)
  have HC := Lib.hid (And.intro hC.own (And.intro (H8.out.2.2.2.1.ext hxC) hxC)); clear hC hxC
  go_wp2_with (at_builtin; refine wpList_app_runes rfl _ _ rfl w8.heap.size vC _ rfl HC.out.1 _ v4 R3.2.flush rfl HC.out.2.1 (by have := HL.out; (try simp only [List.length_append]); omega) (by have := HL.out; omega) HC.out.2.2.size ?_)
  intro vD wD hD
  have hxD : Ext w8 wD := ext_grown HC.out.2.2 HC.out.1 hD.grown (Nat.le_refl _)
  have hown := hD.own
  rw [← List.append_assoc, ← List.append_assoc, HT.out.all] at hown
  have hir := hown.isRunes (decL_i32 _)
  have hll := len_decL (bts x)
  rw [bts_len, hn] at hll
  have HD := Lib.hid (And.intro hir (H8.out.2.2.2.2.trans hxD)); clear hD hxD hown hir
  have HLL := Lib.hid hll; clear hll
  go_wp2_with fail
  refine (Decode_any x _ (H.out.ext HD.out.2) (by omega)).mono ?_
  rintro e wE ⟨vE, rfl, hoE, hxE⟩
  have HE := Lib.hid (And.intro (HD.out.1.ext hxE) (And.intro (hoE.isRunes (decL_i32 _)) (HD.out.2.trans hxE))); clear hoE hxE
  go_wp2_with fail
  refine (Same_eq _ vD vE _ HE.out.1 HE.out.2.1 (by have := HLL.out; omega)).mono ?_
  rintro e wF ⟨rfl, hxF⟩
  have HF := Lib.hid (HE.out.2.2.trans hxF); clear hxF
  obtain ⟨A, c, rfl, _⟩ := HE.out.1.form
  have hk1 := ok_k HT.out.k1
  have hk2 := ok_k HT.out.k2
  have hll := HLL.out
  generalize (decL (bts x)).length = L at hll
  generalize R1.2.k = q1 at hk1
  generalize R2.2.k = q2 at hk2
  go_wp2
  go_ret
  exact ⟨rfl, HF.out⟩
end Go.Proofs.YtghbonkbifnidaaDoor
