/- The law NumsOnce, walked. -/
import Derived.Test.YtcfboalepnbifaaDoorTellN
import Derived.Test.YtcfboalepnbifaaDoorText
import Derived.Test.YtcfboalepnbifaaDoorAwakeN
namespace Go.Proofs.YtcfboalepnbifaaDoor
open Go Go.RowKit

/-- What is read as a number has that number's bytes. -/
theorem numAt_bytes (s : ByteArray) (p : Nat) (lo hi : Int) (hc : (numAt s p lo hi).2.2 = 0) : encN (foldN (numAt s p lo hi).1) = ((bts s).drop p).take (numAt s p lo hi).2.1 := by
  unfold numAt at hc ⊢
  cases hG : rd 0 0 ((bts s).drop p) with
  | bad c =>
    rw [hG] at hc
    have h1 := rd_bad _ _ _ _ hG
    have h2 : c = 0 := hc
    omega
  | num u k =>
    obtain ⟨h1, _, _, _⟩ := rd_num0 hG
    rw [hG] at hc
    unfold numR at hc ⊢
    dsimp only at hc ⊢
    split
    · rename_i hn; rw [if_pos hn] at hc; exact absurd hc (by decide)
    · rw [fold_unfold, h1]
theorem numAt_code (s : ByteArray) (p : Nat) (lo hi : Int) : (numAt s p lo hi).2.2 = 0 ∨ (numAt s p lo hi).2.2 = 10 ∨ (numAt s p lo hi).2.2 = 11 ∨ (numAt s p lo hi).2.2 = 16 := by
  unfold numAt
  cases hG : rd 0 0 ((bts s).drop p) with
  | bad c =>
    have h1 := rd_bad _ _ _ _ hG
    show c = 0 ∨ c = 10 ∨ c = 11 ∨ c = 16
    omega
  | num u k =>
    unfold numR
    dsimp only
    split
    · exact .inr (.inr (.inr rfl))
    · exact .inl rfl
theorem Put_oneN (n : Int) (w : World) (o : Obj) (ho : o = .cells ([n].map (Value.int .i64)).toArray 3) (h : isI64 n) : Calls Tryd.prog 24 #[.slice (some ⟨w.heap.size, 0, none⟩) 1 1] (w.alloc o) fun e w' => e = .returned (.string ⟨(encN (foldN n)).toArray⟩) ∧ Ext w w' := by
  subst ho
  refine (Put_ints [n] _ _ (ints_new w [n] 3 (fun m hm => by rw [List.mem_singleton.1 hm]; exact h)) (by simp)).mono ?_
  rintro e w2 ⟨rfl, hx⟩
  rw [putN_one]
  exact ⟨rfl, ((Ext.refl w).alloc _).trans hx⟩
set_option maxHeartbeats 2000000 in
set_option maxRecDepth 100000 in
theorem numsOnce_true (s : ByteArray) (q0 q1 c : Int) (w : World) (hg : ErrType w) : Calls Tryd.prog 5 #[.string s, .agg #[.int .i64 q0, .int .i64 q1], .int .i64 c] w fun e w' => e = .returned (.bool true) ∧ Ext w w' := by
  have HG := Lib.hid hg; clear hg
  go_enter Tryd.func5, Tryd.ntmps5
  go_wp2_with fail
  refine (awakeN_true _).mono ?_
  rintro e w1 ⟨rfl, hx1⟩
  have HX1 := Lib.hid (((Ext.refl w).alloc (.cells #[.int .i64 q0, .int .i64 q1] 51)).trans hx1)
  have HC := Lib.hid (And.intro (hx1.cell (p := ⟨w.heap.size, 0, none⟩) (v := .int .i64 q0) (by simp)) (hx1.cell (p := ⟨w.heap.size, 1, none⟩) (v := .int .i64 q1) (by simp)))
  clear hx1
  go_wp2_with fail
  refine (shortN_of s 20 _ (by decide)).mono ?_
  rintro e w2 ⟨rfl, rfl⟩
  have hsz := shortOf_le s 20
  generalize shortOf s 20 = x at hsz ⊢
  go_wp2_with fail
  refine (Of_any x w2 (by omega)).mono ?_
  rintro e w3 ⟨g, rfl, hr3, hx3, hgl⟩
  have c0 : w3.cell? ⟨w.heap.size, 0, none⟩ = some (.int .i64 q0) := hx3.cell HC.out.1
  have c1 : w3.cell? ⟨w.heap.size, 1, none⟩ = some (.int .i64 q1) := hx3.cell HC.out.2
  have hwl := lt_of_cell HC.out.1
  have H3 := Lib.hid (And.intro hr3 (And.intro (HX1.out.trans hx3) (show w.heap.size < g by have := hgl; have := hwl; simp at this; omega))); clear hr3 hx3 hgl hwl HC
  go_wp2_with fail
  refine (Num_at w3 g x 0 q0 q1 (by omega) (Nat.zero_le _) H3.out.1).mono ?_
  rintro e w4 ⟨rfl, hr4, hx4⟩
  have d0 : w4.cell? ⟨w.heap.size, 0, none⟩ = some (.int .i64 q0) := hx4.cell (by have := H3.out.2.2; simp; omega) c0
  have d1 : w4.cell? ⟨w.heap.size, 1, none⟩ = some (.int .i64 q1) := hx4.cell (by have := H3.out.2.2; simp; omega) c1
  have hx : Ext w w4 := Below.trans H3.out.2.1 (hx4.below (Nat.le_of_lt H3.out.2.2) H3.out.2.1.size)
  clear c0 c1 hx4
  have hcode := numAt_code x 0 q0 q1
  have hrange := numAt_range x 0 q0 q1
  have hbytes := numAt_bytes x 0 q0 q1
  have hzero : (numAt x 0 q0 q1).2.2 ≠ 0 → (numAt x 0 q0 q1).1 = 0 ∧ (numAt x 0 q0 q1).2.1 = 0 := numR_bad q0 q1 (rd 0 0 ((bts x).drop 0))
  have hkl := numAt_size x 0 q0 q1 (Nat.zero_le _)
  generalize numAt x 0 q0 q1 = R at hr4 hcode hrange hbytes hzero hkl ⊢
  obtain ⟨n, k, d⟩ := R
  dsimp only at hr4 hcode hrange hbytes hzero hkl ⊢
  rw [Nat.zero_add] at hr4 hkl
  rcases hcode with rfl | hcode
  · have hstr : (⟨(encN (foldN n)).toArray⟩ : ByteArray) = x.extract 0 k := by
      apply ba_ext
      rw [bts_mk, hbytes rfl, bts_extract]; rfl
    have hn0 := (hrange rfl).1
    have hn1 := (hrange rfl).2.1
    have H4 := Lib.hid (And.intro hr4 (And.intro hx (And.intro hstr (hrange rfl).2.2))); clear hr4 hx hstr hrange hbytes hzero
    go_wp2_with fail
    refine (Err_ok w4 g x k H4.out.1).mono ?_
    rintro e w5 ⟨rfl, hx5⟩
    have e0 := hx5.cell d0
    have e1 := hx5.cell d1
    have H5 := Lib.hid (And.intro (H4.out.1.ext hx5) (H4.out.2.1.trans hx5)); clear hx5 d0 d1
    go_wp2_with fail
    refine (Code_nil w5).mono ?_
    rintro e w6 ⟨rfl, hx6⟩
    have d0 := hx6.cell e0
    have d1 := hx6.cell e1
    have H6 := Lib.hid (And.intro (H5.out.1.ext hx6) (H5.out.2.trans hx6)); clear hx6 e0 e1
    go_wp2_with fail
    refine (At_row w6 g x k 0 H6.out.1).mono ?_
    rintro e w7 ⟨rfl, rfl⟩
    go_wp2_with fail
    refine (Put_oneN n w7 _ rfl H4.out.2.2.2).mono ?_
    rintro e w8 ⟨rfl, hx8⟩
    rw [H4.out.2.2.1]
    have H8 := Lib.hid (And.intro (H6.out.1.ext hx8) (H6.out.2.trans hx8)); clear hx8 d0 d1
    go_wp2_with fail
    refine (At_row w8 g x k 0 H8.out.1).mono ?_
    rintro e w9 ⟨rfl, rfl⟩
    go_wp2
    go_ret
    exact ⟨rfl, H8.out.2⟩
  · have hd : d ≠ 0 := by omega
    obtain ⟨rfl, rfl⟩ := hzero hd
    have hdl : -9223372036854775808 ≤ d ∧ d ≤ 9223372036854775807 := by omega
    have hdz : (d == 0) = false := by simp; exact hd
    have H4 := Lib.hid (And.intro hr4 (And.intro hx (And.intro hd hdl))); clear hr4 hx hrange hbytes hzero hd hdl
    clear d0 d1
    rcases hcode with rfl | rfl | rfl
    all_goals
      go_wp2_with fail
      refine (Err_bad w4 g x 0 _ H4.out.2.2.1 H4.out.1).mono ?_
      rintro e w5 ⟨rfl, hx5⟩
      have H5 := Lib.hid (And.intro (H4.out.1.ext hx5) (H4.out.2.1.trans hx5)); clear hx5
      go_wp2_with fail
      refine (Code_placed _ 0 w5 (HG.out.ext H5.out.2) H4.out.2.2.1 H4.out.2.2.2.1 H4.out.2.2.2.2 (by decide) (by decide)).mono ?_
      rintro e w6 ⟨rfl, hx6⟩
      have H6 := Lib.hid (And.intro (H5.out.1.ext hx6) (H5.out.2.trans hx6)); clear hx6
      go_wp2_with fail
      refine (Fail_bad w6 g x 0 _ _ H4.out.2.2.1 H6.out.1).mono ?_
      rintro e w7 ⟨rfl, hx7⟩
      have H7 := Lib.hid (And.intro (H6.out.1.ext hx7) (H6.out.2.trans hx7)); clear hx7
      go_wp2_with fail
      refine (Num_failed w7 g x 0 _ _ _ H4.out.2.2.1 H7.out.1).mono ?_
      rintro e w8 ⟨rfl, hx8⟩
      have H8 := Lib.hid (And.intro (H7.out.1.ext hx8) (H7.out.2.trans hx8)); clear hx8
      go_wp2_with fail
      refine (Text_failed w8 g x 0 _ _ H4.out.2.2.1 H8.out.1).mono ?_
      rintro e w9 ⟨rfl, hx9⟩
      have H9 := Lib.hid (And.intro (H8.out.1.ext hx9) (H8.out.2.trans hx9)); clear hx9
      go_wp2_with fail
      refine (At_row w9 g x 0 _ H9.out.1).mono ?_
      rintro e w10 ⟨rfl, rfl⟩
      go_wp2_with fail
      refine (Err_bad w10 g x 0 _ H4.out.2.2.1 H9.out.1).mono ?_
      rintro e w11 ⟨rfl, hx11⟩
      have H11 := Lib.hid (And.intro (H9.out.1.ext hx11) (H9.out.2.trans hx11)); clear hx11
      go_wp2_with fail
      refine (Code_placed _ 0 w11 (HG.out.ext H11.out.2) H4.out.2.2.1 H4.out.2.2.2.1 H4.out.2.2.2.2 (by decide) (by decide)).mono ?_
      rintro e w12 ⟨rfl, hx12⟩
      have H12 := Lib.hid (And.intro (H11.out.1.ext hx12) (H11.out.2.trans hx12)); clear hx12
      go_wp2_with fail
      refine (End_bad w12 g x 0 _ H4.out.2.2.1 H12.out.1).mono ?_
      rintro e w13 ⟨rfl, hx13⟩
      have H13 := Lib.hid (And.intro (H12.out.1.ext hx13) (H12.out.2.trans hx13)); clear hx13
      go_wp2_with fail
      refine (Code_placed _ 0 w13 (HG.out.ext H13.out.2) H4.out.2.2.1 H4.out.2.2.2.1 H4.out.2.2.2.2 (by decide) (by decide)).mono ?_
      rintro e w14 ⟨rfl, hx14⟩
      have H14 := Lib.hid (H13.out.2.trans hx14); clear hx14
      go_wp2
      go_ret
      exact ⟨rfl, H14.out⟩
end Go.Proofs.YtcfboalepnbifaaDoor
