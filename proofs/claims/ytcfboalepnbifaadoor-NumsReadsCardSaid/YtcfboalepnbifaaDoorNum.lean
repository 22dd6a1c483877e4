/- A row's numbers are read: Num, Count. -/
import Derived.Test.YtcfboalepnbifaaDoorRow
namespace Go.Proofs.YtcfboalepnbifaaDoor
open Go Go.RowKit

/-- What Num tells, how far it goes, and with which code it ends. -/
def numR (lo hi : Int) : Got → Int × Nat × Int
  | .bad c => (0, 0, c)
  | .num u k => if unfoldN u < lo ∨ hi < unfoldN u then (0, 0, 16) else (unfoldN u, k, 0)
def numAt (s : ByteArray) (p : Nat) (lo hi : Int) : Int × Nat × Int := numR lo hi (rd 0 0 ((bts s).drop p))
theorem first_bad (s : ByteArray) (w : World) (c : Int) (hs : s.size ≤ 1000000) (h : rd 0 0 (bts s) = .bad c) : Calls Tryd.prog 27 #[.string s] w fun e w' => e = .returned (.tuple #[.int .u64 0, .int .i64 0, .int .i64 c]) ∧ w' = w := by
  have := first_any s w hs
  rw [h] at this
  exact this
theorem first_num (s : ByteArray) (w : World) (u k : Nat) (hs : s.size ≤ 1000000) (h : rd 0 0 (bts s) = .num u k) : Calls Tryd.prog 27 #[.string s] w fun e w' => e = .returned (.tuple #[.int .u64 u, .int .i64 k, .int .i64 0]) ∧ w' = w := by
  have := first_any s w hs
  rw [h] at this
  exact this
theorem bts_from (s : ByteArray) (p : Nat) : bts (s.extract p s.size) = (bts s).drop p := by
  rw [bts_extract, ← bts_len, List.take_length]
set_option maxRecDepth 100000 in
theorem Num_failed (w : World) (g : Nat) (s : ByteArray) (p : Nat) (c lo hi : Int) (hc : c ≠ 0) (h : RowAt w g s p c) : Calls Tryd.prog 16 #[.pointer (some ⟨g, 0, none⟩), .int .i64 lo, .int .i64 hi] w fun e w' => e = .returned (.int .i64 0) ∧ Ext w w' := by
  have H := Lib.hid h; clear h
  go_enter Tryd.func16, Tryd.ntmps16
  go_wp2_with fail
  refine (Err_bad w g s p c hc H.out).mono ?_
  rintro e w2 ⟨rfl, hx⟩
  have HX := Lib.hid hx; clear hx
  go_wp2
  go_ret
  exact ⟨rfl, HX.out⟩
theorem Num_none (w : World) (a b : Value) : Calls Tryd.prog 16 #[.pointer none, a, b] w fun e w' => e = .returned (.int .i64 0) ∧ w' = w := by
  go_enter Tryd.func16, Tryd.ntmps16
  go_wp2_with fail
  refine (Err_nil w).mono ?_
  rintro e w2 ⟨rfl, rfl⟩
  go_wp2
  go_ret
  exact ⟨rfl, rfl⟩
set_option maxHeartbeats 2000000 in
set_option maxRecDepth 100000 in
theorem Num_at (w : World) (g : Nat) (s : ByteArray) (p : Nat) (lo hi : Int) (hs : s.size ≤ 1000000) (hp : p ≤ s.size) (h : RowAt w g s p 0) :
    Calls Tryd.prog 16 #[.pointer (some ⟨g, 0, none⟩), .int .i64 lo, .int .i64 hi] w fun e w' => e = .returned (.int .i64 (numAt s p lo hi).1) ∧ RowAt w' g s (p + (numAt s p lo hi).2.1) (numAt s p lo hi).2.2 ∧ Only g w w' := by
  have hes : (s.extract p s.size).size ≤ 1000000 := by rw [ByteArray.size_extract]; omega
  cases hG : rd 0 0 ((bts s).drop p) with
  | bad c =>
    have hc0 : c = 10 ∨ c = 11 := rd_bad _ _ _ _ hG
    have hn : numAt s p lo hi = (0, 0, c) := by unfold numAt; rw [hG]; rfl
    rw [hn]
    have hc : c ≠ 0 := by omega
    have hc1 : (c == 0) = false := by simp; exact hc
    have hc2 : (c != 0) = true := by simp; exact hc
    have hf := fun w => first_bad (s.extract p s.size) w c hes (by rw [bts_from]; exact hG)
    have H := Lib.hid (And.intro h (And.intro hc hf)); clear h hn hc0 hG hc hf
    go_enter Tryd.func16, Tryd.ntmps16
    go_wp2_with fail
    refine (Err_ok w g s p H.out.1).mono ?_
    rintro e w2 ⟨rfl, hx⟩
    have h2 := H.out.1.ext hx
    have c0 : w2.cell? ⟨g, 0, none⟩ = some (.string s) := h2.cell 0
    have c1 : w2.cell? ⟨g, 1, none⟩ = some (.int .i64 p) := h2.cell 1
    have b0 : (0 : Int) ≤ (p : Int) := by omega
    have b1 : (p : Int) ≤ (s.size : Int) := by omega
    have H2 := Lib.hid (And.intro h2 hx); clear h2 hx
    go_wp2_with fail
    go_quiet ((go_at_call 27; exact Calls.quiet_of_same (H.out.2.2 _)))
    have h3 := Lib.hid (And.intro (H2.out.1.drewN nq) (H2.out.2.drewN nq))
    generalize w2.drewN nq = w3 at h3 ⊢
    go_wp2_with fail
    refine (unfold_any 0 w3 (by decide)).mono ?_
    rintro e w4 ⟨rfl, rfl⟩
    rw [show unfoldN 0 = 0 from rfl]
    go_wp2_with fail
    refine (Fail_ok w4 g s p c h3.out.1).mono ?_
    rintro e w5 ⟨rfl, h5, hx5⟩
    have H5 := Lib.hid (And.intro h5 ((Only.of_ext h3.out.2).trans hx5)); clear h5 hx5
    go_wp2
    go_ret
    exact ⟨rfl, H5.out⟩
  | num u k =>
    obtain ⟨_, hk1, hk2, hu⟩ := rd_num0 hG
    have hkl : p + k ≤ s.size := by rw [List.length_drop, bts_len] at hk2; omega
    have hr := unfoldN_range hu
    have hf := fun w => first_num (s.extract p s.size) w u k hes (by rw [bts_from]; exact hG)
    have huf := fun w => unfold_any u w hu
    have hn : numAt s p lo hi = if unfoldN u < lo ∨ hi < unfoldN u then (0, 0, 16) else (unfoldN u, k, 0) := by unfold numAt; rw [hG]; rfl
    rw [hn]
    generalize unfoldN u = N at hr huf hn ⊢
    have hr1 := hr.1
    have hr2 := hr.2
    by_cases hlo : N < lo
    · rw [if_pos (.inl hlo)]
      have H := Lib.hid (And.intro h (And.intro huf hf)); clear h hn hG hf huf hr hk1 hk2 hkl hu
      go_enter Tryd.func16, Tryd.ntmps16
      go_wp2_with fail
      refine (Err_ok w g s p H.out.1).mono ?_
      rintro e w2 ⟨rfl, hx⟩
      have h2 := H.out.1.ext hx
      have c0 : w2.cell? ⟨g, 0, none⟩ = some (.string s) := h2.cell 0
      have c1 : w2.cell? ⟨g, 1, none⟩ = some (.int .i64 p) := h2.cell 1
      have b0 : (0 : Int) ≤ (p : Int) := by omega
      have b1 : (p : Int) ≤ (s.size : Int) := by omega
      have H2 := Lib.hid (And.intro h2 hx); clear h2 hx
      go_wp2_with fail
      go_quiet ((go_at_call 27; exact Calls.quiet_of_same (H.out.2.2 _)))
      have h3 := Lib.hid (And.intro (H2.out.1.drewN nq) (H2.out.2.drewN nq))
      generalize w2.drewN nq = w3 at h3 ⊢
      go_wp2_with fail
      refine (H.out.2.1 w3).mono ?_
      rintro e w4 ⟨rfl, rfl⟩
      go_wp2_with fail
      refine (Fail_ok w4 g s p 16 h3.out.1).mono ?_
      rintro e w5 ⟨rfl, h5, hx5⟩
      have H5 := Lib.hid (And.intro h5 ((Only.of_ext h3.out.2).trans hx5)); clear h5 hx5
      go_wp2
      go_ret
      exact ⟨rfl, H5.out⟩
    · by_cases hhi : hi < N
      · rw [if_pos (.inr hhi)]
        have H := Lib.hid (And.intro h (And.intro huf hf)); clear h hn hG hf huf hr hk1 hk2 hkl hu
        go_enter Tryd.func16, Tryd.ntmps16
        go_wp2_with fail
        refine (Err_ok w g s p H.out.1).mono ?_
        rintro e w2 ⟨rfl, hx⟩
        have h2 := H.out.1.ext hx
        have c0 : w2.cell? ⟨g, 0, none⟩ = some (.string s) := h2.cell 0
        have c1 : w2.cell? ⟨g, 1, none⟩ = some (.int .i64 p) := h2.cell 1
        have b0 : (0 : Int) ≤ (p : Int) := by omega
        have b1 : (p : Int) ≤ (s.size : Int) := by omega
        have H2 := Lib.hid (And.intro h2 hx); clear h2 hx
        go_wp2_with fail
        go_quiet ((go_at_call 27; exact Calls.quiet_of_same (H.out.2.2 _)))
        have h3 := Lib.hid (And.intro (H2.out.1.drewN nq) (H2.out.2.drewN nq))
        generalize w2.drewN nq = w3 at h3 ⊢
        go_wp2_with fail
        refine (H.out.2.1 w3).mono ?_
        rintro e w4 ⟨rfl, rfl⟩
        go_wp2_with fail
        refine (Fail_ok w4 g s p 16 h3.out.1).mono ?_
        rintro e w5 ⟨rfl, h5, hx5⟩
        have H5 := Lib.hid (And.intro h5 ((Only.of_ext h3.out.2).trans hx5)); clear h5 hx5
        go_wp2
        go_ret
        exact ⟨rfl, H5.out⟩
      · rw [if_neg (fun h => by rcases h with h | h; exact hlo h; exact hhi h)]
        have H := Lib.hid (And.intro h (And.intro huf hf)); clear h hn hG hf huf hr hk1 hk2 hu
        go_enter Tryd.func16, Tryd.ntmps16
        go_wp2_with fail
        refine (Err_ok w g s p H.out.1).mono ?_
        rintro e w2 ⟨rfl, hx⟩
        have h2 := H.out.1.ext hx
        have c0 : w2.cell? ⟨g, 0, none⟩ = some (.string s) := h2.cell 0
        have c1 : w2.cell? ⟨g, 1, none⟩ = some (.int .i64 p) := h2.cell 1
        have b0 : (0 : Int) ≤ (p : Int) := by omega
        have b1 : (p : Int) ≤ (s.size : Int) := by omega
        have H2 := Lib.hid (And.intro h2 hx); clear h2 hx
        go_wp2_with fail
        go_quiet ((go_at_call 27; exact Calls.quiet_of_same (H.out.2.2 _)))
        have d1 : (w2.drewN nq).cell? ⟨g, 1, none⟩ = some (.int .i64 p) := (H2.out.1.drewN nq).cell 1
        have f1 : (w2.drewN nq).frozen? ⟨g, 1, none⟩ = false := (H2.out.1.drewN nq).frozen 1
        have h3 := Lib.hid (And.intro (H2.out.1.drewN nq) (H2.out.2.drewN nq))
        generalize w2.drewN nq = w3 at h3 d1 f1 ⊢
        go_wp2_with fail
        refine (H.out.2.1 w3).mono ?_
        rintro e w4 ⟨rfl, rfl⟩
        go_wp2
        go_ret
        refine ⟨rfl, ?_, (Only.of_ext h3.out.2).setCell _⟩
        have := h3.out.1.set_ 1 (.int .i64 ((p : Int) + (k : Int)))
        exact this
theorem Count_at (w : World) (g : Nat) (s : ByteArray) (p : Nat) (hi : Int) (hs : s.size ≤ 1000000) (hp : p ≤ s.size) (h : RowAt w g s p 0) :
    Calls Tryd.prog 12 #[.pointer (some ⟨g, 0, none⟩), .int .i64 hi] w fun e w' => e = .returned (.int .i64 (numAt s p 0 hi).1) ∧ RowAt w' g s (p + (numAt s p 0 hi).2.1) (numAt s p 0 hi).2.2 ∧ Only g w w' := by
  go_enter Tryd.func12, Tryd.ntmps12
  go_wp2_with fail
  refine (Num_at w g s p 0 hi hs hp h).mono ?_
  rintro e w2 ⟨rfl, h2, hx⟩
  have H := Lib.hid (And.intro h2 hx); clear h2 hx
  go_wp2
  go_ret
  exact ⟨rfl, H.out⟩
theorem Count_failed (w : World) (g : Nat) (s : ByteArray) (p : Nat) (c hi : Int) (hc : c ≠ 0) (h : RowAt w g s p c) : Calls Tryd.prog 12 #[.pointer (some ⟨g, 0, none⟩), .int .i64 hi] w fun e w' => e = .returned (.int .i64 0) ∧ Ext w w' := by
  go_enter Tryd.func12, Tryd.ntmps12
  go_wp2_with fail
  refine (Num_failed w g s p c 0 hi hc h).mono ?_
  rintro e w2 ⟨rfl, hx⟩
  have HX := Lib.hid hx; clear hx
  go_wp2
  go_ret
  exact ⟨rfl, HX.out⟩
theorem Count_none (w : World) (a : Value) : Calls Tryd.prog 12 #[.pointer none, a] w fun e w' => e = .returned (.int .i64 0) ∧ w' = w := by
  go_enter Tryd.func12, Tryd.ntmps12
  go_wp2_with fail
  refine (Num_none w _ _).mono ?_
  rintro e w2 ⟨rfl, rfl⟩
  go_wp2
  go_ret
  exact ⟨rfl, rfl⟩
end Go.Proofs.YtcfboalepnbifaaDoor
