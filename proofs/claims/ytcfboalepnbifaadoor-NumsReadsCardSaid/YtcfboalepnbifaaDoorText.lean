/- A row's texts are read; a row's end. -/
import Derived.Test.YtcfboalepnbifaaDoorNum
import Derived.Deep.RegionWith
namespace Go.Proofs.YtcfboalepnbifaaDoor
open Go Go.RowKit

theorem numR_bad (lo hi : Int) (G : Got) (h : (numR lo hi G).2.2 ≠ 0) : (numR lo hi G).1 = 0 ∧ (numR lo hi G).2.1 = 0 := by
  cases G with
  | bad c => exact ⟨rfl, rfl⟩
  | num u k =>
    unfold numR at h ⊢
    dsimp only at h ⊢
    split
    · exact ⟨rfl, rfl⟩
    · rename_i hn; rw [if_neg hn] at h; exact absurd rfl h
theorem numAt_size (s : ByteArray) (p : Nat) (lo hi : Int) (hp : p ≤ s.size) : p + (numAt s p lo hi).2.1 ≤ s.size := by
  unfold numAt
  cases hG : rd 0 0 ((bts s).drop p) with
  | bad c => exact hp
  | num u k =>
    obtain ⟨_, _, hk2, _⟩ := rd_num0 hG
    rw [List.length_drop, bts_len] at hk2
    unfold numR
    dsimp only
    split
    · exact hp
    · show p + k ≤ s.size; omega
theorem numAt_range (s : ByteArray) (p : Nat) (lo hi : Int) (hc : (numAt s p lo hi).2.2 = 0) : lo ≤ (numAt s p lo hi).1 ∧ (numAt s p lo hi).1 ≤ hi ∧ (-9223372036854775808 ≤ (numAt s p lo hi).1 ∧ (numAt s p lo hi).1 ≤ 9223372036854775807) := by
  unfold numAt at hc ⊢
  cases hG : rd 0 0 ((bts s).drop p) with
  | bad c =>
    rw [hG] at hc
    have h1 := rd_bad _ _ _ _ hG
    have h2 : c = 0 := hc
    omega
  | num u k =>
    obtain ⟨_, _, _, hu⟩ := rd_num0 hG
    rw [hG] at hc
    unfold numR at hc ⊢
    dsimp only at hc ⊢
    split
    · rename_i hn; rw [if_pos hn] at hc; exact absurd hc (by decide)
    · have := unfoldN_range hu
      exact ⟨by omega, by omega, this⟩
theorem numAt_nonneg (s : ByteArray) (p : Nat) (hi : Int) : 0 ≤ (numAt s p 0 hi).1 ∧ (numAt s p 0 hi).1 ≤ 9223372036854775807 := by
  by_cases hc : (numAt s p 0 hi).2.2 = 0
  · have := numAt_range s p 0 hi hc
    exact ⟨this.1, this.2.2.2⟩
  · have := numR_bad 0 hi _ hc
    have h1 : (numAt s p 0 hi).1 = 0 := this.1
    omega
/-- What Text tells, where the row stands behind it, and with which code. -/
def textAt (s : ByteArray) (p : Nat) (hi : Int) : ByteArray × Nat × Int :=
  if (s.size : Int) - ((p + (numAt s p 0 hi).2.1 : Nat) : Int) < (numAt s p 0 hi).1 then (⟨#[]⟩, p, 11)
  else (s.extract (p + (numAt s p 0 hi).2.1) (p + (numAt s p 0 hi).2.1 + (numAt s p 0 hi).1.toNat), p + (numAt s p 0 hi).2.1 + (numAt s p 0 hi).1.toNat, (numAt s p 0 hi).2.2)
set_option maxRecDepth 100000 in
theorem Text_failed (w : World) (g : Nat) (s : ByteArray) (p : Nat) (c hi : Int) (hc : c ≠ 0) (h : RowAt w g s p c) : Calls Tryd.prog 10 #[.pointer (some ⟨g, 0, none⟩), .int .i64 hi] w fun e w' => e = .returned (.string ⟨#[]⟩) ∧ Ext w w' := by
  have H := Lib.hid h; clear h
  go_enter Tryd.func10, Tryd.ntmps10
  go_wp2_with fail
  refine (Err_bad w g s p c hc H.out).mono ?_
  rintro e w2 ⟨rfl, hx⟩
  have HX := Lib.hid hx; clear hx
  go_wp2
  go_ret
  exact ⟨rfl, HX.out⟩
set_option maxRecDepth 100000 in
theorem Text_none (w : World) (a : Value) : Calls Tryd.prog 10 #[.pointer none, a] w fun e w' => e = .returned (.string ⟨#[]⟩) ∧ w' = w := by
  go_enter Tryd.func10, Tryd.ntmps10
  go_wp2_with fail
  refine (Err_nil w).mono ?_
  rintro e w2 ⟨rfl, rfl⟩
  go_wp2
  go_ret
  exact ⟨rfl, rfl⟩
set_option maxHeartbeats 2000000 in
set_option maxRecDepth 100000 in
theorem Text_at (w : World) (g : Nat) (s : ByteArray) (p : Nat) (hi : Int) (hs : s.size ≤ 1000000) (hp : p ≤ s.size) (h : RowAt w g s p 0) :
    Calls Tryd.prog 10 #[.pointer (some ⟨g, 0, none⟩), .int .i64 hi] w fun e w' => e = .returned (.string (textAt s p hi).1) ∧ RowAt w' g s (textAt s p hi).2.1 (textAt s p hi).2.2 ∧ Only g w w' := by
  have hq := numAt_size s p 0 hi hp
  have hnn := numAt_nonneg s p hi
  have hcnt := fun (w : World) (h : RowAt w g s p 0) => Count_at w g s p hi hs hp h
  have hbad := numR_bad 0 hi (rd 0 0 ((bts s).drop p))
  unfold textAt
  have hbad' : (numAt s p 0 hi).2.2 ≠ 0 → (numAt s p 0 hi).1 = 0 ∧ (numAt s p 0 hi).2.1 = 0 := hbad
  clear hbad
  generalize numAt s p 0 hi = R at hq hnn hcnt hbad' ⊢
  obtain ⟨n, k, c⟩ := R
  dsimp only at hq hnn hcnt hbad' ⊢
  obtain ⟨N, rfl⟩ := Int.eq_ofNat_of_zero_le hnn.1
  have hNm : N ≤ 9223372036854775807 := by omega
  have hbc : c ≠ 0 → N = 0 ∧ k = 0 := fun hc => by have := hbad' hc; omega
  clear hbad' hnn
  generalize hQ : p + k = q at hq hcnt ⊢
  by_cases hlt : (s.size : Int) - (q : Int) < (N : Int)
  · rw [if_pos hlt]
    have hc0 : c = 0 := by
      rcases Decidable.em (c = 0) with h | h
      · exact h
      · have := (hbc h).1; omega
    subst hc0
    have H := Lib.hid (And.intro h (And.intro hcnt hQ)); clear h hcnt hQ hbc
    go_enter Tryd.func10, Tryd.ntmps10
    go_wp2_with fail
    refine (Err_ok w g s p H.out.1).mono ?_
    rintro e w2 ⟨rfl, hx⟩
    have h2 := H.out.1.ext hx
    have c1 : w2.cell? ⟨g, 1, none⟩ = some (.int .i64 p) := h2.cell 1
    have H2 := Lib.hid (And.intro h2 hx); clear h2 hx
    go_wp2_with fail
    refine (H.out.2.1 w2 H2.out.1).mono ?_
    rintro e w3 ⟨rfl, h3, hx3⟩
    clear c1
    have c0 : w3.cell? ⟨g, 0, none⟩ = some (.string s) := h3.cell 0
    have c1 : w3.cell? ⟨g, 1, none⟩ = some (.int .i64 q) := h3.cell 1
    have H3 := Lib.hid (And.intro h3 ((Only.of_ext H2.out.2).trans hx3)); clear h3 hx3
    go_wp2_with fail
    go_quiet (fail)
    have d1 : (w3.drewN nq).cell? ⟨g, 1, none⟩ = some (.int .i64 q) := (H3.out.1.drewN nq).cell 1
    have f1 : (w3.drewN nq).frozen? ⟨g, 1, none⟩ = false := (H3.out.1.drewN nq).frozen 1
    have H4 := Lib.hid (And.intro (H3.out.1.drewN nq) (H3.out.2.drewN nq))
    generalize w3.drewN nq = w4 at H4 d1 f1 ⊢
    clear c0 c1
    have h5 : RowAt (w4.setCell ⟨g, 1, none⟩ (.int .i64 p)) g s p 0 := H4.out.1.set_ 1 _
    have hx5 : Only g w (w4.setCell ⟨g, 1, none⟩ (.int .i64 p)) := H4.out.2.setCell _
    have H5 := Lib.hid (And.intro h5 hx5); clear h5 hx5
    go_wp2_with fail
    refine (Fail_ok _ g s p 11 H5.out.1).mono ?_
    rintro e w6 ⟨rfl, h6, hx6⟩
    have H6 := Lib.hid (And.intro h6 (H5.out.2.trans hx6)); clear h6 hx6
    go_wp2
    go_ret
    exact ⟨rfl, H6.out⟩
  · rw [if_neg hlt]
    have hN : N ≤ s.size := by omega
    have hqN : q + N ≤ s.size := by omega
    have hcl : (s.extract q (q + N)).size ≤ 281474976710656 := by rw [ByteArray.size_extract]; omega
    have H := Lib.hid (And.intro h (And.intro hcnt (And.intro hQ hbc))); clear h hcnt hQ hbc
    go_enter Tryd.func10, Tryd.ntmps10
    go_wp2_with fail
    refine (Err_ok w g s p H.out.1).mono ?_
    rintro e w2 ⟨rfl, hx⟩
    have h2 := H.out.1.ext hx
    have c1 : w2.cell? ⟨g, 1, none⟩ = some (.int .i64 p) := h2.cell 1
    have H2 := Lib.hid (And.intro h2 hx); clear h2 hx
    go_wp2_with fail
    refine (H.out.2.1 w2 H2.out.1).mono ?_
    rintro e w3 ⟨rfl, h3, hx3⟩
    clear c1
    have c0 : w3.cell? ⟨g, 0, none⟩ = some (.string s) := h3.cell 0
    have c1 : w3.cell? ⟨g, 1, none⟩ = some (.int .i64 q) := h3.cell 1
    have H3 := Lib.hid (And.intro h3 ((Only.of_ext H2.out.2).trans hx3)); clear h3 hx3
    go_wp2_with fail
    go_quiet (fail)
    have d0 : (w3.drewN nq).cell? ⟨g, 0, none⟩ = some (.string s) := (H3.out.1.drewN nq).cell 0
    have d1 : (w3.drewN nq).cell? ⟨g, 1, none⟩ = some (.int .i64 q) := (H3.out.1.drewN nq).cell 1
    have H4 := Lib.hid (And.intro (H3.out.1.drewN nq) (H3.out.2.drewN nq))
    generalize w3.drewN nq = w4 at H4 d0 d1 ⊢
    clear c0 c1
    have hb0 : (0 : Int) ≤ (q : Int) := by omega
    have hb1 : (q : Int) ≤ (q : Int) + (N : Int) := by omega
    have hb2 : (q : Int) + (N : Int) ≤ (s.size : Int) := by omega
    have hwr : IntKind.i64.wrap ((q : Int) + (N : Int)) = (q : Int) + (N : Int) := IntWalk.i64_in _ (by omega)
    go_wp2_with fail
    have htn : ((q : Int) + (N : Int)).toNat = q + N := by omega
    go_region_held3 (fun w' => w'.cell? ⟨g, 0, none⟩ = some (.string s) ∧ w'.cell? ⟨g, 1, none⟩ = some (.int .i64 q)) (first | exact gS | go_keep) ((go_at_call 26; refine (strings_Clone (s.extract q (q + N)) _ hcl).mono ?_; rintro e w5 ⟨rfl, hx5⟩; have gS : w5.cell? ⟨g, 0, none⟩ = some (.string s) ∧ w5.cell? ⟨g, 1, none⟩ = some (.int .i64 q) := ⟨hx5.cell (H4.out.1.drew.cell 0), hx5.cell (H4.out.1.drew.cell 1)⟩))
    all_goals
      have h5 := H4.out.1.drew.ext hx5
      have e1 : w5.cell? ⟨g, 1, none⟩ = some (.int .i64 q) := h5.cell 1
      have f1 : w5.frozen? ⟨g, 1, none⟩ = false := h5.frozen 1
      have H5 := Lib.hid (And.intro h5 (H4.out.2.drew.ext hx5)); clear h5 hx5 gS d0 d1 htn hwr
      go_wp2
      go_ret
      exact ⟨rfl, H5.out.1.set_ 1 _, H5.out.2.setCell _⟩
theorem End_none (w : World) : Calls Tryd.prog 19 #[.pointer none] w fun e w' => e = .returned (.iface 28 (.int .i64 10)) ∧ Ext w w' := by
  go_enter Tryd.func19, Tryd.ntmps19
  go_wp2_with fail
  refine (Err_nil w).mono ?_
  rintro e w2 ⟨rfl, rfl⟩
  go_wp2_with fail
  go_quiet (fail)
  go_wp2
  go_ret
  exact ⟨rfl, ext_drewN _⟩
theorem End_bad (w : World) (g : Nat) (s : ByteArray) (p : Nat) (c : Int) (hc : c ≠ 0) (h : RowAt w g s p c) : Calls Tryd.prog 19 #[.pointer (some ⟨g, 0, none⟩)] w fun e w' => e = .returned (.iface 65 (.agg #[.iface 28 (.int .i64 c), .int .i64 p, .bool false])) ∧ Ext w w' := by
  have H := Lib.hid h; clear h
  go_enter Tryd.func19, Tryd.ntmps19
  go_wp2_with fail
  refine (Err_bad w g s p c hc H.out).mono ?_
  rintro e w2 ⟨rfl, hx⟩
  have HX := Lib.hid hx; clear hx
  go_wp2_with fail
  go_quiet (fail)
  go_wp2
  go_ret
  exact ⟨rfl, HX.out.drewN _⟩
theorem End_done (w : World) (g : Nat) (s : ByteArray) (p : Nat) (hp : p = s.size) (h : RowAt w g s p 0) : Calls Tryd.prog 19 #[.pointer (some ⟨g, 0, none⟩)] w fun e w' => e = .returned .nilIface ∧ Ext w w' := by
  have hq : ((p : Int) == (s.size : Int)) = true := by simp; omega
  have H := Lib.hid (And.intro h hp); clear h hp
  go_enter Tryd.func19, Tryd.ntmps19
  go_wp2_with fail
  refine (Err_ok w g s p H.out.1).mono ?_
  rintro e w2 ⟨rfl, hx⟩
  have h2 := H.out.1.ext hx
  have c0 : w2.cell? ⟨g, 0, none⟩ = some (.string s) := h2.cell 0
  have c1 : w2.cell? ⟨g, 1, none⟩ = some (.int .i64 p) := h2.cell 1
  have HX := Lib.hid hx; clear hx h2
  go_wp2_with fail
  go_quiet (fail)
  go_wp2
  go_ret
  exact ⟨rfl, HX.out.drewN _⟩
theorem End_left (w : World) (g : Nat) (s : ByteArray) (p : Nat) (hp : p < s.size) (h : RowAt w g s p 0) : Calls Tryd.prog 19 #[.pointer (some ⟨g, 0, none⟩)] w fun e w' => e = .returned (.iface 65 (.agg #[.iface 28 (.int .i64 10), .int .i64 p, .bool false])) ∧ Ext w w' := by
  have hq : ((p : Int) == (s.size : Int)) = false := by simp; omega
  have H := Lib.hid h; clear h
  go_enter Tryd.func19, Tryd.ntmps19
  go_wp2_with fail
  refine (Err_ok w g s p H.out).mono ?_
  rintro e w2 ⟨rfl, hx⟩
  have h2 := H.out.ext hx
  have c0 : w2.cell? ⟨g, 0, none⟩ = some (.string s) := h2.cell 0
  have c1 : w2.cell? ⟨g, 1, none⟩ = some (.int .i64 p) := h2.cell 1
  have HX := Lib.hid (And.intro hx h2); clear hx h2
  go_wp2_with fail
  go_quiet (fail)
  have d1 : (w2.drewN nq).cell? ⟨g, 1, none⟩ = some (.int .i64 p) := (HX.out.2.drewN nq).cell 1
  have HX2 := Lib.hid (HX.out.1.drewN nq)
  generalize w2.drewN nq = w3 at d1 HX2 ⊢
  clear c0 c1
  go_wp2_with fail
  go_quiet ((first | (go_at_call 30; exact Calls.quiet_of_same (new_code 10 _ (by decide))) | (go_at_call 31; exact Calls.quiet_of_same (at_code 10 _ _))))
  go_wp2
  go_ret
  exact ⟨rfl, HX2.out.drewN _⟩
end Go.Proofs.YtcfboalepnbifaaDoor
