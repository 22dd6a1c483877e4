/- The document's row: Text. -/
import Derived.Test.YtcfboalepnbifaaDoorRefRow
namespace Go.Proofs.YtcfboalepnbifaaDoor
open Go Go.RowKit

set_option maxRecDepth 100000 in
theorem RefText_failed (w : World) (g : Nat) (s : ByteArray) (p : Nat) (c hi : Int) (hc : c ≠ 0) (h : RefAt w g s p c) : Calls Tryd.prog 11 #[.pointer (some ⟨g, 0, none⟩), .int .i64 hi] w fun e w' => e = .returned (.string ⟨#[]⟩) ∧ Ext w w' := by
  have c0 : w.cell? ⟨g, 0, none⟩ = some (.string s) := h.cell 0
  have c1 : w.cell? ⟨g, 1, none⟩ = some (.int .i64 p) := h.cell 1
  have c2 : w.cell? ⟨g, 2, none⟩ = some (.int .i64 c) := h.cell 2
  have hz1 : (c == 0) = false := by simp; exact hc
  have hz2 : (c != 0) = true := by simp; exact hc
  have H := Lib.hid (And.intro h hc); clear h hc
  go_enter Tryd.func11, Tryd.ntmps11
  go_wp2_with fail
  refine (RefNum_failed w g s p c _ _ H.out.2 H.out.1).mono ?_
  rintro e w2 ⟨rfl, rfl⟩
  go_wp2_with fail
  go_quiet (fail)
  go_wp2
  go_ret
  exact ⟨rfl, ext_drewN _⟩
set_option maxHeartbeats 2000000 in
set_option maxRecDepth 100000 in
theorem RefText_at (w : World) (g : Nat) (s : ByteArray) (p : Nat) (hi : Int) (hs : s.size ≤ 1000000) (hp : p ≤ s.size) (h : RefAt w g s p 0) :
    Calls Tryd.prog 11 #[.pointer (some ⟨g, 0, none⟩), .int .i64 hi] w fun e w' => e = .returned (.string (textAt s p hi).1) ∧ RefAt w' g s (textAt s p hi).2.1 (textAt s p hi).2.2 ∧ Only g w w' := by
  have hq := numAt_size s p 0 hi hp
  have hnn := numAt_nonneg s p hi
  have hcnt := fun (w : World) (h : RefAt w g s p 0) => RefNum_at w g s p 0 hi hs hp h
  have hbad' : (numAt s p 0 hi).2.2 ≠ 0 → (numAt s p 0 hi).1 = 0 ∧ (numAt s p 0 hi).2.1 = 0 := numR_bad 0 hi (rd 0 0 ((bts s).drop p))
  unfold textAt
  generalize numAt s p 0 hi = R at hq hnn hcnt hbad' ⊢
  obtain ⟨n, k, c⟩ := R
  dsimp only at hq hnn hcnt hbad' ⊢
  obtain ⟨N, rfl⟩ := Int.eq_ofNat_of_zero_le hnn.1
  have hNm : N ≤ 9223372036854775807 := by omega
  have hbc : c ≠ 0 → N = 0 ∧ k = 0 := fun hc => by have := hbad' hc; omega
  clear hbad' hnn
  have d1 : w.cell? ⟨g, 1, none⟩ = some (.int .i64 p) := h.cell 1
  by_cases hc : c = 0
  · subst hc
    generalize hQ : p + k = q at hq hcnt ⊢
    have H := Lib.hid (And.intro h (And.intro hcnt hQ)); clear h hcnt hQ hbc
    by_cases hlt : (s.size : Int) - (q : Int) < (N : Int)
    · rw [if_pos hlt]
      go_enter Tryd.func11, Tryd.ntmps11
      go_wp2_with fail
      refine (H.out.2.1 w H.out.1).mono ?_
      rintro e w3 ⟨rfl, h3, hx3⟩
      clear d1
      have c0 : w3.cell? ⟨g, 0, none⟩ = some (.string s) := h3.cell 0
      have c1 : w3.cell? ⟨g, 1, none⟩ = some (.int .i64 q) := h3.cell 1
      have c2 : w3.cell? ⟨g, 2, none⟩ = some (.int .i64 0) := h3.cell 2
      have H3 := Lib.hid (And.intro h3 hx3); clear h3 hx3
      go_wp2_with fail
      go_quiet (fail)
      have d1 : (w3.drewN nq).cell? ⟨g, 1, none⟩ = some (.int .i64 q) := (H3.out.1.drewN nq).cell 1
      have f1 : (w3.drewN nq).frozen? ⟨g, 1, none⟩ = false := (H3.out.1.drewN nq).frozen 1
      have H4 := Lib.hid (And.intro (H3.out.1.drewN nq) (H3.out.2.drewN nq))
      generalize w3.drewN nq = w4 at H4 d1 f1 ⊢
      clear c0 c1 c2
      have h5 : RefAt (w4.setCell ⟨g, 1, none⟩ (.int .i64 p)) g s p 0 := H4.out.1.set_ 1 _
      have hx5 : Only g w (w4.setCell ⟨g, 1, none⟩ (.int .i64 p)) := H4.out.2.setCell _
      have H5 := Lib.hid (And.intro h5 hx5); clear h5 hx5
      go_wp2_with fail
      refine (RefFail_ok _ g s p 11 H5.out.1).mono ?_
      rintro e w6 ⟨rfl, h6, hx6⟩
      have c2 : w6.cell? ⟨g, 2, none⟩ = some (.int .i64 11) := h6.cell 2
      have H6 := Lib.hid (And.intro h6 (H5.out.2.trans hx6)); clear h6 hx6
      go_wp2
      go_ret
      exact ⟨rfl, H6.out⟩
    · rw [if_neg hlt]
      have hqN : q + N ≤ s.size := by omega
      go_enter Tryd.func11, Tryd.ntmps11
      go_wp2_with fail
      refine (H.out.2.1 w H.out.1).mono ?_
      rintro e w3 ⟨rfl, h3, hx3⟩
      clear d1
      have c0 : w3.cell? ⟨g, 0, none⟩ = some (.string s) := h3.cell 0
      have c1 : w3.cell? ⟨g, 1, none⟩ = some (.int .i64 q) := h3.cell 1
      have c2 : w3.cell? ⟨g, 2, none⟩ = some (.int .i64 0) := h3.cell 2
      have H3 := Lib.hid (And.intro h3 hx3); clear h3 hx3
      go_wp2_with fail
      go_quiet (fail)
      have d0 : (w3.drewN nq).cell? ⟨g, 0, none⟩ = some (.string s) := (H3.out.1.drewN nq).cell 0
      have d1 : (w3.drewN nq).cell? ⟨g, 1, none⟩ = some (.int .i64 q) := (H3.out.1.drewN nq).cell 1
      have d2 : (w3.drewN nq).cell? ⟨g, 2, none⟩ = some (.int .i64 0) := (H3.out.1.drewN nq).cell 2
      have H4 := Lib.hid (And.intro (H3.out.1.drewN nq) (H3.out.2.drewN nq))
      generalize w3.drewN nq = w4 at H4 d0 d1 d2 ⊢
      clear c0 c1 c2
      have hb0 : (0 : Int) ≤ (q : Int) := by omega
      have hb1 : (q : Int) ≤ (q : Int) + (N : Int) := by omega
      have hb2 : (q : Int) + (N : Int) ≤ (s.size : Int) := by omega
      have hwr : IntKind.i64.wrap ((q : Int) + (N : Int)) = (q : Int) + (N : Int) := IntWalk.i64_in _ (by omega)
      have htn : ((q : Int) + (N : Int)).toNat = q + N := by omega
      go_wp2_with fail
      go_quiet (fail)
      have e1 : (w4.drewN nq).cell? ⟨g, 1, none⟩ = some (.int .i64 q) := (H4.out.1.drewN nq).cell 1
      have f1 : (w4.drewN nq).frozen? ⟨g, 1, none⟩ = false := (H4.out.1.drewN nq).frozen 1
      have H5 := Lib.hid (And.intro (H4.out.1.drewN nq) (H4.out.2.drewN nq))
      generalize w4.drewN nq = w5 at H5 e1 f1 ⊢
      clear d0 d1 d2 hwr htn
      go_wp2
      go_ret
      exact ⟨rfl, H5.out.1.set_ 1 _, H5.out.2.setCell _⟩
  · obtain ⟨rfl, rfl⟩ := hbc hc
    have hz1 : (c == 0) = false := by simp; exact hc
    have hz2 : (c != 0) = true := by simp; exact hc
    rw [if_neg (by omega)]
    have he : s.extract (p + 0) (p + 0 + ((0 : Nat) : Int).toNat) = ⟨#[]⟩ := by
      apply ba_ext
      rw [bts_extract]
      show List.drop (p + 0) (List.take (p + 0) (bts s)) = []
      apply List.drop_of_length_le
      rw [List.length_take]; omega
    rw [he]
    have H := Lib.hid (And.intro h (And.intro hcnt he)); clear h hcnt he hc hbc
    go_enter Tryd.func11, Tryd.ntmps11
    go_wp2_with fail
    refine (H.out.2.1 w H.out.1).mono ?_
    rintro e w3 ⟨rfl, h3, hx3⟩
    clear d1
    have c0 : w3.cell? ⟨g, 0, none⟩ = some (.string s) := h3.cell 0
    have c1 : w3.cell? ⟨g, 1, none⟩ = some (.int .i64 p) := h3.cell 1
    have c2 : w3.cell? ⟨g, 2, none⟩ = some (.int .i64 c) := h3.cell 2
    have H3 := Lib.hid (And.intro h3 hx3); clear h3 hx3
    go_wp2_with fail
    go_quiet (fail)
    have d2 : (w3.drewN nq).cell? ⟨g, 2, none⟩ = some (.int .i64 c) := (H3.out.1.drewN nq).cell 2
    have H4 := Lib.hid (And.intro (H3.out.1.drewN nq) (H3.out.2.drewN nq))
    generalize w3.drewN nq = w4 at H4 d2 ⊢
    clear c0 c1 c2
    go_wp2
    go_ret
    exact ⟨rfl, H4.out⟩
end Go.Proofs.YtcfboalepnbifaaDoor
