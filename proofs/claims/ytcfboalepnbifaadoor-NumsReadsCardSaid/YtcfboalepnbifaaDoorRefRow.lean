/- The document's row: Fail, End, Num. -/
import Derived.Test.YtcfboalepnbifaaDoorText
namespace Go.Proofs.YtcfboalepnbifaaDoor
open Go Go.RowKit

def RefAt (w : World) (g : Nat) (s : ByteArray) (p : Nat) (c : Int) : Prop := Blk w g 30 #[.string s, .int .i64 p, .int .i64 c]
theorem RefAt.drew {w : World} {g : Nat} {s : ByteArray} {p : Nat} {c : Int} (h : RefAt w g s p c) : RefAt w.drew g s p c := h
theorem RefAt.drewN {w : World} {g : Nat} {s : ByteArray} {p : Nat} {c : Int} (h : RefAt w g s p c) (n : Nat) : RefAt (w.drewN n) g s p c := h
theorem RefAt.ext {w w' : World} {g : Nat} {s : ByteArray} {p : Nat} {c : Int} (h : RefAt w g s p c) (hx : Ext w w') : RefAt w' g s p c := Blk.ext h hx
theorem RefAt.only {w w' : World} {g b : Nat} {s : ByteArray} {p : Nat} {c : Int} (h : RefAt w g s p c) (hx : Only b w w') (hne : g ≠ b) : RefAt w' g s p c := Blk.only h hx hne
theorem RefFail_ok (w : World) (g : Nat) (s : ByteArray) (p : Nat) (c : Int) (h : RefAt w g s p 0) : Calls Tryd.prog 15 #[.pointer (some ⟨g, 0, none⟩), .int .i64 c] w fun e w' => e = .returned (.tuple #[]) ∧ RefAt w' g s p c ∧ Only g w w' := by
  have c2 : w.cell? ⟨g, 2, none⟩ = some (.int .i64 0) := h.cell 2
  have f2 := h.frozen 2
  have H := Lib.hid h; clear h
  go_enter Tryd.func15, Tryd.ntmps15
  go_wp2
  go_end0
  exact ⟨rfl, H.out.set_ 2 _, (Only.refl _ _).setCell _⟩
theorem RefFail_bad (w : World) (g : Nat) (s : ByteArray) (p : Nat) (c : Int) (v : Value) (hc : c ≠ 0) (h : RefAt w g s p c) : Calls Tryd.prog 15 #[.pointer (some ⟨g, 0, none⟩), v] w fun e w' => e = .returned (.tuple #[]) ∧ w' = w := by
  have c2 : w.cell? ⟨g, 2, none⟩ = some (.int .i64 c) := h.cell 2
  have hcz : (c == 0) = false := by simp; exact hc
  have H := Lib.hid h; clear h
  go_enter Tryd.func15, Tryd.ntmps15
  go_wp2
  go_end0
  exact ⟨rfl, rfl⟩
/-- The code that a row's end tells. -/
def endC (s : ByteArray) (p : Nat) (c : Int) : Int := if c ≠ 0 then c else if p < s.size then 10 else 0
theorem RefEnd_any (w : World) (g : Nat) (s : ByteArray) (p : Nat) (c : Int) (h : RefAt w g s p c) : Calls Tryd.prog 22 #[.pointer (some ⟨g, 0, none⟩)] w fun e w' => e = .returned (.int .i64 (endC s p c)) ∧ Ext w w' := by
  have c0 : w.cell? ⟨g, 0, none⟩ = some (.string s) := h.cell 0
  have c1 : w.cell? ⟨g, 1, none⟩ = some (.int .i64 p) := h.cell 1
  have c2 : w.cell? ⟨g, 2, none⟩ = some (.int .i64 c) := h.cell 2
  have H := Lib.hid h; clear h
  by_cases hc : c = 0
  · subst hc
    by_cases hp : p < s.size
    · have e : endC s p 0 = 10 := by unfold endC; rw [if_neg (by simp), if_pos hp]
      rw [e]
      have HE := Lib.hid e; clear e
      go_enter Tryd.func22, Tryd.ntmps22
      go_wp2_with fail
      go_quiet (fail)
      go_wp2
      go_ret
      exact ⟨rfl, ext_drewN _⟩
    · have e : endC s p 0 = 0 := by unfold endC; rw [if_neg (by simp), if_neg hp]
      rw [e]
      have HE := Lib.hid e; clear e
      go_enter Tryd.func22, Tryd.ntmps22
      go_wp2_with fail
      go_quiet (fail)
      go_wp2
      go_ret
      exact ⟨rfl, ext_drewN _⟩
  · have e : endC s p c = c := by unfold endC; rw [if_pos hc]
    rw [e]
    have hcz : (c != 0) = true := by simp; exact hc
    have HE := Lib.hid (And.intro e hc); clear e hc
    go_enter Tryd.func22, Tryd.ntmps22
    go_wp2_with fail
    go_ret
    exact ⟨rfl, Ext.refl _⟩
set_option maxRecDepth 100000 in
theorem RefNum_failed (w : World) (g : Nat) (s : ByteArray) (p : Nat) (c : Int) (a b : Value) (hc : c ≠ 0) (h : RefAt w g s p c) : Calls Tryd.prog 13 #[.pointer (some ⟨g, 0, none⟩), a, b] w fun e w' => e = .returned (.int .i64 0) ∧ w' = w := by
  have c2 : w.cell? ⟨g, 2, none⟩ = some (.int .i64 c) := h.cell 2
  have hcz : (c != 0) = true := by simp; exact hc
  have H := Lib.hid h; clear h
  go_enter Tryd.func13, Tryd.ntmps13
  go_wp2
  go_ret
  exact ⟨rfl, rfl⟩
theorem half_cases (U : Nat) (h : U < 18446744073709551616) : (∃ q : Nat, (U : Int) / 2 = (q : Int) ∧ ((U : Int) % 2 == 1) = false ∧ unfoldN U = (q : Int) ∧ q ≤ 9223372036854775807) ∨ (∃ q : Nat, (U : Int) / 2 = (q : Int) ∧ ((U : Int) % 2 == 1) = true ∧ unfoldN U = -(q : Int) - 1 ∧ q ≤ 9223372036854775807) := by
  have hu : unfoldN U = if U % 2 = 0 then ((U / 2 : Nat) : Int) else -((U / 2 : Nat) : Int) - 1 := rfl
  by_cases hp : U % 2 = 0
  · left
    rw [if_pos hp] at hu
    exact ⟨U / 2, by omega, by simp; omega, hu, by omega⟩
  · right
    rw [if_neg hp] at hu
    exact ⟨U / 2, by omega, by simp; omega, hu, by omega⟩
theorem shift_nat (a y i : Nat) (ha : a < 128 ^ i) (h : i < 9 ∨ i = 9 ∧ y % 128 ≤ 1) : IntKind.u64.wrap ((y : Int) % 128 * 2 ^ (7 * i)) = ((y % 128 * 128 ^ i : Nat) : Int) ∧ a + y % 128 * 128 ^ i < 18446744073709551616 := by
  have hz : y % 128 * 128 ^ i < 18446744073709551616 ∧ a + y % 128 * 128 ^ i < 18446744073709551616 := by
    rcases h with h | ⟨rfl, h⟩
    · have h1 := pow_top (show i ≤ 8 by omega)
      have h2 : y % 128 * 128 ^ i ≤ 127 * 72057594037927936 := Nat.mul_le_mul (by omega) h1
      omega
    · have h3 : y % 128 = 0 ∨ y % 128 = 1 := by omega
      rcases h3 with h3 | h3
      · rw [h3]; simp at ha ⊢; omega
      · rw [h3]; simp at ha ⊢; omega
  refine ⟨?_, hz.2⟩
  have e1 : ((y : Int) % 128 * 2 ^ (7 * i)) = ((y % 128 * 128 ^ i : Nat) : Int) := by
    rw [← two_pow_7 i]; simp
  rw [e1, wrap_u64]
  have := hz.1
  generalize y % 128 * 128 ^ i = q at this
  omega
set_option maxHeartbeats 4000000 in
set_option maxRecDepth 100000 in
theorem RefNum_at (w : World) (g : Nat) (s : ByteArray) (p : Nat) (lo hi : Int) (hs : s.size ≤ 1000000) (hp : p ≤ s.size) (h : RefAt w g s p 0) :
    Calls Tryd.prog 13 #[.pointer (some ⟨g, 0, none⟩), .int .i64 lo, .int .i64 hi] w fun e w' => e = .returned (.int .i64 (numAt s p lo hi).1) ∧ RefAt w' g s (p + (numAt s p lo hi).2.1) (numAt s p lo hi).2.2 ∧ Only g w w' := by
  have hGe : ∃ G, rd 0 0 ((bts s).drop p) = G ∧ numAt s p lo hi = numR lo hi G := ⟨_, rfl, rfl⟩
  obtain ⟨G, hG, hN⟩ := hGe
  rw [hN]
  have c2 : w.cell? ⟨g, 2, none⟩ = some (.int .i64 0) := h.cell 2
  have H := Lib.hid (And.intro h (And.intro hG hN)); clear h hG hN
  go_enter Tryd.func13, Tryd.ntmps13
  go_wp2
  go_loopg [7, 8] 10 (fun k u c wr => ∃ (i a : Nat), Hid (i + k = 10) ∧ u = .int .u64 a ∧ c = .int .i64 i ∧ Hid ((i ≤ 9 ∧ a < 128 ^ i ∧ rd i a ((bts s).drop (p + i)) = G ∨ i = 10 ∧ G = .bad 10) ∧ RefAt wr g s p 0 ∧ Ext w wr))
  case atStart => exact ⟨0, 0, rfl, rfl, rfl, .inl ⟨by omega, by decide, H.out.2.1⟩, H.out.1, Ext.refl _⟩
  case round =>
    obtain ⟨i, a, hi', rfl, rfl, hinv⟩ := hrel
    have HR := Lib.hid hinv.out.2
    rcases hinv.out.1 with ⟨h9, ha, hG⟩ | ⟨rfl, hG⟩
    · have hne : ((i : Int) == 10) = false := by simp; omega
      have c0 : wr.cell? ⟨g, 0, none⟩ = some (.string s) := HR.out.1.cell 0
      have c1 : wr.cell? ⟨g, 1, none⟩ = some (.int .i64 p) := HR.out.1.cell 1
      have HGa := Lib.hid (And.intro ha hG); clear ha hG hinv
      by_cases hlt : p + i < s.size
      · go_wp2_with fail
        go_quiet (fail)
        have d0 : (wr.drewN nq).cell? ⟨g, 0, none⟩ = some (.string s) := (HR.out.1.drewN nq).cell 0
        have d1 : (wr.drewN nq).cell? ⟨g, 1, none⟩ = some (.int .i64 p) := (HR.out.1.drewN nq).cell 1
        have h3 := Lib.hid (And.intro (HR.out.1.drewN nq) (HR.out.2.drewN nq))
        generalize wr.drewN nq = w3 at h3 d0 d1 ⊢
        clear c0 c1
        have hY : s[p + i].toNat < 256 := s[p + i].toNat_lt
        obtain ⟨y, hy⟩ : ∃ y, s[p + i].toNat = y := ⟨_, rfl⟩
        rw [hy] at hY
        have b0 : (0 : Int) ≤ (p : Int) + (i : Int) := by omega
        have b1 : (p : Int) + (i : Int) < (s.size : Int) := by omega
        have hwr : IntKind.i64.wrap ((p : Int) + (i : Int)) = (p : Int) + (i : Int) := IntWalk.i64_in _ (by omega)
        have htn : ((p : Int) + (i : Int)).toNat = p + i := by omega
        go_wp2_with fail
        go_quiet (fail)
        have e1 : (w3.drewN nq).cell? ⟨g, 1, none⟩ = some (.int .i64 p) := (h3.out.1.drewN nq).cell 1
        have f1 : (w3.drewN nq).frozen? ⟨g, 1, none⟩ = false := (h3.out.1.drewN nq).frozen 1
        have h4 := Lib.hid (And.intro (h3.out.1.drewN nq) (h3.out.2.drewN nq))
        generalize w3.drewN nq = w4 at h4 e1 f1 ⊢
        clear d0 d1 hwr htn
        have hstep : (if (i = 9 ∧ 1 < y) ∨ (0 < i ∧ y = 0) then Got.bad 10 else if y < 128 then .num (a + y * 128 ^ i) (i + 1) else rd (i + 1) (a + (y - 128) * 128 ^ i) ((bts s).drop (p + (i + 1)))) = G := by
          have h1 := HGa.out.2
          rw [List.drop_eq_getElem_cons (by rw [bts_len]; exact hlt)] at h1
          rw [← hy]
          exact h1
        have HS := Lib.hid (And.intro hstep HGa.out.1); clear hstep HGa hy
        by_cases hA : i = 9 ∧ 1 < y % 128
        · have hG : G = .bad 10 := by rw [← HS.out.1, if_pos (.inl ⟨hA.1, by omega⟩)]
          subst hG
          have t9 : ((i : Int) == 9) = true := by simp; omega
          have t9b : (1 : Int) < (y : Int) % 128 := by omega
          clear hA
          go_wp2_with fail
          refine (RefFail_ok w4 g s p 10 h4.out.1).mono ?_
          rintro e w5 ⟨rfl, h5, hx5⟩
          have H5 := Lib.hid (And.intro h5 ((Only.of_ext h4.out.2).trans hx5)); clear h5 hx5
          go_wp2
          go_ret
          exact ⟨rfl, H5.out⟩
        · have hgood : i < 9 ∨ i = 9 ∧ y % 128 ≤ 1 := by omega
          have hsh := shift_nat a y i HS.out.2 hgood
          obtain ⟨T, hT⟩ : ∃ T, T = y % 128 * 128 ^ i := ⟨_, rfl⟩
          rw [← hT] at hsh
          have hs1 := hsh.1
          have hs2 := hsh.2
          clear hsh
          have t9 : ((i : Int) == 9) = false ∨ (((i : Int) == 9) = true ∧ (y : Int) % 128 ≤ 1) := by
            rcases hgood with h | ⟨h, h'⟩
            · left; simp; omega
            · right; exact ⟨by simp; omega, by omega⟩
          have HT := Lib.hid (And.intro hT hgood); clear hT hgood hA
          rcases t9 with t9 | ⟨t9, t9b⟩
          all_goals
            by_cases h128 : 128 ≤ y
            · have hnext : (i + 1 ≤ 9 ∧ a + T < 128 ^ (i + 1) ∧ rd (i + 1) (a + T) ((bts s).drop (p + (i + 1))) = G ∨ i + 1 = 10 ∧ G = .bad 10) := by
                have h1 := HS.out.1
                by_cases h9' : i = 9
                · rw [if_pos (.inl ⟨h9', by omega⟩)] at h1
                  exact .inr ⟨by omega, h1.symm⟩
                · rw [if_neg (by omega), if_neg (by omega)] at h1
                  refine .inl ⟨by omega, ?_, ?_⟩
                  · have h2 := HS.out.2
                    have h3 : T ≤ 127 * 128 ^ i := by rw [HT.out.1]; exact Nat.mul_le_mul_right _ (by omega)
                    rw [Nat.pow_succ]
                    generalize 128 ^ i = q at h2 h3
                    omega
                  · rw [HT.out.1, show y % 128 = y - 128 from by omega]; exact h1
              have HNx := Lib.hid hnext; clear hnext
              go_wp2
              go_roundg (gk - 1)
              case measure => have := hi'.out; omega
              case rel =>
                refine ⟨i + 1, a + T, ?_, by go_num, by go_num, HNx.out, h4.out.1, h4.out.2⟩
                show i + 1 + (gk - 1) = 10
                have := hi'.out; omega
            · have hmod : y % 128 = y := Nat.mod_eq_of_lt (by omega)
              by_cases hz : 0 < i ∧ y = 0
              · have hG : G = .bad 10 := by rw [← HS.out.1, if_pos (.inr hz)]
                subst hG
                have z1 : ((y : Int) == 0) = true := by simp; omega
                have z2 : (0 : Int) < (i : Int) := by omega
                have HZ := Lib.hid hz; clear hz hmod
                go_wp2_with fail
                refine (RefFail_ok w4 g s p 10 h4.out.1).mono ?_
                rintro e w5 ⟨rfl, h5, hx5⟩
                have H5 := Lib.hid (And.intro h5 ((Only.of_ext h4.out.2).trans hx5)); clear h5 hx5
                go_wp2
                go_ret
                exact ⟨rfl, H5.out⟩
              · obtain ⟨U, hU⟩ : ∃ U, U = a + T := ⟨_, rfl⟩
                have hG : G = .num U (i + 1) := by
                  rw [← HS.out.1, if_neg (by have := HT.out.2; omega), if_pos (by omega), hU, HT.out.1, hmod]
                subst hG
                have hzt : ((y : Int) == 0) = false ∨ (((y : Int) == 0) = true ∧ (i : Int) ≤ 0) := by
                  by_cases h0 : y = 0
                  · right; exact ⟨by simp; exact h0, by omega⟩
                  · left; simp; exact h0
                have HZ := Lib.hid (And.intro hz hmod); clear hz hmod
                have hUs : (a : Int) + (T : Int) = (U : Int) := by omega
                have hU64 : U < 18446744073709551616 := by omega
                have HUU := Lib.hid hU; clear hU
                have hpar := half_cases U hU64
                rcases hzt with hzt | ⟨hzt, hzt2⟩
                all_goals
                  rcases hpar with ⟨q, hd, hm, hN, hq⟩ | ⟨q, hd, hm, hN, hq⟩
                  all_goals
                    by_cases hlo : unfoldN U < lo
                    · have hnr : numR lo hi (.num U (i + 1)) = (0, 0, 16) := by unfold numR; dsimp only; rw [if_pos (.inl hlo)]
                      rw [hN] at hlo
                      have HNR := Lib.hid (And.intro hnr hN); clear hnr hN
                      go_wp2_with fail
                      refine (RefFail_ok w4 g s p 16 h4.out.1).mono ?_
                      rintro e w5 ⟨rfl, h5, hx5⟩
                      have H5 := Lib.hid (And.intro h5 ((Only.of_ext h4.out.2).trans hx5)); clear h5 hx5
                      go_wp2
                      go_ret
                      rw [HNR.out.1]
                      exact ⟨rfl, H5.out⟩
                    · by_cases hhi : hi < unfoldN U
                      · have hnr : numR lo hi (.num U (i + 1)) = (0, 0, 16) := by unfold numR; dsimp only; rw [if_pos (.inr hhi)]
                        rw [hN] at hlo hhi
                        have HNR := Lib.hid (And.intro hnr hN); clear hnr hN
                        go_wp2_with fail
                        refine (RefFail_ok w4 g s p 16 h4.out.1).mono ?_
                        rintro e w5 ⟨rfl, h5, hx5⟩
                        have H5 := Lib.hid (And.intro h5 ((Only.of_ext h4.out.2).trans hx5)); clear h5 hx5
                        go_wp2
                        go_ret
                        rw [HNR.out.1]
                        exact ⟨rfl, H5.out⟩
                      · have hnr : numR lo hi (.num U (i + 1)) = (unfoldN U, i + 1, 0) := by unfold numR; dsimp only; rw [if_neg (by omega)]
                        rw [hN] at hlo hhi
                        have HNR := Lib.hid (And.intro hnr hN); clear hnr hN
                        go_wp2
                        go_ret
                        rw [HNR.out.1, HNR.out.2]
                        exact ⟨rfl, by have := h4.out.1.set_ 1 (.int .i64 ((p + (i + 1) : Nat) : Int)); simpa [RefAt, Int.add_assoc] using this, (Only.of_ext h4.out.2).setCell _⟩
      · have hGb : G = .bad 11 := by
          rw [← HGa.out.2, List.drop_of_length_le (by rw [bts_len]; omega)]
          rfl
        subst hGb
        go_wp2_with fail
        go_quiet (fail)
        have h3 := Lib.hid (And.intro (HR.out.1.drewN nq) (HR.out.2.drewN nq))
        generalize wr.drewN nq = w3 at h3 ⊢
        clear c0 c1
        go_wp2_with fail
        refine (RefFail_ok w3 g s p 11 h3.out.1).mono ?_
        rintro e w4 ⟨rfl, h4, hx4⟩
        have H4 := Lib.hid (And.intro h4 ((Only.of_ext h3.out.2).trans hx4)); clear h4 hx4
        go_wp2
        go_ret
        exact ⟨rfl, H4.out⟩
    · subst hG
      clear hinv
      go_wp2_with fail
      refine (RefFail_ok wr g s p 10 HR.out.1).mono ?_
      rintro e w4 ⟨rfl, h4, hx4⟩
      have H4 := Lib.hid (And.intro h4 ((Only.of_ext HR.out.2).trans hx4)); clear h4 hx4
      go_wp2
      go_ret
      exact ⟨rfl, H4.out⟩
end Go.Proofs.YtcfboalepnbifaaDoor
