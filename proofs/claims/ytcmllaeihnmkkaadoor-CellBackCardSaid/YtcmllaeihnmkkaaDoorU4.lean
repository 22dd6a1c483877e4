/- A row's texts are read; a row's end. · The document's row: Fail, End, Num. · Faults as trees, and how an error in memory is read as one. · strange, ends at faults that trees describe. -/
import Derived.Test.YtcmllaeihnmkkaaDoorU1
import Derived.Test.YtcmllaeihnmkkaaDoorU3
import Derived.Deep.RegionWith
import Derived.Lib.ItoaNum
import Derived.IntWalk
import Derived.LoopTactic
import Derived.RegionTactic
import Derived.Deep.QuietTactic
import Derived.BigQuiet
namespace Go.Proofs.YtcmllaeihnmkkaaDoor
open Go Go.RowKit

theorem numR_bad (lo hi : Int) (G : Got) (h : (numGot lo hi G).2.2 ≠ 0) : (numGot lo hi G).1 = 0 ∧ (numGot lo hi G).2.1 = 0 := by
  cases G with
  | bad c => exact ⟨rfl, rfl⟩
  | num u k =>
    unfold numGot at h ⊢
    dsimp only at h ⊢
    split
    · exact ⟨rfl, rfl⟩
    · rename_i hn; rw [if_neg hn] at h; exact absurd rfl h
theorem numAt_size (s : ByteArray) (p : Nat) (lo hi : Int) (hp : p ≤ s.size) : p + (numAt s p lo hi).2.1 ≤ s.size := by
  unfold numAt
  cases hG : rd 0 0 ((bts s).drop p) with
  | bad c => exact hp
  | num u k =>
    obtain ⟨_, _, hk2, _⟩ := rd_num0 hG
    rw [List.length_drop, bts_len] at hk2
    unfold numGot
    dsimp only
    split
    · exact hp
    · show p + k ≤ s.size; omega
theorem numAt_range (s : ByteArray) (p : Nat) (lo hi : Int) (hc : (numAt s p lo hi).2.2 = 0) : lo ≤ (numAt s p lo hi).1 ∧ (numAt s p lo hi).1 ≤ hi ∧ (-9223372036854775808 ≤ (numAt s p lo hi).1 ∧ (numAt s p lo hi).1 ≤ 9223372036854775807) := by
  unfold numAt at hc ⊢
  cases hG : rd 0 0 ((bts s).drop p) with
  | bad c =>
    rw [hG] at hc
    have h1 := rd_bad _ _ _ _ hG
    have h2 : c = 0 := hc
    omega
  | num u k =>
    obtain ⟨_, _, _, hu⟩ := rd_num0 hG
    rw [hG] at hc
    unfold numGot at hc ⊢
    dsimp only at hc ⊢
    split
    · rename_i hn; rw [if_pos hn] at hc; exact absurd hc (by decide)
    · have := unfoldN_range hu
      exact ⟨by omega, by omega, this⟩
theorem numAt_nonneg (s : ByteArray) (p : Nat) (hi : Int) : 0 ≤ (numAt s p 0 hi).1 ∧ (numAt s p 0 hi).1 ≤ 9223372036854775807 := by
  by_cases hc : (numAt s p 0 hi).2.2 = 0
  · have := numAt_range s p 0 hi hc
    exact ⟨this.1, this.2.2.2⟩
  · have := numR_bad 0 hi _ hc
    have h1 : (numAt s p 0 hi).1 = 0 := this.1
    omega
/-- What Text tells, where the row stands behind it, and with which code. -/
def textAt (s : ByteArray) (p : Nat) (hi : Int) : ByteArray × Nat × Int :=
  if (s.size : Int) - ((p + (numAt s p 0 hi).2.1 : Nat) : Int) < (numAt s p 0 hi).1 then (⟨#[]⟩, p, 11)
  else (s.extract (p + (numAt s p 0 hi).2.1) (p + (numAt s p 0 hi).2.1 + (numAt s p 0 hi).1.toNat), p + (numAt s p 0 hi).2.1 + (numAt s p 0 hi).1.toNat, (numAt s p 0 hi).2.2)
end Go.Proofs.YtcmllaeihnmkkaaDoor
namespace Go.Proofs.YtcmllaeihnmkkaaDoor
open Go Go.RowKit

def RefAt (w : World) (g : Nat) (s : ByteArray) (p : Nat) (c : Int) : Prop := Blk w g 36 #[.string s, .int .i64 p, .int .i64 c]
theorem RefAt.drew {w : World} {g : Nat} {s : ByteArray} {p : Nat} {c : Int} (h : RefAt w g s p c) : RefAt w.drew g s p c := h
theorem RefAt.drewN {w : World} {g : Nat} {s : ByteArray} {p : Nat} {c : Int} (h : RefAt w g s p c) (n : Nat) : RefAt (w.drewN n) g s p c := h
theorem RefAt.ext {w w' : World} {g : Nat} {s : ByteArray} {p : Nat} {c : Int} (h : RefAt w g s p c) (hx : Ext w w') : RefAt w' g s p c := Blk.ext h hx
theorem RefAt.only {w w' : World} {g b : Nat} {s : ByteArray} {p : Nat} {c : Int} (h : RefAt w g s p c) (hx : Only b w w') (hne : g ≠ b) : RefAt w' g s p c := Blk.only h hx hne
theorem RefFail_ok (w : World) (g : Nat) (s : ByteArray) (p : Nat) (c : Int) (h : RefAt w g s p 0) : Calls Tryd.prog 58 #[.pointer (some ⟨g, 0, none⟩), .int .i64 c] w fun e w' => e = .returned (.tuple #[]) ∧ RefAt w' g s p c ∧ Only g w w' := by
  have c2 : w.cell? ⟨g, 2, none⟩ = some (.int .i64 0) := h.cell 2
  have f2 := h.frozen 2
  have H := Lib.hid h; clear h
  go_enter Tryd.func58, Tryd.ntmps58
  go_wp2
  go_end0
  exact ⟨rfl, H.out.set_ 2 _, (Only.refl _ _).setCell _⟩
theorem RefFail_bad (w : World) (g : Nat) (s : ByteArray) (p : Nat) (c : Int) (v : Value) (hc : c ≠ 0) (h : RefAt w g s p c) : Calls Tryd.prog 58 #[.pointer (some ⟨g, 0, none⟩), v] w fun e w' => e = .returned (.tuple #[]) ∧ w' = w := by
  have c2 : w.cell? ⟨g, 2, none⟩ = some (.int .i64 c) := h.cell 2
  have hcz : (c == 0) = false := by simp; exact hc
  have H := Lib.hid h; clear h
  go_enter Tryd.func58, Tryd.ntmps58
  go_wp2
  go_end0
  exact ⟨rfl, rfl⟩
/-- The code that a row's end tells. -/
def endC (s : ByteArray) (p : Nat) (c : Int) : Int := if c ≠ 0 then c else if p < s.size then 10 else 0
set_option maxRecDepth 100000 in
theorem RefNum_failed (w : World) (g : Nat) (s : ByteArray) (p : Nat) (c : Int) (a b : Value) (hc : c ≠ 0) (h : RefAt w g s p c) : Calls Tryd.prog 59 #[.pointer (some ⟨g, 0, none⟩), a, b] w fun e w' => e = .returned (.int .i64 0) ∧ w' = w := by
  have c2 : w.cell? ⟨g, 2, none⟩ = some (.int .i64 c) := h.cell 2
  have hcz : (c != 0) = true := by simp; exact hc
  have H := Lib.hid h; clear h
  go_enter Tryd.func59, Tryd.ntmps59
  go_wp2
  go_ret
  exact ⟨rfl, rfl⟩
theorem half_cases (U : Nat) (h : U < 18446744073709551616) : (∃ q : Nat, (U : Int) / 2 = (q : Int) ∧ ((U : Int) % 2 == 1) = false ∧ unfoldN U = (q : Int) ∧ q ≤ 9223372036854775807) ∨ (∃ q : Nat, (U : Int) / 2 = (q : Int) ∧ ((U : Int) % 2 == 1) = true ∧ unfoldN U = -(q : Int) - 1 ∧ q ≤ 9223372036854775807) := by
  have hu : unfoldN U = if U % 2 = 0 then ((U / 2 : Nat) : Int) else -((U / 2 : Nat) : Int) - 1 := rfl
  by_cases hp : U % 2 = 0
  · left
    rw [if_pos hp] at hu
    exact ⟨U / 2, by omega, by simp; omega, hu, by omega⟩
  · right
    rw [if_neg hp] at hu
    exact ⟨U / 2, by omega, by simp; omega, hu, by omega⟩
theorem shift_nat (a y i : Nat) (ha : a < 128 ^ i) (h : i < 9 ∨ i = 9 ∧ y % 128 ≤ 1) : IntKind.u64.wrap ((y : Int) % 128 * 2 ^ (7 * i)) = ((y % 128 * 128 ^ i : Nat) : Int) ∧ a + y % 128 * 128 ^ i < 18446744073709551616 := by
  have hz : y % 128 * 128 ^ i < 18446744073709551616 ∧ a + y % 128 * 128 ^ i < 18446744073709551616 := by
    rcases h with h | ⟨rfl, h⟩
    · have h1 := pow_top (show i ≤ 8 by omega)
      have h2 : y % 128 * 128 ^ i ≤ 127 * 72057594037927936 := Nat.mul_le_mul (by omega) h1
      omega
    · have h3 : y % 128 = 0 ∨ y % 128 = 1 := by omega
      rcases h3 with h3 | h3
      · rw [h3]; simp at ha ⊢; omega
      · rw [h3]; simp at ha ⊢; omega
  refine ⟨?_, hz.2⟩
  have e1 : ((y : Int) % 128 * 2 ^ (7 * i)) = ((y % 128 * 128 ^ i : Nat) : Int) := by
    rw [← two_pow_7 i]; simp
  rw [e1, wrap_u64]
  have := hz.1
  generalize y % 128 * 128 ^ i = q at this
  omega
set_option maxHeartbeats 4000000 in
set_option maxRecDepth 100000 in
theorem RefNum_at (w : World) (g : Nat) (s : ByteArray) (p : Nat) (lo hi : Int) (hs : s.size ≤ 1000000) (hp : p ≤ s.size) (h : RefAt w g s p 0) :
    Calls Tryd.prog 59 #[.pointer (some ⟨g, 0, none⟩), .int .i64 lo, .int .i64 hi] w fun e w' => e = .returned (.int .i64 (numAt s p lo hi).1) ∧ RefAt w' g s (p + (numAt s p lo hi).2.1) (numAt s p lo hi).2.2 ∧ Only g w w' := by
  have hGe : ∃ G, rd 0 0 ((bts s).drop p) = G ∧ numAt s p lo hi = numGot lo hi G := ⟨_, rfl, rfl⟩
  obtain ⟨G, hG, hN⟩ := hGe
  rw [hN]
  have c2 : w.cell? ⟨g, 2, none⟩ = some (.int .i64 0) := h.cell 2
  have H := Lib.hid (And.intro h (And.intro hG hN)); clear h hG hN
  go_enter Tryd.func59, Tryd.ntmps59
  go_wp2
  go_loopg [7, 8] 10 (fun k u c wr => ∃ (i a : Nat), Hid (i + k = 10) ∧ u = .int .u64 a ∧ c = .int .i64 i ∧ Hid ((i ≤ 9 ∧ a < 128 ^ i ∧ rd i a ((bts s).drop (p + i)) = G ∨ i = 10 ∧ G = .bad 10) ∧ RefAt wr g s p 0 ∧ Ext w wr))
  case atStart => exact ⟨0, 0, rfl, rfl, rfl, .inl ⟨by omega, by decide, H.out.2.1⟩, H.out.1, Ext.refl _⟩
  case round =>
    obtain ⟨i, a, hi', rfl, rfl, hinv⟩ := hrel
    have HR := Lib.hid hinv.out.2
    rcases hinv.out.1 with ⟨h9, ha, hG⟩ | ⟨rfl, hG⟩
    · have hne : ((i : Int) == 10) = false := by simp; omega
      have c0 : wr.cell? ⟨g, 0, none⟩ = some (.string s) := HR.out.1.cell 0
      have c1 : wr.cell? ⟨g, 1, none⟩ = some (.int .i64 p) := HR.out.1.cell 1
      have HGa := Lib.hid (And.intro ha hG); clear ha hG hinv
      by_cases hlt : p + i < s.size
      · go_wp2_with fail
        go_quiet (fail)
        have d0 : (wr.drewN nq).cell? ⟨g, 0, none⟩ = some (.string s) := (HR.out.1.drewN nq).cell 0
        have d1 : (wr.drewN nq).cell? ⟨g, 1, none⟩ = some (.int .i64 p) := (HR.out.1.drewN nq).cell 1
        have h3 := Lib.hid (And.intro (HR.out.1.drewN nq) (HR.out.2.drewN nq))
        generalize wr.drewN nq = w3 at h3 d0 d1 ⊢
        clear c0 c1
        have hY : s[p + i].toNat < 256 := s[p + i].toNat_lt
        obtain ⟨y, hy⟩ : ∃ y, s[p + i].toNat = y := ⟨_, rfl⟩
        rw [hy] at hY
        have b0 : (0 : Int) ≤ (p : Int) + (i : Int) := by omega
        have b1 : (p : Int) + (i : Int) < (s.size : Int) := by omega
        have hwr : IntKind.i64.wrap ((p : Int) + (i : Int)) = (p : Int) + (i : Int) := IntWalk.i64_in _ (by omega)
        have htn : ((p : Int) + (i : Int)).toNat = p + i := by omega
        go_wp2_with fail
        go_quiet (fail)
        have e1 : (w3.drewN nq).cell? ⟨g, 1, none⟩ = some (.int .i64 p) := (h3.out.1.drewN nq).cell 1
        have f1 : (w3.drewN nq).frozen? ⟨g, 1, none⟩ = false := (h3.out.1.drewN nq).frozen 1
        have h4 := Lib.hid (And.intro (h3.out.1.drewN nq) (h3.out.2.drewN nq))
        generalize w3.drewN nq = w4 at h4 e1 f1 ⊢
        clear d0 d1 hwr htn
        have hstep : (if (i = 9 ∧ 1 < y) ∨ (0 < i ∧ y = 0) then Got.bad 10 else if y < 128 then .num (a + y * 128 ^ i) (i + 1) else rd (i + 1) (a + (y - 128) * 128 ^ i) ((bts s).drop (p + (i + 1)))) = G := by
          have h1 := HGa.out.2
          rw [List.drop_eq_getElem_cons (by rw [bts_len]; exact hlt)] at h1
          rw [← hy]
          exact h1
        have HS := Lib.hid (And.intro hstep HGa.out.1); clear hstep HGa hy
        by_cases hA : i = 9 ∧ 1 < y % 128
        · have hG : G = .bad 10 := by rw [← HS.out.1, if_pos (.inl ⟨hA.1, by omega⟩)]
          subst hG
          have t9 : ((i : Int) == 9) = true := by simp; omega
          have t9b : (1 : Int) < (y : Int) % 128 := by omega
          clear hA
          go_wp2_with fail
          refine (RefFail_ok w4 g s p 10 h4.out.1).mono ?_
          rintro e w5 ⟨rfl, h5, hx5⟩
          have H5 := Lib.hid (And.intro h5 ((Only.of_ext h4.out.2).trans hx5)); clear h5 hx5
          go_wp2
          go_ret
          exact ⟨rfl, H5.out⟩
        · have hgood : i < 9 ∨ i = 9 ∧ y % 128 ≤ 1 := by omega
          have hsh := shift_nat a y i HS.out.2 hgood
          obtain ⟨T, hT⟩ : ∃ T, T = y % 128 * 128 ^ i := ⟨_, rfl⟩
          rw [← hT] at hsh
          have hs1 := hsh.1
          have hs2 := hsh.2
          clear hsh
          have t9 : ((i : Int) == 9) = false ∨ (((i : Int) == 9) = true ∧ (y : Int) % 128 ≤ 1) := by
            rcases hgood with h | ⟨h, h'⟩
            · left; simp; omega
            · right; exact ⟨by simp; omega, by omega⟩
          have HT := Lib.hid (And.intro hT hgood); clear hT hgood hA
          rcases t9 with t9 | ⟨t9, t9b⟩
          all_goals
            by_cases h128 : 128 ≤ y
            · have hnext : (i + 1 ≤ 9 ∧ a + T < 128 ^ (i + 1) ∧ rd (i + 1) (a + T) ((bts s).drop (p + (i + 1))) = G ∨ i + 1 = 10 ∧ G = .bad 10) := by
                have h1 := HS.out.1
                by_cases h9' : i = 9
                · rw [if_pos (.inl ⟨h9', by omega⟩)] at h1
                  exact .inr ⟨by omega, h1.symm⟩
                · rw [if_neg (by omega), if_neg (by omega)] at h1
                  refine .inl ⟨by omega, ?_, ?_⟩
                  · have h2 := HS.out.2
                    have h3 : T ≤ 127 * 128 ^ i := by rw [HT.out.1]; exact Nat.mul_le_mul_right _ (by omega)
                    rw [Nat.pow_succ]
                    generalize 128 ^ i = q at h2 h3
                    omega
                  · rw [HT.out.1, show y % 128 = y - 128 from by omega]; exact h1
              have HNx := Lib.hid hnext; clear hnext
              go_wp2
              go_roundg (gk - 1)
              case measure => have := hi'.out; omega
              case rel =>
                refine ⟨i + 1, a + T, ?_, by go_num, by go_num, HNx.out, h4.out.1, h4.out.2⟩
                show i + 1 + (gk - 1) = 10
                have := hi'.out; omega
            · have hmod : y % 128 = y := Nat.mod_eq_of_lt (by omega)
              by_cases hz : 0 < i ∧ y = 0
              · have hG : G = .bad 10 := by rw [← HS.out.1, if_pos (.inr hz)]
                subst hG
                have z1 : ((y : Int) == 0) = true := by simp; omega
                have z2 : (0 : Int) < (i : Int) := by omega
                have HZ := Lib.hid hz; clear hz hmod
                go_wp2_with fail
                refine (RefFail_ok w4 g s p 10 h4.out.1).mono ?_
                rintro e w5 ⟨rfl, h5, hx5⟩
                have H5 := Lib.hid (And.intro h5 ((Only.of_ext h4.out.2).trans hx5)); clear h5 hx5
                go_wp2
                go_ret
                exact ⟨rfl, H5.out⟩
              · obtain ⟨U, hU⟩ : ∃ U, U = a + T := ⟨_, rfl⟩
                have hG : G = .num U (i + 1) := by
                  rw [← HS.out.1, if_neg (by have := HT.out.2; omega), if_pos (by omega), hU, HT.out.1, hmod]
                subst hG
                have hzt : ((y : Int) == 0) = false ∨ (((y : Int) == 0) = true ∧ (i : Int) ≤ 0) := by
                  by_cases h0 : y = 0
                  · right; exact ⟨by simp; exact h0, by omega⟩
                  · left; simp; exact h0
                have HZ := Lib.hid (And.intro hz hmod); clear hz hmod
                have hUs : (a : Int) + (T : Int) = (U : Int) := by omega
                have hU64 : U < 18446744073709551616 := by omega
                have HUU := Lib.hid hU; clear hU
                have hpar := half_cases U hU64
                rcases hzt with hzt | ⟨hzt, hzt2⟩
                all_goals
                  rcases hpar with ⟨q, hd, hm, hN, hq⟩ | ⟨q, hd, hm, hN, hq⟩
                  all_goals
                    by_cases hlo : unfoldN U < lo
                    · have hnr : numGot lo hi (.num U (i + 1)) = (0, 0, 16) := by unfold numGot; dsimp only; rw [if_pos (.inl hlo)]
                      rw [hN] at hlo
                      have HNR := Lib.hid (And.intro hnr hN); clear hnr hN
                      go_wp2_with fail
                      refine (RefFail_ok w4 g s p 16 h4.out.1).mono ?_
                      rintro e w5 ⟨rfl, h5, hx5⟩
                      have H5 := Lib.hid (And.intro h5 ((Only.of_ext h4.out.2).trans hx5)); clear h5 hx5
                      go_wp2
                      go_ret
                      rw [HNR.out.1]
                      exact ⟨rfl, H5.out⟩
                    · by_cases hhi : hi < unfoldN U
                      · have hnr : numGot lo hi (.num U (i + 1)) = (0, 0, 16) := by unfold numGot; dsimp only; rw [if_pos (.inr hhi)]
                        rw [hN] at hlo hhi
                        have HNR := Lib.hid (And.intro hnr hN); clear hnr hN
                        go_wp2_with fail
                        refine (RefFail_ok w4 g s p 16 h4.out.1).mono ?_
                        rintro e w5 ⟨rfl, h5, hx5⟩
                        have H5 := Lib.hid (And.intro h5 ((Only.of_ext h4.out.2).trans hx5)); clear h5 hx5
                        go_wp2
                        go_ret
                        rw [HNR.out.1]
                        exact ⟨rfl, H5.out⟩
                      · have hnr : numGot lo hi (.num U (i + 1)) = (unfoldN U, i + 1, 0) := by unfold numGot; dsimp only; rw [if_neg (by omega)]
                        rw [hN] at hlo hhi
                        have HNR := Lib.hid (And.intro hnr hN); clear hnr hN
                        go_wp2
                        go_ret
                        rw [HNR.out.1, HNR.out.2]
                        exact ⟨rfl, by have := h4.out.1.set_ 1 (.int .i64 ((p + (i + 1) : Nat) : Int)); simpa [RefAt, Int.add_assoc] using this, (Only.of_ext h4.out.2).setCell _⟩
      · have hGb : G = .bad 11 := by
          rw [← HGa.out.2, List.drop_of_length_le (by rw [bts_len]; omega)]
          rfl
        subst hGb
        go_wp2_with fail
        go_quiet (fail)
        have h3 := Lib.hid (And.intro (HR.out.1.drewN nq) (HR.out.2.drewN nq))
        generalize wr.drewN nq = w3 at h3 ⊢
        clear c0 c1
        go_wp2_with fail
        refine (RefFail_ok w3 g s p 11 h3.out.1).mono ?_
        rintro e w4 ⟨rfl, h4, hx4⟩
        have H4 := Lib.hid (And.intro h4 ((Only.of_ext h3.out.2).trans hx4)); clear h4 hx4
        go_wp2
        go_ret
        exact ⟨rfl, H4.out⟩
    · subst hG
      clear hinv
      go_wp2_with fail
      refine (RefFail_ok wr g s p 10 HR.out.1).mono ?_
      rintro e w4 ⟨rfl, h4, hx4⟩
      have H4 := Lib.hid (And.intro h4 ((Only.of_ext HR.out.2).trans hx4)); clear h4 hx4
      go_wp2
      go_ret
      exact ⟨rfl, H4.out⟩
end Go.Proofs.YtcmllaeihnmkkaaDoor
namespace Go.Proofs.YtcmllaeihnmkkaaDoor
open Go Go.RowKit

inductive Tr where
  | code (c : Int)
  | place (p : Int) (t : Tr)
  | word (s : ByteArray) (t : Tr)
  | row (ts : List Tr)

mutual
def Tr.sz : Tr → Nat
  | .code _ => 1
  | .place _ t => t.sz + 1
  | .word _ t => t.sz + 1
  | .row ts => szAll ts + 1
def szAll : List Tr → Nat
  | [] => 0
  | t :: ts => t.sz + szAll ts + 1
end

mutual
/-- 'v' is, in the world's memory, the error of a fault's tree. -/
def Rep (w : World) : Tr → Value → Prop
  | .code c, v => v = .iface 34 (.int .i64 c) ∧ c ≠ 0 ∧ -9223372036854775808 ≤ c ∧ c ≤ 9223372036854775807
  | .place p t, v => ∃ u x, v = .iface 143 (.agg #[.iface u x, .int .i64 p, .bool false]) ∧ (-9223372036854775808 ≤ p ∧ p ≤ 9223372036854775807) ∧ Rep w t (.iface u x)
  | .word s t, v => ∃ u x, v = .iface 145 (.agg #[.iface u x, .string s, .bool false]) ∧ Rep w t (.iface u x)
  | .row ts, v => ∃ r b off cap, v = .iface 146 (.pointer (some ⟨r, 0, none⟩)) ∧ w.cell? ⟨r, 0, none⟩ = some (.slice (some ⟨b, off, none⟩) ts.length cap) ∧ w.cell? ⟨r, 1, none⟩ = some (.bool false) ∧ 2 ≤ ts.length ∧ ts.length ≤ 1000000 ∧ ts.length ≤ cap ∧ RepAll w b off ts
/-- From a place of a block on lie the errors of a row of faults. -/
def RepAll (w : World) (b : Nat) : Nat → List Tr → Prop
  | _, [] => True
  | off, t :: ts => (∃ u x, w.cell? ⟨b, off, none⟩ = some (.iface u x) ∧ Rep w t (.iface u x)) ∧ RepAll w b (off + 1) ts
end

theorem Rep.form {w : World} {t : Tr} {v : Value} (h : Rep w t v) : ∃ u x, v = .iface u x := by
  cases t with
  | code c => exact ⟨_, _, h.1⟩
  | place p t => obtain ⟨u, x, rfl, _⟩ := h; exact ⟨_, _, rfl⟩
  | word s t => obtain ⟨u, x, rfl, _⟩ := h; exact ⟨_, _, rfl⟩
  | row ts => obtain ⟨r, b, off, cap, rfl, _⟩ := h; exact ⟨_, _, rfl⟩

mutual
theorem Rep.ext {w w' : World} (hx : Ext w w') : ∀ {t : Tr} {v : Value}, Rep w t v → Rep w' t v
  | .code _, _, h => h
  | .place _ _, _, ⟨u, x, e, hp, h⟩ => ⟨u, x, e, hp, Rep.ext hx h⟩
  | .word _ _, _, ⟨u, x, e, h⟩ => ⟨u, x, e, Rep.ext hx h⟩
  | .row _, _, ⟨r, b, off, cap, e, h0, h1, h2, h3, h4, h⟩ => ⟨r, b, off, cap, e, hx.cell h0, hx.cell h1, h2, h3, h4, RepAll.ext hx h⟩
theorem RepAll.ext {w w' : World} (hx : Ext w w') {b : Nat} : ∀ {off : Nat} {ts : List Tr}, RepAll w b off ts → RepAll w' b off ts
  | _, [], _ => trivial
  | _, _ :: _, ⟨⟨u, x, hc, h⟩, hr⟩ => ⟨⟨u, x, hx.cell hc, Rep.ext hx h⟩, RepAll.ext hx hr⟩
end

theorem RepAll.at {w : World} {b : Nat} : ∀ {off : Nat} {ts : List Tr} {i : Nat} {t : Tr}, RepAll w b off ts → ts[i]? = some t → ∃ u x, w.cell? ⟨b, off + i, none⟩ = some (.iface u x) ∧ Rep w t (.iface u x)
  | _, [], _, _, _, h => by simp at h
  | off, t :: ts, 0, t', ⟨hh, _⟩, h => by simp at h; subst h; exact hh
  | off, t :: ts, i + 1, t', ⟨_, hr⟩, h => by
    obtain ⟨u, x, hc, hx⟩ := RepAll.at (i := i) (t := t') hr (by simpa using h)
    exact ⟨u, x, by rw [show off + (i + 1) = off + 1 + i from by omega]; exact hc, hx⟩

theorem RepAll.news {w : World} {b : Nat} : ∀ {off : Nat} {ts : List Tr}, RepAll w b off ts → ∃ news : List Value, news.length = ts.length ∧ (∀ (j : Nat) u, news[j]? = some u → w.cell? ⟨b, off + j, none⟩ = some u) ∧ (∀ u ∈ news, u.oneCell' = true)
  | _, [], _ => ⟨[], rfl, by simp, by simp⟩
  | off, t :: ts, ⟨⟨u, x, hc, _⟩, hr⟩ => by
    obtain ⟨news, hl, hn, h1⟩ := RepAll.news hr
    refine ⟨.iface u x :: news, by simp [hl], ?_, ?_⟩
    · intro j y hj
      cases j with
      | zero => simp at hj; subst hj; exact hc
      | succ j => rw [show off + (j + 1) = off + 1 + j from by omega]; exact hn j y (by simpa using hj)
    · intro y hy
      rcases List.mem_cons.1 hy with rfl | hy
      · rfl
      · exact h1 y hy
theorem RepAll.copy {w w' : World} (hx : Ext w w') {b g : Nat} : ∀ {off o : Nat} {ts : List Tr}, RepAll w b off ts → (∀ (j : Nat) u, j < ts.length → w.cell? ⟨b, off + j, none⟩ = some u → w'.cell? ⟨g, o + j, none⟩ = some u) → RepAll w' g o ts
  | _, _, [], _, _ => trivial
  | off, o, t :: ts, ⟨⟨u, x, hc, h⟩, hr⟩, hcp => by
    refine ⟨⟨u, x, hcp 0 _ (by simp) hc, h.ext hx⟩, RepAll.copy hx hr fun j y hj hy => ?_⟩
    rw [show o + 1 + j = o + (j + 1) from by omega]
    exact hcp (j + 1) y (by simpa using hj) (by rw [show off + (j + 1) = off + 1 + j from by omega]; exact hy)

theorem sz_mem : ∀ (ts : List Tr) (i : Nat) (t : Tr), ts[i]? = some t → t.sz < szAll ts
  | [], i, t, h => by simp at h
  | s :: ts, 0, t, h => by simp at h; subst h; simp only [szAll]; omega
  | s :: ts, i + 1, t, h => by have := sz_mem ts i t (by simpa using h); simp only [szAll]; omega

/-! What a tree tells. -/
mutual
def Tr.codeOf : Tr → Int
  | .code c => c
  | .place _ t => t.codeOf
  | .word _ t => t.codeOf
  | .row ts => codeFirst ts
def codeFirst : List Tr → Int
  | [] => 0
  | t :: _ => t.codeOf
end
mutual
def Tr.has (c : Int) : Tr → Bool
  | .code d => d == c
  | .place _ t => t.has c
  | .word _ t => t.has c
  | .row ts => hasAny c ts
def hasAny (c : Int) : List Tr → Bool
  | [] => false
  | t :: ts => t.has c || hasAny c ts
end
/-- A code's own text. -/
def codeText (c : Int) : List UInt8 := [108, 121, 99, 101, 117, 109, 58, 32, 101, 114, 114, 111, 114, 32] ++ Lib.itoa c
mutual
def Tr.text : Tr → List UInt8
  | .code c => codeText c
  | .place p t => [97, 116, 32] ++ Lib.itoa p ++ [58, 32] ++ t.text
  | .word s t => s.data.toList ++ [58, 32] ++ t.text
  | .row ts => textAll true ts
/-- The texts of a row, '; ' ahead of each but the first. -/
def textAll (first : Bool) : List Tr → List UInt8
  | [] => []
  | t :: ts => (if first then [] else [59, 32]) ++ t.text ++ textAll false ts
end
end Go.Proofs.YtcmllaeihnmkkaaDoor
namespace Go.Proofs.YtcmllaeihnmkkaaDoor
open Go.RowKit

theorem strange_rep {t : Tr} {v : Value} (w : World) (h : Rep w t v) : Calls Tryd.prog 112 #[v] w fun e w' => e = .returned (.bool false) ∧ Ext w w' := by
  cases t with
  | code c => obtain ⟨rfl, _⟩ := h; exact (strange_code _ _).mono fun e w' ⟨he, hw⟩ => ⟨he, by subst hw; exact Ext.refl _⟩
  | place p t => obtain ⟨u, x, rfl, _⟩ := h; exact (strange_placed _ _ _ _ _).mono fun e w' ⟨he, hw⟩ => ⟨he, hw⟩
  | word s t => obtain ⟨u, x, rfl, _⟩ := h; exact (strange_worded _ _ _ _ _).mono fun e w' ⟨he, hw⟩ => ⟨he, hw⟩
  | row ts => obtain ⟨r, b, off, cap, rfl, h0, h1, _⟩ := h; exact (strange_row _ _ _ h1).mono fun e w' ⟨he, hw⟩ => ⟨he, by subst hw; exact Ext.refl _⟩

set_option maxRecDepth 100000 in
theorem ends_plain (t : TypeId) (v : Value) (w : World)
    (hs : ∀ W : World, Ext w W → Calls Tryd.prog 112 #[.iface t v] W fun e w' => e = .returned (.bool false) ∧ Ext W w') :
    Calls Tryd.prog 63 #[.iface t v] w fun e w' => e = .returned (.bool true) ∧ Ext w w' := by
  go_enter Tryd.func63, Tryd.ntmps63
  go_wp2
  refine wp_loop_rounds 2 ?_
  rw [rounds_succ]
  go_wp2
  go_quiet (fail)
  go_wp2_with (first | (go_at_call 112; refine (hs _ ?_).mono ?_))
  · exact ((Ext.refl w).alloc _).drewN _
  rintro e w' ⟨rfl, hb⟩
  go_wp2
  rw [rounds_succ]
  go_wp2
  go_ret
  exact ⟨rfl, Ext.trans (((Ext.refl w).alloc _).drewN _) hb⟩
set_option maxRecDepth 100000 in
theorem ends_nil (w : World) :
    Calls Tryd.prog 63 #[.nilIface] w fun e w' => e = .returned (.bool true) ∧ Ext w w' := by
  go_enter Tryd.func63, Tryd.ntmps63
  go_wp2
  refine wp_loop_rounds 2 ?_
  rw [rounds_succ]
  go_wp2
  go_quiet (fail)
  go_wp2_with (first | (go_at_call 112; refine (strange_nil _).mono ?_))
  rintro e w' ⟨rfl, rfl⟩
  go_wp2
  rw [rounds_succ]
  go_wp2
  go_ret
  exact ⟨rfl, ((Ext.refl w).alloc _).drewN _⟩
theorem ends_rep {t : Tr} {v : Value} (w : World) (h : Rep w t v) : Calls Tryd.prog 63 #[v] w fun e w' => e = .returned (.bool true) ∧ Ext w w' := by
  obtain ⟨u, x, rfl⟩ := h.form
  exact ends_plain u x w fun W hW => strange_rep W (h.ext hW)
end Go.Proofs.YtcmllaeihnmkkaaDoor
