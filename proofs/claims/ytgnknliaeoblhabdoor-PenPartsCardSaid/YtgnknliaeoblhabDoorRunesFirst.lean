/- Words of no program: what stands first in a row of bytes, and that a decoder tells it. -/
import Derived.Test.YtgnknliaeoblhabDoorRunesMath
namespace Go.Proofs.YtgnknliaeoblhabDoor
open Go Go.RowKit

/-- Behind a first byte: how many bytes stand there, the character, and whether it may still become one. -/
def cont : Nat → Nat → Nat → Nat → Nat → List UInt8 → Nat × Int × Bool
  | 0, _, _, r, n, _ => (n, (r : Int), false)
  | _ + 1, _, _, _, n, [] => (n, 65533, true)
  | l + 1, lo, hi, r, n, b :: t => if lo ≤ b.toNat ∧ b.toNat ≤ hi then cont l 128 191 (r * 64 + b.toNat % 64) (n + 1) t else (n, 65533, false)
def firstL : List UInt8 → Nat × Int × Bool
  | [] => (1, 65533, false)
  | b :: t => if b.toNat < 128 then (1, (b.toNat : Int), false) else if (lead b.toNat).1 = 0 then (1, 65533, false)
      else cont (lead b.toNat).1 (lead b.toNat).2.1 (lead b.toNat).2.2 (b.toNat % (128 / 2 ^ (lead b.toNat).1)) 1 t
theorem cont_zero (lo hi r n : Nat) (x : List UInt8) : cont 0 lo hi r n x = (n, (r : Int), false) := rfl
theorem cont_nil (l lo hi r n : Nat) : cont (l + 1) lo hi r n [] = (n, 65533, true) := rfl
theorem cont_cons (l lo hi r n : Nat) (b : UInt8) (t : List UInt8) : cont (l + 1) lo hi r n (b :: t) = if lo ≤ b.toNat ∧ b.toNat ≤ hi then cont l 128 191 (r * 64 + b.toNat % 64) (n + 1) t else (n, 65533, false) := rfl
theorem flush_kept {s : DecSt} (h : s.k ≠ 0) : s.flush = [65533] := by unfold DecSt.flush; rw [if_neg h]
theorem flush_none {s : DecSt} (h : s.k = 0) : s.flush = [] := by unfold DecSt.flush; rw [if_pos h]
theorem decL_nil : decL [] = [] := rfl
theorem firstL_cons (b : UInt8) (t : List UInt8) : firstL (b :: t) = if b.toNat < 128 then (1, (b.toNat : Int), false) else if (lead b.toNat).1 = 0 then (1, 65533, false)
      else cont (lead b.toNat).1 (lead b.toNat).2.1 (lead b.toNat).2.2 (b.toNat % (128 / 2 ^ (lead b.toNat).1)) 1 t := rfl
theorem step_lost {s : DecSt} {b : Nat} (h : ¬ s.goes b) (hk : s.k ≠ 0) : s.step b = (65533 :: (fresh b).1, (fresh b).2) := by
  unfold DecSt.step DecSt.flush
  rw [if_neg h, if_neg hk]
  rfl
theorem run_lost {s : DecSt} {b : UInt8} (t : List UInt8) (h : ¬ s.goes b.toNat) (hk : s.k ≠ 0) : s.run (b :: t) = (65533 :: (DecSt.new.run (b :: t)).1, (DecSt.new.run (b :: t)).2) := by
  simp only [DecSt.run, step_lost h hk, new_step, List.cons_append]
theorem cont_run : ∀ (l : Nat) (s : DecSt) (n : Nat) (x : List UInt8), s.k ≠ 0 → s.l = l + 1 → ∀ n' r' o, cont (l + 1) s.lo s.hi s.r n x = (n', r', o) →
    n ≤ n' ∧ n' ≤ n + x.length ∧ (o = true → n' = n + x.length ∧ r' = 65533 ∧ (s.run x).1 = [] ∧ (s.run x).2.k ≠ 0) ∧
      (o = false → s.run x = (r' :: (DecSt.new.run (x.drop (n' - n))).1, (DecSt.new.run (x.drop (n' - n))).2))
  | l, s, n, [], hk, hl, n', r', o, h => by
    simp only [cont, Prod.mk.injEq] at h
    obtain ⟨rfl, rfl, rfl⟩ := h
    exact ⟨by omega, by simp, fun _ => ⟨by simp, rfl, rfl, hk⟩, fun e => by cases e⟩
  | l, s, n, b :: t, hk, hl, n', r', o, h => by
    simp only [cont] at h
    by_cases hb : s.lo ≤ b.toNat ∧ b.toNat ≤ s.hi
    · rw [if_pos hb] at h
      cases l with
      | zero =>
        simp only [cont, Prod.mk.injEq] at h
        obtain ⟨rfl, rfl, rfl⟩ := h
        refine ⟨by omega, by simp, (fun e => by cases e), fun _ => ?_⟩
        rw [Nat.add_sub_cancel_left]
        simp only [DecSt.run, step_last hk hb.1 hb.2 hl, List.drop_succ_cons, List.drop_zero, List.cons_append, List.nil_append]
      | succ l =>
        have hl1 : s.l ≠ 1 := by omega
        have IH := cont_run l (s.more b.toNat) (n + 1) t (by simp [DecSt.more]) (by simp [DecSt.more]; omega) n' r' o h
        obtain ⟨h1, h2, h3, h4⟩ := IH
        have hrun : s.run (b :: t) = (s.more b.toNat).run t := by
          simp only [DecSt.run, step_more hk hb.1 hb.2 hl1, List.nil_append]
        rw [hrun]
        refine ⟨by omega, by rw [List.length_cons]; omega, fun e => ?_, fun e => ?_⟩
        · obtain ⟨a1, a2, a3, a4⟩ := h3 e
          exact ⟨by rw [List.length_cons]; omega, a2, a3, a4⟩
        · rw [h4 e, show n' - n = (n' - (n + 1)) + 1 from by omega, List.drop_succ_cons]
    · rw [if_neg hb] at h
      simp only [Prod.mk.injEq] at h
      obtain ⟨rfl, rfl, rfl⟩ := h
      refine ⟨by omega, by omega, (fun e => by cases e), fun _ => ?_⟩
      rw [Nat.sub_self, List.drop_zero]
      exact run_lost t (fun hg => hb hg.2) hk
theorem first_run (b : UInt8) (t : List UInt8) {n : Nat} {r : Int} {o : Bool} (h : firstL (b :: t) = (n, r, o)) :
    1 ≤ n ∧ n ≤ (b :: t).length ∧ (o = true → n = (b :: t).length ∧ r = 65533 ∧ (DecSt.new.run (b :: t)).1 = [] ∧ (DecSt.new.run (b :: t)).2.k ≠ 0) ∧
      (o = false → DecSt.new.run (b :: t) = (r :: (DecSt.new.run ((b :: t).drop n)).1, (DecSt.new.run ((b :: t).drop n)).2)) := by
  rw [firstL_cons] at h
  by_cases h1 : b.toNat < 128
  · rw [if_pos h1] at h
    simp only [Prod.mk.injEq] at h
    obtain ⟨rfl, rfl, rfl⟩ := h
    refine ⟨by omega, by simp, (fun e => by cases e), fun _ => ?_⟩
    simp only [DecSt.run, new_step, fresh, if_pos h1, List.drop_succ_cons, List.drop_zero, List.cons_append, List.nil_append]
  · rw [if_neg h1] at h
    by_cases h2 : (lead b.toNat).1 = 0
    · rw [if_pos h2] at h
      simp only [Prod.mk.injEq] at h
      obtain ⟨rfl, rfl, rfl⟩ := h
      refine ⟨by omega, by simp, (fun e => by cases e), fun _ => ?_⟩
      simp only [DecSt.run, new_step, fresh, if_neg h1, if_pos h2, List.drop_succ_cons, List.drop_zero, List.cons_append, List.nil_append]
    · rw [if_neg h2] at h
      obtain ⟨l, hl⟩ : ∃ l, (lead b.toNat).1 = l + 1 := ⟨(lead b.toNat).1 - 1, by omega⟩
      have hrun : DecSt.new.run (b :: t) = (DecSt.begun b.toNat).run t := by
        simp only [DecSt.run, new_step, fresh_lead h2, List.nil_append]
      have IH := cont_run l (.begun b.toNat) 1 t (by simp [DecSt.begun]) hl n r o (by unfold DecSt.begun; simp only [← hl]; exact h)
      obtain ⟨a1, a2, a3, a4⟩ := IH
      rw [hrun, List.length_cons]
      refine ⟨a1, by omega, fun e => ?_, fun e => ?_⟩
      · obtain ⟨b1, b2⟩ := a3 e
        exact ⟨by omega, b2⟩
      · rw [a4 e, show n = (n - 1) + 1 from by omega, List.drop_succ_cons, Nat.add_sub_cancel]
theorem firstL_eta (x : List UInt8) : ∃ n r o, firstL x = (n, r, o) := ⟨_, _, _, rfl⟩
/-- The document's answer goes on from what stands first. -/
theorem decL_first (b : UInt8) (t : List UInt8) {n : Nat} {r : Int} {o : Bool} (h : firstL (b :: t) = (n, r, o)) : decL (b :: t) = r :: decL ((b :: t).drop n) := by
  obtain ⟨h1, h2, h3, h4⟩ := first_run b t h
  cases o with
  | true =>
    obtain ⟨a1, rfl, a3, a4⟩ := h3 rfl
    rw [a1, List.drop_length, decL_nil]
    unfold decL
    rw [a3, flush_kept a4]
    rfl
  | false =>
    unfold decL
    rw [h4 rfl]
    rfl
/-- A decoder that told nothing keeps all. -/
theorem keeps_step {s : DecSt} {b : Nat} (h : (s.step b).1 = []) : (s.step b).2.k = s.k + 1 := by
  unfold DecSt.step at h ⊢
  split
  · rename_i hg
    rw [if_pos hg] at h
    split
    · rename_i hl; rw [if_pos hl] at h; cases h
    · rfl
  · rename_i hg
    rw [if_neg hg] at h
    obtain ⟨h1, h2⟩ := List.append_eq_nil_iff.1 h
    have hk : s.k = 0 := by
      unfold DecSt.flush at h1
      split at h1
      · assumption
      · cases h1
    have := len_fresh b
    simp only [h2, List.length_nil] at this ⊢
    omega
theorem keeps_run : ∀ (x : List UInt8) (s : DecSt), (s.run x).1 = [] → (s.run x).2.k = s.k + x.length
  | [], s, _ => rfl
  | b :: t, s, h => by
    simp only [DecSt.run] at h ⊢
    obtain ⟨h1, h2⟩ := List.append_eq_nil_iff.1 h
    rw [keeps_run t _ h2, keeps_step h1, List.length_cons]
    omega
/-- What stands first has a sequence; and is it no fffd, its sequence stands there. -/
theorem ofNat_eq {n : Nat} {b : UInt8} (h : n = b.toNat) : UInt8.ofNat n = b := by subst h; simp
theorem numR_of {n : Nat} (h : isRune (n : Int)) : numR (n : Int) = n := by unfold numR; rw [fix_rune h]; simp
theorem first_rune (b : UInt8) (t : List UInt8) {n : Nat} {r : Int} {o : Bool} (h : firstL (b :: t) = (n, r, o)) :
    isRune r ∧ (o = false → r ≠ 65533 → encR r = (b :: t).take n) := by
  rw [firstL_cons] at h
  have hb := b.toNat_lt
  by_cases h1 : b.toNat < 128
  · rw [if_pos h1] at h
    simp only [Prod.mk.injEq] at h
    obtain ⟨rfl, rfl, rfl⟩ := h
    have hr : isRune (b.toNat : Int) := by unfold isRune; omega
    refine ⟨hr, fun _ _ => ?_⟩
    rw [encR_of, numR_of hr, if_pos h1]
    simp
  · rw [if_neg h1] at h
    by_cases h2 : (lead b.toNat).1 = 0
    · rw [if_pos h2] at h
      simp only [Prod.mk.injEq] at h
      obtain ⟨rfl, rfl, rfl⟩ := h
      exact ⟨isRune_fffd, fun _ e => absurd rfl e⟩
    · rw [if_neg h2] at h
      rcases lead_cases b.toNat with c | ⟨_, _, _, c4, c5⟩ | ⟨_, _, _, c4, c5⟩ | ⟨_, _, _, c4, c5⟩
      · rw [c] at h2; exact absurd rfl h2
      · have h : cont (0 + 1) 128 191 (b.toNat % (128 / 2 ^ 1)) 1 t = (n, r, o) := by rw [lead1 ⟨c4, c5⟩] at h; exact h
        cases t with
        | nil => simp only [cont_nil, Prod.mk.injEq] at h; obtain ⟨rfl, rfl, rfl⟩ := h; exact ⟨isRune_fffd, fun _ e => absurd rfl e⟩
        | cons b1 t =>
          rw [cont_cons] at h
          split at h
          · rename_i g1
            simp only [cont_zero, Prod.mk.injEq] at h
            obtain ⟨rfl, rfl, rfl⟩ := h
            have hr : isRune ((b.toNat % (128 / 2 ^ 1) * 64 + b1.toNat % 64 : Nat) : Int) := by unfold isRune; omega
            refine ⟨hr, fun _ _ => ?_⟩
            rw [encR_of, numR_of hr, if_neg (by omega), if_pos (by omega)]
            rw [ofNat_eq (b := b) (by omega), ofNat_eq (b := b1) (by omega)]
            rfl
          · simp only [Prod.mk.injEq] at h; obtain ⟨rfl, rfl, rfl⟩ := h; exact ⟨isRune_fffd, fun _ e => absurd rfl e⟩
      · have h : cont (0 + 1 + 1) (if b.toNat = 224 then 160 else 128) (if b.toNat = 237 then 159 else 191) (b.toNat % (128 / 2 ^ 2)) 1 t = (n, r, o) := by rw [lead2 ⟨c4, c5⟩] at h; exact h
        generalize hlo : (if b.toNat = 224 then 160 else 128) = lo at h
        generalize hhi : (if b.toNat = 237 then 159 else 191) = hi at h
        have hlo1 : 128 ≤ lo := by split at hlo <;> omega
        have hhi1 : hi ≤ 191 := by split at hhi <;> omega
        cases t with
        | nil => simp only [cont_nil, Prod.mk.injEq] at h; obtain ⟨rfl, rfl, rfl⟩ := h; exact ⟨isRune_fffd, fun _ e => absurd rfl e⟩
        | cons b1 t =>
          rw [cont_cons] at h
          split at h
          · rename_i g1
            cases t with
            | nil => simp only [cont_nil, Prod.mk.injEq] at h; obtain ⟨rfl, rfl, rfl⟩ := h; exact ⟨isRune_fffd, fun _ e => absurd rfl e⟩
            | cons b2 t =>
              rw [cont_cons] at h
              split at h
              · rename_i g2
                simp only [cont_zero, Prod.mk.injEq] at h
                obtain ⟨rfl, rfl, rfl⟩ := h
                have hr : isRune (((b.toNat % (128 / 2 ^ 2) * 64 + b1.toNat % 64) * 64 + b2.toNat % 64 : Nat) : Int) := by
                  unfold isRune
                  obtain ⟨g3, g4⟩ := g1
                  split at hlo <;> split at hhi <;> omega
                refine ⟨hr, fun _ _ => ?_⟩
                obtain ⟨g3, g4⟩ := g1
                rw [encR_of, numR_of hr, if_neg (by split at hlo <;> omega), if_neg (by split at hlo <;> split at hhi <;> omega), if_pos (by omega)]
                rw [ofNat_eq (b := b) (by split at hlo <;> split at hhi <;> omega), ofNat_eq (b := b1) (by split at hlo <;> split at hhi <;> omega), ofNat_eq (b := b2) (by omega)]
                rfl
              · simp only [Prod.mk.injEq] at h; obtain ⟨rfl, rfl, rfl⟩ := h; exact ⟨isRune_fffd, fun _ e => absurd rfl e⟩
          · simp only [Prod.mk.injEq] at h; obtain ⟨rfl, rfl, rfl⟩ := h; exact ⟨isRune_fffd, fun _ e => absurd rfl e⟩
      · have h : cont (0 + 1 + 1 + 1) (if b.toNat = 240 then 144 else 128) (if b.toNat = 244 then 143 else 191) (b.toNat % (128 / 2 ^ 3)) 1 t = (n, r, o) := by rw [lead3 ⟨c4, c5⟩] at h; exact h
        generalize hlo : (if b.toNat = 240 then 144 else 128) = lo at h
        generalize hhi : (if b.toNat = 244 then 143 else 191) = hi at h
        have hlo1 : 128 ≤ lo := by split at hlo <;> omega
        have hhi1 : hi ≤ 191 := by split at hhi <;> omega
        cases t with
        | nil => simp only [cont_nil, Prod.mk.injEq] at h; obtain ⟨rfl, rfl, rfl⟩ := h; exact ⟨isRune_fffd, fun _ e => absurd rfl e⟩
        | cons b1 t =>
          rw [cont_cons] at h
          split at h
          · rename_i g1
            cases t with
            | nil => simp only [cont_nil, Prod.mk.injEq] at h; obtain ⟨rfl, rfl, rfl⟩ := h; exact ⟨isRune_fffd, fun _ e => absurd rfl e⟩
            | cons b2 t =>
              rw [cont_cons] at h
              split at h
              · rename_i g2
                cases t with
                | nil => simp only [cont_nil, Prod.mk.injEq] at h; obtain ⟨rfl, rfl, rfl⟩ := h; exact ⟨isRune_fffd, fun _ e => absurd rfl e⟩
                | cons b3 t =>
                  rw [cont_cons] at h
                  split at h
                  · rename_i g5
                    simp only [cont_zero, Prod.mk.injEq] at h
                    obtain ⟨rfl, rfl, rfl⟩ := h
                    have hr : isRune ((((b.toNat % (128 / 2 ^ 3) * 64 + b1.toNat % 64) * 64 + b2.toNat % 64) * 64 + b3.toNat % 64 : Nat) : Int) := by
                      unfold isRune
                      obtain ⟨g3, g4⟩ := g1
                      split at hlo <;> split at hhi <;> omega
                    refine ⟨hr, fun _ _ => ?_⟩
                    obtain ⟨g3, g4⟩ := g1
                    rw [encR_of, numR_of hr, if_neg (by split at hlo <;> omega), if_neg (by split at hlo <;> split at hhi <;> omega), if_neg (by split at hlo <;> split at hhi <;> omega)]
                    rw [ofNat_eq (b := b) (by split at hlo <;> split at hhi <;> omega), ofNat_eq (b := b1) (by split at hlo <;> split at hhi <;> omega), ofNat_eq (b := b2) (by omega), ofNat_eq (b := b3) (by omega)]
                    rfl
                  · simp only [Prod.mk.injEq] at h; obtain ⟨rfl, rfl, rfl⟩ := h; exact ⟨isRune_fffd, fun _ e => absurd rfl e⟩
              · simp only [Prod.mk.injEq] at h; obtain ⟨rfl, rfl, rfl⟩ := h; exact ⟨isRune_fffd, fun _ e => absurd rfl e⟩
          · simp only [Prod.mk.injEq] at h; obtain ⟨rfl, rfl, rfl⟩ := h; exact ⟨isRune_fffd, fun _ e => absurd rfl e⟩
/-- What was decoded has sequences; and where no fffd is told, those are the bytes. -/
theorem decL_rune (m : Nat) : ∀ (x : List UInt8), x.length ≤ m → (∀ r, r ∈ decL x → isRune r) ∧ ((65533 : Int) ∉ decL x → encL (decL x) = x) := by
  induction m with
  | zero =>
    intro x hx
    obtain rfl : x = [] := List.eq_nil_of_length_eq_zero (by omega)
    refine ⟨fun r hr => ?_, fun _ => rfl⟩
    simp [decL, DecSt.run, DecSt.flush, DecSt.new] at hr
  | succ m ih =>
    intro x hx
    cases x with
    | nil => exact ih [] (by simp)
    | cons b t =>
      obtain ⟨n, r, o, h⟩ := firstL_eta (b :: t)
      obtain ⟨h1, h2, h3, h4⟩ := first_run b t h
      obtain ⟨hr, he⟩ := first_rune b t h
      rw [decL_first b t h]
      obtain ⟨i1, i2⟩ := ih ((b :: t).drop n) (by rw [List.length_drop]; omega)
      refine ⟨fun q hq => ?_, fun hn => ?_⟩
      · rcases List.mem_cons.1 hq with rfl | hq
        · exact hr
        · exact i1 q hq
      · have hne : r ≠ 65533 := fun e => hn (by rw [e]; exact List.mem_cons_self ..)
        have ho : o = false := by
          cases o with
          | false => rfl
          | true => exact absurd (h3 rfl).2.1 hne
        rw [encL_cons, he ho hne, i2 fun hm => hn (List.mem_cons_of_mem _ hm), List.take_append_drop]
theorem decL_all (x : List UInt8) : ∀ r, r ∈ decL x → isRune r := (decL_rune x.length x (Nat.le_refl _)).1
theorem decL_clean (x : List UInt8) (h : (65533 : Int) ∉ decL x) : encL (decL x) = x := (decL_rune x.length x (Nat.le_refl _)).2 h
theorem map_fix : ∀ (zs : List Int), (∀ r, r ∈ zs → isRune r) → zs.map fixR = zs
  | [], _ => rfl
  | z :: zs, h => by rw [List.map_cons, fix_rune (h z (List.mem_cons_self ..)), map_fix zs fun r hr => h r (List.mem_cons_of_mem _ hr)]
theorem decL_again (x : List UInt8) : decL (encL (decL x)) = decL x := by rw [decL_encL, map_fix _ (decL_all x)]
theorem decL_plain : ∀ (x : List UInt8), (∀ b, b ∈ x → b.toNat < 128) → DecSt.new.run x = (x.map fun b => (b.toNat : Int), .new)
  | [], _ => rfl
  | b :: t, h => by
    have h1 := h b (List.mem_cons_self ..)
    simp only [DecSt.run, new_step, fresh, if_pos h1, List.map_cons, List.cons_append, List.nil_append]
    rw [decL_plain t fun q hq => h q (List.mem_cons_of_mem _ hq)]
theorem isI32_rune {r : Int} (h : isRune r) : isI32 r := by unfold isRune at h; unfold isI32; omega
end Go.Proofs.YtgnknliaeoblhabDoor
