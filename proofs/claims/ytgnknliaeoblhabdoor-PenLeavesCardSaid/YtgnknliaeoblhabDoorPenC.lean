/- What takes numbers from the front: pen.taker, its closure; what a 38 or a 48 chooses: pen.chosen. -/
import Derived.Test.YtgnknliaeoblhabDoorPenB
namespace Go.Proofs.YtgnknliaeoblhabDoor
open Go Go.RowKit

/-- Numbers are taken from the front: the box holds what is left. -/
def TakeAt (w : World) (B : Nat) (l : List Int) : Prop :=
  ∃ g off c, Blk w B 40 #[.slice (some ⟨g, off, none⟩) l.length c] ∧ (g < B ∧ B ≤ g + 2) ∧ l.length ≤ c ∧ ∀ i n, l[i]? = some n → w.cell? ⟨g, off + i, none⟩ = some (.int .i64 n)
abbrev takeV (B : Nat) : Value := .func (.func 25) #[] #[.pointer (some ⟨B, 0, none⟩)]
theorem TakeAt.lt {w : World} {B : Nat} {l : List Int} (h : TakeAt w B l) : B < w.heap.size := by
  obtain ⟨g, off, c, h, _⟩ := h
  exact h.lt
theorem TakeAt.ext {w w' : World} {B : Nat} {l : List Int} (h : TakeAt w B l) (hx : Ext w w') : TakeAt w' B l := by
  obtain ⟨g, off, c, h1, h2, h3, h4⟩ := h
  exact ⟨g, off, c, h1.ext hx, h2, h3, fun i n hi => hx.cell (h4 i n hi)⟩
theorem TakeAt.only {w w' : World} {B d : Nat} {l : List Int} (h : TakeAt w B l) (hx : Only d w w') (hd : B < d ∨ d + 2 < B) : TakeAt w' B l := by
  obtain ⟨g, off, c, h1, h2, h3, h4⟩ := h
  exact ⟨g, off, c, h1.only hx (by omega), h2, h3, fun i n hi => hx.cell (show g ≠ d by omega) (h4 i n hi)⟩
set_option maxHeartbeats 2000000 in
set_option maxRecDepth 100000 in
theorem take_of (B : Nat) (l : List Int) (w : World) (h : TakeAt w B l) : Calls Tryd.prog 25 #[.pointer (some ⟨B, 0, none⟩)] w fun e w' => e = .returned (.tuple #[.int .i64 (l.headD 0), .bool (!l.isEmpty)]) ∧ TakeAt w' B l.tail ∧ Only B w w' := by
  obtain ⟨g, off, c, h1, h2, h3, h4⟩ := h
  have k0 : w.cell? ⟨B, 0, none⟩ = some (.slice (some ⟨g, off, none⟩) l.length c) := h1.cell 0
  have f0 := h1.frozen 0
  have H := Lib.hid (And.intro h1 (And.intro h2 (And.intro h3 h4))); clear h1 h2 h3 h4
  cases l with
  | nil =>
    go_enter Tryd.func25, Tryd.ntmps25
    go_wp2
    go_ret2
    exact ⟨rfl, ⟨g, off, c, H.out⟩, Only.refl B _⟩
  | cons x t =>
    have hc : t.length + 1 ≤ c := H.out.2.2.1
    have kx : w.cell? ⟨g, off, none⟩ = some (.int .i64 x) := H.out.2.2.2 0 x rfl
    simp only [List.length_cons] at k0
    generalize hn : t.length = n at k0 hc
    have HN := Lib.hid hn; clear hn
    by_cases hc1 : c = 1
    · subst hc1
      obtain rfl : n = 0 := by omega
      have hs := Blk.set_ H.out.1 0 (.slice (some ⟨g, off, none⟩) 0 0)
      have ho := (Only.refl B w).setCell (i := 0) (.slice (some ⟨g, off, none⟩) 0 0)
      have HS := Lib.hid (And.intro hs ho); clear hs ho
      obtain rfl : t = [] := List.eq_nil_of_length_eq_zero HN.out
      go_enter Tryd.func25, Tryd.ntmps25
      go_wp2
      go_ret2
      exact ⟨rfl, ⟨g, off, 0, HS.out.1, H.out.2.1, Nat.le_refl _, fun i y hi => by cases hi⟩, HS.out.2⟩
    · have hs := Blk.set_ H.out.1 0 (.slice (some ⟨g, off + 1, none⟩) n (c - 1))
      have ho := (Only.refl B w).setCell (i := 0) (.slice (some ⟨g, off + 1, none⟩) n (c - 1))
      have HS := Lib.hid (And.intro hs ho); clear hs ho
      go_enter Tryd.func25, Tryd.ntmps25
      go_wp2
      go_ret2
      refine ⟨rfl, ⟨g, off + 1, c - 1, ?_, H.out.2.1, by simp only [List.tail_cons]; rw [HN.out]; omega, fun i y hi => ?_⟩, HS.out.2⟩
      · simp only [List.tail_cons]; rw [HN.out]; exact HS.out.1
      · have := H.out.2.2.2 (i + 1) y hi
        rw [show off + 1 + i = off + (i + 1) by omega]
        exact HS.out.2.cell (Nat.ne_of_lt H.out.2.1.1) this
set_option maxHeartbeats 4000000 in
set_option maxRecDepth 100000 in
theorem chosen_nil (was : Int) (B : Nat) (w : World) (h : TakeAt w B []) : Calls Tryd.prog 26 #[.int .u8 was, takeV B] w fun e w' => e = .returned (.int .u8 (chosenP was []).1) ∧ TakeAt w' B (chosenP was []).2 ∧ Only B w w' := by
  have T0 := Lib.hid (And.intro h (Only.refl B w)); clear h
  obtain ⟨R, hR⟩ : ∃ R, chosenP was [] = R := ⟨_, rfl⟩
  rw [hR]
  have HR := Lib.hid (show R = (was, []) by rw [← hR]; rfl); clear hR
  go_enter Tryd.func26, Tryd.ntmps26
  go_wp2_with fail
  refine (take_of B [] _ T0.out.1).mono ?_
  rintro e w1 ⟨rfl, ht, ho⟩
  have T1 := Lib.hid (And.intro ht (T0.out.2.trans ho)); clear ht ho
  go_wp2_with fail
  go_loopg [15] (([] : List Int).length + 1) (fun k u wr => ∃ (b : Bool) (m : List Int), u = .bool b ∧ Hid ((b = true ∧ k = m.length + 1 ∨ b = false ∧ k = 0 ∧ m = []) ∧ TakeAt wr B m ∧ Only B w wr))
  case atStart => exact ⟨true, ([] : List Int), rfl, .inl ⟨rfl, rfl⟩, T1.out⟩
  case round =>
    obtain ⟨b, m, rfl, hin⟩ := hrel
    cases b with
    | true =>
      have hk : gk = m.length + 1 := by rcases hin.out.1 with h | h; exact h.2; cases h.1
      have HK := Lib.hid hk; clear hk
      cases m with
      | nil =>
        go_wp2_with fail
        refine (take_of B [] _ hin.out.2.1).mono ?_
        rintro e w2 ⟨rfl, ht, ho⟩
        have T2 := Lib.hid (And.intro ht (hin.out.2.2.trans ho)); clear ht ho
        go_wp2
        go_roundg 0
        case measure => have := HK.out; omega
        case rel => exact ⟨false, [], rfl, .inr ⟨rfl, rfl, rfl⟩, T2.out⟩
      | cons z m =>
        go_wp2_with fail
        refine (take_of B (z :: m) _ hin.out.2.1).mono ?_
        rintro e w2 ⟨rfl, ht, ho⟩
        have T2 := Lib.hid (And.intro ht (hin.out.2.2.trans ho)); clear ht ho
        go_wp2
        go_roundg (m.length + 1)
        case measure => have := HK.out; simp at this; omega
        case rel => exact ⟨true, m, rfl, .inl ⟨rfl, rfl⟩, T2.out⟩
    | false =>
      have hm : m = [] := by rcases hin.out.1 with h | h; cases h.1; exact h.2.2
      have HM := Lib.hid hm; clear hm
      go_wp2
      go_ret
      exact ⟨by rw [HR.out]; rfl, by rw [HR.out]; exact HM.out ▸ hin.out.2.1, hin.out.2.2⟩
set_option maxHeartbeats 4000000 in
set_option maxRecDepth 100000 in
theorem chosen_other (was : Int) (B : Nat) (x : Int) (t : List Int) (w : World) (h : TakeAt w B (x :: t)) (h5 : x ≠ 5) (h2 : x ≠ 2) : Calls Tryd.prog 26 #[.int .u8 was, takeV B] w fun e w' => e = .returned (.int .u8 (chosenP was (x :: t)).1) ∧ TakeAt w' B (chosenP was (x :: t)).2 ∧ Only B w w' := by
  have T0 := Lib.hid (And.intro h (Only.refl B w)); clear h
  obtain ⟨R, hR⟩ : ∃ R, chosenP was (x :: t) = R := ⟨_, rfl⟩
  rw [hR]
  have HR := Lib.hid (show R = (was, []) by rw [← hR]; simp only [chosenP]; rw [if_neg h5, if_neg h2]); clear hR
  go_enter Tryd.func26, Tryd.ntmps26
  have e5 : (x == 5) = false := by simp [h5]
  have e2 : (x == 2) = false := by simp [h2]
  clear h5 h2
  go_wp2_with fail
  refine (take_of B (x :: t) _ T0.out.1).mono ?_
  rintro e w1 ⟨rfl, ht, ho⟩
  have T1 := Lib.hid (And.intro ht (T0.out.2.trans ho)); clear ht ho
  have hl : (x :: t).headD 0 = x := rfl
  go_wp2_with fail
  go_loopg [15] (t.length + 1) (fun k u wr => ∃ (b : Bool) (m : List Int), u = .bool b ∧ Hid ((b = true ∧ k = m.length + 1 ∨ b = false ∧ k = 0 ∧ m = []) ∧ TakeAt wr B m ∧ Only B w wr))
  case atStart => exact ⟨true, t, rfl, .inl ⟨rfl, rfl⟩, T1.out⟩
  case round =>
    obtain ⟨b, m, rfl, hin⟩ := hrel
    cases b with
    | true =>
      have hk : gk = m.length + 1 := by rcases hin.out.1 with h | h; exact h.2; cases h.1
      have HK := Lib.hid hk; clear hk
      cases m with
      | nil =>
        go_wp2_with fail
        refine (take_of B [] _ hin.out.2.1).mono ?_
        rintro e w2 ⟨rfl, ht, ho⟩
        have T2 := Lib.hid (And.intro ht (hin.out.2.2.trans ho)); clear ht ho
        go_wp2
        go_roundg 0
        case measure => have := HK.out; omega
        case rel => exact ⟨false, [], rfl, .inr ⟨rfl, rfl, rfl⟩, T2.out⟩
      | cons z m =>
        go_wp2_with fail
        refine (take_of B (z :: m) _ hin.out.2.1).mono ?_
        rintro e w2 ⟨rfl, ht, ho⟩
        have T2 := Lib.hid (And.intro ht (hin.out.2.2.trans ho)); clear ht ho
        go_wp2
        go_roundg (m.length + 1)
        case measure => have := HK.out; simp at this; omega
        case rel => exact ⟨true, m, rfl, .inl ⟨rfl, rfl⟩, T2.out⟩
    | false =>
      have hm : m = [] := by rcases hin.out.1 with h | h; cases h.1; exact h.2.2
      have HM := Lib.hid hm; clear hm
      go_wp2
      go_ret
      exact ⟨by rw [HR.out]; rfl, by rw [HR.out]; exact HM.out ▸ hin.out.2.1, hin.out.2.2⟩
set_option maxHeartbeats 4000000 in
set_option maxRecDepth 100000 in
theorem chosen_five (was : Int) (B : Nat) (w : World) (h : TakeAt w B [5]) : Calls Tryd.prog 26 #[.int .u8 was, takeV B] w fun e w' => e = .returned (.int .u8 (chosenP was [5]).1) ∧ TakeAt w' B (chosenP was [5]).2 ∧ Only B w w' := by
  have T0 := Lib.hid (And.intro h (Only.refl B w)); clear h
  obtain ⟨R, hR⟩ : ∃ R, chosenP was [5] = R := ⟨_, rfl⟩
  rw [hR]
  have HR := Lib.hid (show R = (was, []) by rw [← hR]; rfl); clear hR
  go_enter Tryd.func26, Tryd.ntmps26
  go_wp2_with fail
  refine (take_of B [5] _ T0.out.1).mono ?_
  rintro e w1 ⟨rfl, ht, ho⟩
  have T1 := Lib.hid (And.intro ht (T0.out.2.trans ho)); clear ht ho
  go_wp2_with fail
  refine (take_of B [] _ T1.out.1).mono ?_
  rintro e w2 ⟨rfl, ht, ho⟩
  have T2 := Lib.hid (And.intro ht (T1.out.2.trans ho)); clear ht ho
  go_wp2
  go_ret
  exact ⟨by rw [HR.out]; rfl, by rw [HR.out]; exact T2.out.1, T2.out.2⟩
set_option maxHeartbeats 4000000 in
set_option maxRecDepth 100000 in
theorem chosen_fiveN (was : Int) (B : Nat) (n : Int) (t : List Int) (w : World) (h : TakeAt w B (5 :: n :: t)) (hn : 0 ≤ n ∧ n ≤ 255) : Calls Tryd.prog 26 #[.int .u8 was, takeV B] w fun e w' => e = .returned (.int .u8 (chosenP was (5 :: n :: t)).1) ∧ TakeAt w' B (chosenP was (5 :: n :: t)).2 ∧ Only B w w' := by
  have T0 := Lib.hid (And.intro h (Only.refl B w)); clear h
  obtain ⟨R, hR⟩ : ∃ R, chosenP was (5 :: n :: t) = R := ⟨_, rfl⟩
  rw [hR]
  have HR := Lib.hid (show R = (colP n, t) by rw [← hR]; simp only [chosenP]; rw [if_pos True.intro, if_pos hn]); clear hR
  go_enter Tryd.func26, Tryd.ntmps26
  have c1 : 0 ≤ n := hn.1
  have c2 : n ≤ 255 := hn.2
  have HC := Lib.hid (fun V => colour_of n V hn.2)
  clear hn
  go_wp2_with fail
  refine (take_of B (5 :: n :: t) _ T0.out.1).mono ?_
  rintro e w1 ⟨rfl, ht, ho⟩
  have T1 := Lib.hid (And.intro ht (T0.out.2.trans ho)); clear ht ho
  go_wp2_with fail
  refine (take_of B (n :: t) _ T1.out.1).mono ?_
  rintro e w2 ⟨rfl, ht, ho⟩
  have T2 := Lib.hid (And.intro ht (T1.out.2.trans ho)); clear ht ho
  go_wp2_with fail
  refine (HC.out _).mono ?_
  rintro e w3 ⟨rfl, rfl⟩
  go_wp2
  go_ret
  exact ⟨by rw [HR.out]; rfl, by rw [HR.out]; exact T2.out.1, T2.out.2⟩
set_option maxHeartbeats 4000000 in
set_option maxRecDepth 100000 in
theorem chosen_fiveM (was : Int) (B : Nat) (n : Int) (t : List Int) (w : World) (h : TakeAt w B (5 :: n :: t)) (hn : ¬ (0 ≤ n ∧ n ≤ 255)) : Calls Tryd.prog 26 #[.int .u8 was, takeV B] w fun e w' => e = .returned (.int .u8 (chosenP was (5 :: n :: t)).1) ∧ TakeAt w' B (chosenP was (5 :: n :: t)).2 ∧ Only B w w' := by
  have T0 := Lib.hid (And.intro h (Only.refl B w)); clear h
  obtain ⟨R, hR⟩ : ∃ R, chosenP was (5 :: n :: t) = R := ⟨_, rfl⟩
  rw [hR]
  have HR := Lib.hid (show R = (was, t) by rw [← hR]; simp only [chosenP]; rw [if_pos True.intro, if_neg hn]); clear hR
  go_enter Tryd.func26, Tryd.ntmps26
  rcases (show n < 0 ∨ 255 < n by omega) with c1 | c1
  all_goals
    clear hn
    go_wp2_with fail
    refine (take_of B (5 :: n :: t) _ T0.out.1).mono ?_
    rintro e w1 ⟨rfl, ht, ho⟩
    have T1 := Lib.hid (And.intro ht (T0.out.2.trans ho)); clear ht ho
    go_wp2_with fail
    refine (take_of B (n :: t) _ T1.out.1).mono ?_
    rintro e w2 ⟨rfl, ht, ho⟩
    have T2 := Lib.hid (And.intro ht (T1.out.2.trans ho)); clear ht ho
    go_wp2
    go_ret
    exact ⟨by rw [HR.out]; rfl, by rw [HR.out]; exact T2.out.1, T2.out.2⟩
set_option maxHeartbeats 4000000 in
set_option maxRecDepth 100000 in
theorem chosen_two0 (was : Int) (B : Nat) (w : World) (h : TakeAt w B [2]) : Calls Tryd.prog 26 #[.int .u8 was, takeV B] w fun e w' => e = .returned (.int .u8 (chosenP was [2]).1) ∧ TakeAt w' B (chosenP was [2]).2 ∧ Only B w w' := by
  have T0 := Lib.hid (And.intro h (Only.refl B w)); clear h
  obtain ⟨R, hR⟩ : ∃ R, chosenP was [2] = R := ⟨_, rfl⟩
  rw [hR]
  have HR := Lib.hid (show R = (was, []) by rw [← hR]; rfl); clear hR
  go_enter Tryd.func26, Tryd.ntmps26
  go_wp2_with fail
  refine (take_of B [2] _ T0.out.1).mono ?_
  rintro e w1 ⟨rfl, ht, ho⟩
  have T1 := Lib.hid (And.intro ht (T0.out.2.trans ho)); clear ht ho
  go_wp2_with fail
  refine (take_of B [] _ T1.out.1).mono ?_
  rintro e w2 ⟨rfl, ht, ho⟩
  have T2 := Lib.hid (And.intro ht (T1.out.2.trans ho)); clear ht ho
  go_wp2_with fail
  refine (take_of B [] _ T2.out.1).mono ?_
  rintro e w3 ⟨rfl, ht, ho⟩
  have T3 := Lib.hid (And.intro ht (T2.out.2.trans ho)); clear ht ho
  go_wp2_with fail
  refine (take_of B [] _ T3.out.1).mono ?_
  rintro e w4 ⟨rfl, ht, ho⟩
  have T4 := Lib.hid (And.intro ht (T3.out.2.trans ho)); clear ht ho
  go_wp2
  go_ret
  exact ⟨by rw [HR.out]; rfl, by rw [HR.out]; exact T4.out.1, T4.out.2⟩
set_option maxHeartbeats 4000000 in
set_option maxRecDepth 100000 in
theorem chosen_two1 (was : Int) (B : Nat) (r : Int) (w : World) (h : TakeAt w B [2, r]) : Calls Tryd.prog 26 #[.int .u8 was, takeV B] w fun e w' => e = .returned (.int .u8 (chosenP was [2, r]).1) ∧ TakeAt w' B (chosenP was [2, r]).2 ∧ Only B w w' := by
  have T0 := Lib.hid (And.intro h (Only.refl B w)); clear h
  obtain ⟨R, hR⟩ : ∃ R, chosenP was [2, r] = R := ⟨_, rfl⟩
  rw [hR]
  have HR := Lib.hid (show R = (was, []) by rw [← hR]; rfl); clear hR
  go_enter Tryd.func26, Tryd.ntmps26
  go_wp2_with fail
  refine (take_of B [2, r] _ T0.out.1).mono ?_
  rintro e w1 ⟨rfl, ht, ho⟩
  have T1 := Lib.hid (And.intro ht (T0.out.2.trans ho)); clear ht ho
  go_wp2_with fail
  refine (take_of B [r] _ T1.out.1).mono ?_
  rintro e w2 ⟨rfl, ht, ho⟩
  have T2 := Lib.hid (And.intro ht (T1.out.2.trans ho)); clear ht ho
  go_wp2_with fail
  refine (take_of B [] _ T2.out.1).mono ?_
  rintro e w3 ⟨rfl, ht, ho⟩
  have T3 := Lib.hid (And.intro ht (T2.out.2.trans ho)); clear ht ho
  go_wp2_with fail
  refine (take_of B [] _ T3.out.1).mono ?_
  rintro e w4 ⟨rfl, ht, ho⟩
  have T4 := Lib.hid (And.intro ht (T3.out.2.trans ho)); clear ht ho
  go_wp2
  go_ret
  exact ⟨by rw [HR.out]; rfl, by rw [HR.out]; exact T4.out.1, T4.out.2⟩
set_option maxHeartbeats 4000000 in
set_option maxRecDepth 100000 in
theorem chosen_two2 (was : Int) (B : Nat) (r g : Int) (w : World) (h : TakeAt w B [2, r, g]) : Calls Tryd.prog 26 #[.int .u8 was, takeV B] w fun e w' => e = .returned (.int .u8 (chosenP was [2, r, g]).1) ∧ TakeAt w' B (chosenP was [2, r, g]).2 ∧ Only B w w' := by
  have T0 := Lib.hid (And.intro h (Only.refl B w)); clear h
  obtain ⟨R, hR⟩ : ∃ R, chosenP was [2, r, g] = R := ⟨_, rfl⟩
  rw [hR]
  have HR := Lib.hid (show R = (was, []) by rw [← hR]; rfl); clear hR
  go_enter Tryd.func26, Tryd.ntmps26
  go_wp2_with fail
  refine (take_of B [2, r, g] _ T0.out.1).mono ?_
  rintro e w1 ⟨rfl, ht, ho⟩
  have T1 := Lib.hid (And.intro ht (T0.out.2.trans ho)); clear ht ho
  go_wp2_with fail
  refine (take_of B [r, g] _ T1.out.1).mono ?_
  rintro e w2 ⟨rfl, ht, ho⟩
  have T2 := Lib.hid (And.intro ht (T1.out.2.trans ho)); clear ht ho
  go_wp2_with fail
  refine (take_of B [g] _ T2.out.1).mono ?_
  rintro e w3 ⟨rfl, ht, ho⟩
  have T3 := Lib.hid (And.intro ht (T2.out.2.trans ho)); clear ht ho
  go_wp2_with fail
  refine (take_of B [] _ T3.out.1).mono ?_
  rintro e w4 ⟨rfl, ht, ho⟩
  have T4 := Lib.hid (And.intro ht (T3.out.2.trans ho)); clear ht ho
  go_wp2
  go_ret
  exact ⟨by rw [HR.out]; rfl, by rw [HR.out]; exact T4.out.1, T4.out.2⟩
set_option maxHeartbeats 4000000 in
set_option maxRecDepth 100000 in
theorem chosen_two3 (was : Int) (B : Nat) (r g b : Int) (t : List Int) (w : World) (h : TakeAt w B (2 :: r :: g :: b :: t)) : Calls Tryd.prog 26 #[.int .u8 was, takeV B] w fun e w' => e = .returned (.int .u8 (chosenP was (2 :: r :: g :: b :: t)).1) ∧ TakeAt w' B (chosenP was (2 :: r :: g :: b :: t)).2 ∧ Only B w w' := by
  have T0 := Lib.hid (And.intro h (Only.refl B w)); clear h
  obtain ⟨R, hR⟩ : ∃ R, chosenP was (2 :: r :: g :: b :: t) = R := ⟨_, rfl⟩
  rw [hR]
  have HR := Lib.hid (show R = (rgbP r g b, t) by rw [← hR]; rfl); clear hR
  go_enter Tryd.func26, Tryd.ntmps26
  go_wp2_with fail
  refine (take_of B (2 :: r :: g :: b :: t) _ T0.out.1).mono ?_
  rintro e w1 ⟨rfl, ht, ho⟩
  have T1 := Lib.hid (And.intro ht (T0.out.2.trans ho)); clear ht ho
  go_wp2_with fail
  refine (take_of B (r :: g :: b :: t) _ T1.out.1).mono ?_
  rintro e w2 ⟨rfl, ht, ho⟩
  have T2 := Lib.hid (And.intro ht (T1.out.2.trans ho)); clear ht ho
  go_wp2_with fail
  refine (take_of B (g :: b :: t) _ T2.out.1).mono ?_
  rintro e w3 ⟨rfl, ht, ho⟩
  have T3 := Lib.hid (And.intro ht (T2.out.2.trans ho)); clear ht ho
  go_wp2_with fail
  refine (take_of B (b :: t) _ T3.out.1).mono ?_
  rintro e w4 ⟨rfl, ht, ho⟩
  have T4 := Lib.hid (And.intro ht (T3.out.2.trans ho)); clear ht ho
  go_wp2_with fail
  refine (Colour_of r g b _).mono ?_
  rintro e w5 ⟨rfl, hx5⟩
  have T5 := Lib.hid (And.intro (T4.out.1.ext hx5) (T4.out.2.ext hx5)); clear hx5
  go_wp2
  go_ret
  exact ⟨by rw [HR.out]; rfl, by rw [HR.out]; exact T5.out.1, T5.out.2⟩
theorem chosen_of (was : Int) (B : Nat) (l : List Int) (w : World) (h : TakeAt w B l) : Calls Tryd.prog 26 #[.int .u8 was, takeV B] w fun e w' => e = .returned (.int .u8 (chosenP was l).1) ∧ TakeAt w' B (chosenP was l).2 ∧ Only B w w' := by
  match l, h with
  | [], h => exact chosen_nil was B w h
  | x :: t, h =>
    by_cases h5 : x = 5
    · subst h5
      match t, h with
      | [], h => exact chosen_five was B w h
      | n :: t, h =>
        by_cases hn : 0 ≤ n ∧ n ≤ 255
        · exact chosen_fiveN was B n t w h hn
        · exact chosen_fiveM was B n t w h hn
    · by_cases h2 : x = 2
      · subst h2
        match t, h with
        | [], h => exact chosen_two0 was B w h
        | [r], h => exact chosen_two1 was B r w h
        | [r, g], h => exact chosen_two2 was B r g w h
        | r :: g :: b :: t, h => exact chosen_two3 was B r g b t w h
      · exact chosen_other was B x t w h h5 h2
end Go.Proofs.YtgnknliaeoblhabDoor
