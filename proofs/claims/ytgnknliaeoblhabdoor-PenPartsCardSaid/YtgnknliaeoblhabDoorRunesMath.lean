/- Words of no program: bytes are decoded, characters encoded (chapter 4), as functions of lists. -/
import Derived.Laws.Cover4
import Derived.Test.YtgnknliaeoblhabDoorBts
namespace Go.Proofs.YtgnknliaeoblhabDoor
open Go Go.RowKit

/-- What a decoder keeps: how many bytes, how many are to come, from where to where the next one is, and what they have of the character. -/
structure DecSt where
  k : Nat
  l : Nat
  lo : Nat
  hi : Nat
  r : Nat
def DecSt.new : DecSt := ⟨0, 0, 0, 0, 0⟩
/-- A first byte: how many follow, and from where to where the next one is; none follow: it is no first one. -/
def lead (b : Nat) : Nat × Nat × Nat :=
  if 194 ≤ b ∧ b ≤ 223 then (1, 128, 191) else if b = 224 then (2, 160, 191) else if 225 ≤ b ∧ b ≤ 236 then (2, 128, 191) else if b = 237 then (2, 128, 159)
  else if 238 ≤ b ∧ b ≤ 239 then (2, 128, 191) else if b = 240 then (3, 144, 191) else if 241 ≤ b ∧ b ≤ 243 then (3, 128, 191) else if b = 244 then (3, 128, 143) else (0, 0, 0)
def DecSt.begun (b : Nat) : DecSt := ⟨1, (lead b).1, (lead b).2.1, (lead b).2.2, b % (128 / 2 ^ (lead b).1)⟩
/-- A byte behind nothing that is kept. -/
def fresh (b : Nat) : List Int × DecSt := if b < 128 then ([(b : Int)], .new) else if (lead b).1 = 0 then ([65533], .new) else ([], .begun b)
def DecSt.goes (s : DecSt) (b : Nat) : Prop := s.k ≠ 0 ∧ s.lo ≤ b ∧ b ≤ s.hi
instance (s : DecSt) (b : Nat) : Decidable (s.goes b) := inferInstanceAs (Decidable (_ ∧ _ ∧ _))
def DecSt.more (s : DecSt) (b : Nat) : DecSt := ⟨s.k + 1, s.l - 1, 128, 191, s.r * 64 + b % 64⟩
def DecSt.flush (s : DecSt) : List Int := if s.k = 0 then [] else [65533]
def DecSt.step (s : DecSt) (b : Nat) : List Int × DecSt :=
  if s.goes b then (if s.l = 1 then ([((s.more b).r : Int)], .new) else ([], s.more b)) else (s.flush ++ (fresh b).1, (fresh b).2)
def DecSt.run : DecSt → List UInt8 → List Int × DecSt
  | s, [] => ([], s)
  | s, b :: t => ((s.step b.toNat).1 ++ ((s.step b.toNat).2.run t).1, ((s.step b.toNat).2.run t).2)
def decL (x : List UInt8) : List Int := (DecSt.new.run x).1 ++ (DecSt.new.run x).2.flush

theorem run_append : ∀ (a : List UInt8) (s : DecSt) (b : List UInt8), s.run (a ++ b) = ((s.run a).1 ++ ((s.run a).2.run b).1, ((s.run a).2.run b).2)
  | [], s, b => by simp [DecSt.run]
  | x :: a, s, b => by
    simp only [List.cons_append, DecSt.run]
    rw [run_append a]
    simp [List.append_assoc]
theorem run_nil (s : DecSt) : s.run [] = ([], s) := rfl
theorem run_one (s : DecSt) (b : UInt8) : s.run [b] = s.step b.toNat := by simp [DecSt.run]
theorem run_take (s : DecSt) (x : List UInt8) (i : Nat) (b : UInt8) (h : x[i]? = some b) :
    s.run (x.take (i + 1)) = ((s.run (x.take i)).1 ++ ((s.run (x.take i)).2.step b.toNat).1, ((s.run (x.take i)).2.step b.toNat).2) := by
  rw [List.take_add_one, h, run_append]
  simp only [Option.toList_some, run_one]

/-- What is true of every state that a new one comes to. -/
def DecSt.ok (s : DecSt) : Prop := s = .new ∨ (1 ≤ s.k ∧ 1 ≤ s.l ∧ s.k + s.l ≤ 4 ∧ 128 ≤ s.lo ∧ s.hi ≤ 191 ∧ (s.k = 1 → s.r < 32) ∧ (s.k = 2 → s.r < 2048) ∧ (s.k = 3 → s.r < 131072))
theorem ok_new : DecSt.new.ok := Or.inl rfl
theorem lead_cases (b : Nat) : lead b = (0, 0, 0) ∨ (lead b).1 = 1 ∧ 128 ≤ (lead b).2.1 ∧ (lead b).2.2 ≤ 191 ∧ 194 ≤ b ∧ b ≤ 223 ∨ (lead b).1 = 2 ∧ 128 ≤ (lead b).2.1 ∧ (lead b).2.2 ≤ 191 ∧ 224 ≤ b ∧ b ≤ 239
    ∨ (lead b).1 = 3 ∧ 128 ≤ (lead b).2.1 ∧ (lead b).2.2 ≤ 191 ∧ 240 ≤ b ∧ b ≤ 244 := by
  unfold lead
  repeat' split
  all_goals first | (left; rfl) | (right; left; refine ⟨rfl, ?_, ?_, ?_, ?_⟩ <;> first | omega | simp) | (right; right; left; refine ⟨rfl, ?_, ?_, ?_, ?_⟩ <;> first | omega | simp) | (right; right; right; refine ⟨rfl, ?_, ?_, ?_, ?_⟩ <;> first | omega | simp)
theorem ok_begun (b : Nat) (h : (lead b).1 ≠ 0) : (DecSt.begun b).ok := by
  right
  unfold DecSt.begun
  rcases lead_cases b with h1 | ⟨h1, h2, h3, h4, h5⟩ | ⟨h1, h2, h3, h4, h5⟩ | ⟨h1, h2, h3, h4, h5⟩
  · rw [h1] at h; exact absurd rfl h
  all_goals
    simp only [h1]
    refine ⟨by omega, by omega, by omega, h2, h3, fun _ => by omega, fun e => by omega, fun e => by omega⟩
theorem ok_fresh (b : Nat) : (fresh b).2.ok := by
  unfold fresh
  split
  · exact ok_new
  · split
    · exact ok_new
    · rename_i h; exact ok_begun b h
theorem ok_more {s : DecSt} {b : Nat} (h : s.ok) (hg : s.goes b) (hl : s.l ≠ 1) : (s.more b).ok := by
  rcases h with rfl | ⟨h1, h2, h3, h4, h5, h6, h7, h8⟩
  · exact absurd rfl hg.1
  · right
    unfold DecSt.more
    refine ⟨by simp, by simp; omega, by simp; omega, by simp, by simp, fun e => by simp at e; omega, fun e => ?_, fun e => ?_⟩
    · have := h6 (by simp at e; omega)
      simp only; omega
    · have := h7 (by simp at e; omega)
      simp only; omega
theorem more_lt {s : DecSt} {b : Nat} (h : s.ok) : (s.more b).r < 8388608 := by
  unfold DecSt.more
  rcases h with rfl | ⟨h1, h2, h3, h4, h5, h6, h7, h8⟩
  · simp only [DecSt.new]; omega
  · simp only
    have : s.k = 1 ∨ s.k = 2 ∨ s.k = 3 := by omega
    rcases this with e | e | e
    · have := h6 e; omega
    · have := h7 e; omega
    · have := h8 e; omega
theorem ok_step {s : DecSt} (h : s.ok) (b : Nat) : (s.step b).2.ok := by
  unfold DecSt.step
  split
  · rename_i hg
    split
    · exact ok_new
    · rename_i hl; exact ok_more h hg hl
  · exact ok_fresh b
theorem ok_run : ∀ (x : List UInt8) {s : DecSt}, s.ok → (s.run x).2.ok
  | [], _, h => h
  | b :: t, s, h => by
    simp only [DecSt.run]
    exact ok_run t (ok_step h b.toNat)
theorem ok_k {s : DecSt} (h : s.ok) : s.k ≤ 3 := by
  rcases h with rfl | ⟨h1, h2, h3, _⟩
  · exact Nat.zero_le 3
  · omega
theorem begun_k (b : Nat) : (DecSt.begun b).k = 1 := rfl
/-- No more characters than bytes. -/
theorem len_fresh (b : Nat) : (fresh b).1.length + (fresh b).2.k = 1 := by
  unfold fresh
  split
  · rfl
  · split <;> rfl
theorem len_step (s : DecSt) (b : Nat) : (s.step b).1.length + (s.step b).2.k ≤ s.k + 1 := by
  unfold DecSt.step
  split
  · split
    · simp [DecSt.new]
    · simp [DecSt.more]
  · have := len_fresh b
    unfold DecSt.flush
    split
    · simp; omega
    · simp; omega
theorem len_run : ∀ (x : List UInt8) (s : DecSt), (s.run x).1.length + (s.run x).2.k ≤ s.k + x.length
  | [], s => by simp [DecSt.run]
  | b :: t, s => by
    simp only [DecSt.run, List.length_append, List.length_cons]
    have h1 := len_step s b.toNat
    have h2 := len_run t (s.step b.toNat).2
    omega
theorem len_flush (s : DecSt) : s.flush.length ≤ s.k ∧ s.flush.length ≤ 1 := by
  unfold DecSt.flush
  split
  · simp
  · simp; omega
theorem len_decL (x : List UInt8) : (decL x).length ≤ x.length := by
  unfold decL
  have h1 := len_run x .new
  have h2 := len_flush (DecSt.new.run x).2
  rw [List.length_append]
  simp only [DecSt.new] at h1 h2 ⊢
  omega

/-- A character of int32. -/
def isI32 (n : Int) : Prop := -2147483648 ≤ n ∧ n ≤ 2147483647
/-- A character that has a sequence. -/
def isRune (n : Int) : Prop := (0 ≤ n ∧ n < 55296) ∨ (57344 ≤ n ∧ n ≤ 1114111)
instance (n : Int) : Decidable (isRune n) := inferInstanceAs (Decidable (_ ∨ _))
def fixR (n : Int) : Int := if isRune n then n else 65533
def encR (n : Int) : List UInt8 := bts (Utf8.encode n)
def encL (zs : List Int) : List UInt8 := (zs.map encR).flatten
theorem encL_nil : encL [] = [] := rfl
theorem encL_cons (n : Int) (zs : List Int) : encL (n :: zs) = encR n ++ encL zs := by simp [encL]
theorem encL_append (a b : List Int) : encL (a ++ b) = encL a ++ encL b := by simp [encL]
theorem encL_take (zs : List Int) (i : Nat) (n : Int) (h : zs[i]? = some n) : encL (zs.take (i + 1)) = encL (zs.take i) ++ encR n := by
  rw [List.take_add_one, h, encL_append]; simp [encL]
theorem valid_iff (n : Int) : Utf8.valid n = true ↔ isRune n := by
  unfold Utf8.valid isRune
  simp
/-- The number that is put for a character. -/
def numR (n : Int) : Nat := (fixR n).toNat
theorem numR_lt (n : Int) : numR n ≤ 1114111 ∧ (numR n < 55296 ∨ 57344 ≤ numR n) ∧ fixR n = (numR n : Int) := by
  unfold numR fixR
  split
  · rename_i h; unfold isRune at h; omega
  · omega
theorem encR_of (n : Int) : encR n =
    if numR n < 128 then [UInt8.ofNat (numR n)]
    else if numR n < 2048 then [UInt8.ofNat (192 + numR n / 64), UInt8.ofNat (128 + numR n % 64)]
    else if numR n < 65536 then [UInt8.ofNat (224 + numR n / 4096), UInt8.ofNat (128 + numR n / 64 % 64), UInt8.ofNat (128 + numR n % 64)]
    else [UInt8.ofNat (240 + numR n / 262144), UInt8.ofNat (128 + numR n / 4096 % 64), UInt8.ofNat (128 + numR n / 64 % 64), UInt8.ofNat (128 + numR n % 64)] := by
  have e : (if Utf8.valid n = true then n.toNat else Utf8.runeError) = numR n := by
    unfold numR fixR Utf8.runeError
    by_cases h : isRune n
    · rw [if_pos h, if_pos ((valid_iff n).2 h)]
    · rw [if_neg h, if_neg (fun hv => h ((valid_iff n).1 hv))]; rfl
  unfold encR Utf8.encode
  simp only [e]
  repeat' split
  all_goals rfl
theorem encR_len (n : Int) : (encR n).length ≤ 4 ∧ 1 ≤ (encR n).length := by
  rw [encR_of]
  repeat' split
  all_goals simp
theorem encL_len : ∀ (zs : List Int), (encL zs).length ≤ 4 * zs.length
  | [] => by simp [encL_nil]
  | n :: zs => by
    rw [encL_cons, List.length_append, List.length_cons]
    have h1 := encR_len n
    have h2 := encL_len zs
    omega
theorem toNat8 {n : Nat} (h : n < 256) : (UInt8.ofNat n).toNat = n := by
  rw [UInt8.toNat_ofNat']; omega
theorem new_goes (b : Nat) : ¬ DecSt.new.goes b := fun h => h.1 rfl
theorem new_step (b : Nat) : DecSt.new.step b = fresh b := by
  unfold DecSt.step
  rw [if_neg (new_goes b)]
  simp [DecSt.flush, DecSt.new]
theorem step_more {s : DecSt} {b : Nat} (h1 : s.k ≠ 0) (h2 : s.lo ≤ b) (h3 : b ≤ s.hi) (hl : s.l ≠ 1) : s.step b = ([], s.more b) := by
  unfold DecSt.step
  rw [if_pos ⟨h1, h2, h3⟩, if_neg hl]
theorem step_last {s : DecSt} {b : Nat} (h1 : s.k ≠ 0) (h2 : s.lo ≤ b) (h3 : b ≤ s.hi) (hl : s.l = 1) : s.step b = ([((s.r * 64 + b % 64 : Nat) : Int)], .new) := by
  unfold DecSt.step
  rw [if_pos ⟨h1, h2, h3⟩, if_pos hl]
  rfl
theorem fresh_lead {b : Nat} (h : (lead b).1 ≠ 0) : fresh b = ([], .begun b) := by
  unfold fresh
  have h1 : ¬ b < 128 := by
    intro hb
    apply h
    unfold lead
    repeat' split
    all_goals first | omega | rfl
  rw [if_neg h1, if_neg h]
theorem lead1 {b : Nat} (h : 194 ≤ b ∧ b ≤ 223) : lead b = (1, 128, 191) := by unfold lead; rw [if_pos h]
/-- Of a first byte with two behind it: what the next one may be. -/
theorem lead2 {b : Nat} (h : 224 ≤ b ∧ b ≤ 239) : lead b = (2, if b = 224 then 160 else 128, if b = 237 then 159 else 191) := by
  unfold lead
  repeat' split
  all_goals first | omega | rfl
theorem lead3 {b : Nat} (h : 240 ≤ b ∧ b ≤ 244) : lead b = (3, if b = 240 then 144 else 128, if b = 244 then 143 else 191) := by
  unfold lead
  repeat' split
  all_goals first | omega | rfl
/-- What was encoded is decoded. -/
theorem run_encR (n : Int) (t : List UInt8) : DecSt.new.run (encR n ++ t) = (fixR n :: (DecSt.new.run t).1, (DecSt.new.run t).2) := by
  obtain ⟨h1, h2, h3⟩ := numR_lt n
  rw [encR_of, h3]
  generalize numR n = m at h1 h2
  by_cases a1 : m < 128
  · rw [if_pos a1]
    simp only [List.cons_append, List.nil_append, DecSt.run, new_step, toNat8 (show m < 256 by omega)]
    unfold fresh
    simp [a1]
  · rw [if_neg a1]
    by_cases a2 : m < 2048
    · rw [if_pos a2]
      have e1 : (UInt8.ofNat (192 + m / 64)).toNat = 192 + m / 64 := toNat8 (by omega)
      have e2 : (UInt8.ofNat (128 + m % 64)).toNat = 128 + m % 64 := toNat8 (by omega)
      have hl : lead (192 + m / 64) = (1, 128, 191) := lead1 (by omega)
      simp only [List.cons_append, List.nil_append, DecSt.run, new_step, e1, e2]
      rw [fresh_lead (by rw [hl]; simp)]
      simp only [DecSt.begun, hl]
      rw [step_last (by simp) (by simp) (by simp only; omega) rfl]
      simp only [List.nil_append, List.cons_append]
      congr 2
      try simp only
      omega
    · rw [if_neg a2]
      by_cases a3 : m < 65536
      · rw [if_pos a3]
        have e1 : (UInt8.ofNat (224 + m / 4096)).toNat = 224 + m / 4096 := toNat8 (by omega)
        have e2 : (UInt8.ofNat (128 + m / 64 % 64)).toNat = 128 + m / 64 % 64 := toNat8 (by omega)
        have e3 : (UInt8.ofNat (128 + m % 64)).toNat = 128 + m % 64 := toNat8 (by omega)
        have hl := lead2 (b := 224 + m / 4096) (by omega)
        simp only [List.cons_append, List.nil_append, DecSt.run, new_step, e1, e2, e3]
        rw [fresh_lead (by rw [hl]; simp)]
        simp only [DecSt.begun, hl]
        rw [step_more (by simp) (by simp only; split <;> omega) (by simp only; split <;> omega) (by simp)]
        simp only [DecSt.more]
        rw [step_last (by simp) (by simp) (by simp only; omega) rfl]
        simp only [List.nil_append, List.cons_append]
        congr 2
        try simp only
        omega
      · rw [if_neg a3]
        have e1 : (UInt8.ofNat (240 + m / 262144)).toNat = 240 + m / 262144 := toNat8 (by omega)
        have e2 : (UInt8.ofNat (128 + m / 4096 % 64)).toNat = 128 + m / 4096 % 64 := toNat8 (by omega)
        have e3 : (UInt8.ofNat (128 + m / 64 % 64)).toNat = 128 + m / 64 % 64 := toNat8 (by omega)
        have e4 : (UInt8.ofNat (128 + m % 64)).toNat = 128 + m % 64 := toNat8 (by omega)
        have hl := lead3 (b := 240 + m / 262144) (by omega)
        simp only [List.cons_append, List.nil_append, DecSt.run, new_step, e1, e2, e3, e4]
        rw [fresh_lead (by rw [hl]; simp)]
        simp only [DecSt.begun, hl]
        rw [step_more (by simp) (by simp only; split <;> omega) (by simp only; split <;> omega) (by simp)]
        simp only [DecSt.more]
        rw [step_more (by simp) (by simp) (by simp only; omega) (by simp)]
        simp only [DecSt.more]
        rw [step_last (by simp) (by simp) (by simp only; omega) rfl]
        simp only [List.nil_append, List.cons_append]
        congr 2
        try simp only
        omega
theorem run_encL : ∀ (zs : List Int), DecSt.new.run (encL zs) = (zs.map fixR, .new)
  | [] => rfl
  | n :: zs => by rw [encL_cons, run_encR, run_encL zs]; rfl
theorem decL_encL (zs : List Int) : decL (encL zs) = zs.map fixR := by
  unfold decL
  rw [run_encL]
  simp [DecSt.flush, DecSt.new]
/-- What is told has a sequence. -/
theorem isRune_fffd : isRune 65533 := by unfold isRune; omega
theorem isRune_fix (n : Int) : isRune (fixR n) := by
  unfold fixR
  split
  · assumption
  · exact isRune_fffd
theorem fix_rune {n : Int} (h : isRune n) : fixR n = n := by unfold fixR; rw [if_pos h]
end Go.Proofs.YtgnknliaeoblhabDoor
