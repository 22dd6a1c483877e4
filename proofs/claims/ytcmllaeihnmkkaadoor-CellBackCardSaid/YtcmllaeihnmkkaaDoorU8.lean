/- Words of no program: bytes are decoded, characters encoded (chapter 4), as functions of lists. · How wide a character is: runes.Width; the document's lyceumref04.Width. · The document's width of a character: lyceumref04.none, within, Width. -/
import Derived.Test.YtcmllaeihnmkkaaDoorU3
import Derived.Test.YtcmllaeihnmkkaaDoorU7
import Derived.Laws.Cover4
import Derived.Test.YtcmllaeihnmkkaaDoorProg
import Derived.WalkLawsBesides
import Derived.IntWalk
import Derived.KernelRfl
import Derived.Deep.LoopGhost
import Derived.Laws.BitsAll
import Derived.Laws.BitsAllLaws
namespace Go.Proofs.YtcmllaeihnmkkaaDoor
open Go Go.RowKit

/-- What a decoder keeps: how many bytes, how many are to come, from where to where the next one is, and what they have of the character. -/
structure DecSt where
  k : Nat
  l : Nat
  lo : Nat
  hi : Nat
  r : Nat
def DecSt.new : DecSt := ⟨0, 0, 0, 0, 0⟩
/-- A first byte: how many follow, and from where to where the next one is; none follow: it is no first one. -/
def lead (b : Nat) : Nat × Nat × Nat :=
  if 194 ≤ b ∧ b ≤ 223 then (1, 128, 191) else if b = 224 then (2, 160, 191) else if 225 ≤ b ∧ b ≤ 236 then (2, 128, 191) else if b = 237 then (2, 128, 159)
  else if 238 ≤ b ∧ b ≤ 239 then (2, 128, 191) else if b = 240 then (3, 144, 191) else if 241 ≤ b ∧ b ≤ 243 then (3, 128, 191) else if b = 244 then (3, 128, 143) else (0, 0, 0)
def DecSt.begun (b : Nat) : DecSt := ⟨1, (lead b).1, (lead b).2.1, (lead b).2.2, b % (128 / 2 ^ (lead b).1)⟩
/-- A byte behind nothing that is kept. -/
def fresh (b : Nat) : List Int × DecSt := if b < 128 then ([(b : Int)], .new) else if (lead b).1 = 0 then ([65533], .new) else ([], .begun b)
def DecSt.goes (s : DecSt) (b : Nat) : Prop := s.k ≠ 0 ∧ s.lo ≤ b ∧ b ≤ s.hi
instance (s : DecSt) (b : Nat) : Decidable (s.goes b) := inferInstanceAs (Decidable (_ ∧ _ ∧ _))
def DecSt.more (s : DecSt) (b : Nat) : DecSt := ⟨s.k + 1, s.l - 1, 128, 191, s.r * 64 + b % 64⟩
def DecSt.flush (s : DecSt) : List Int := if s.k = 0 then [] else [65533]
def DecSt.step (s : DecSt) (b : Nat) : List Int × DecSt :=
  if s.goes b then (if s.l = 1 then ([((s.more b).r : Int)], .new) else ([], s.more b)) else (s.flush ++ (fresh b).1, (fresh b).2)
def DecSt.run : DecSt → List UInt8 → List Int × DecSt
  | s, [] => ([], s)
  | s, b :: t => ((s.step b.toNat).1 ++ ((s.step b.toNat).2.run t).1, ((s.step b.toNat).2.run t).2)
def decL (x : List UInt8) : List Int := (DecSt.new.run x).1 ++ (DecSt.new.run x).2.flush

theorem run_append : ∀ (a : List UInt8) (s : DecSt) (b : List UInt8), s.run (a ++ b) = ((s.run a).1 ++ ((s.run a).2.run b).1, ((s.run a).2.run b).2)
  | [], s, b => by simp [DecSt.run]
  | x :: a, s, b => by
    simp only [List.cons_append, DecSt.run]
    rw [run_append a]
    simp [List.append_assoc]
theorem run_nil (s : DecSt) : s.run [] = ([], s) := rfl
theorem run_one (s : DecSt) (b : UInt8) : s.run [b] = s.step b.toNat := by simp [DecSt.run]
theorem run_take (s : DecSt) (x : List UInt8) (i : Nat) (b : UInt8) (h : x[i]? = some b) :
    s.run (x.take (i + 1)) = ((s.run (x.take i)).1 ++ ((s.run (x.take i)).2.step b.toNat).1, ((s.run (x.take i)).2.step b.toNat).2) := by
  rw [List.take_add_one, h, run_append]
  simp only [Option.toList_some, run_one]

/-- What is true of every state that a new one comes to. -/
def DecSt.ok (s : DecSt) : Prop := s = .new ∨ (1 ≤ s.k ∧ 1 ≤ s.l ∧ s.k + s.l ≤ 4 ∧ 128 ≤ s.lo ∧ s.hi ≤ 191 ∧ (s.k = 1 → s.r < 32) ∧ (s.k = 2 → s.r < 2048) ∧ (s.k = 3 → s.r < 131072))
theorem ok_new : DecSt.new.ok := Or.inl rfl
theorem lead_cases (b : Nat) : lead b = (0, 0, 0) ∨ (lead b).1 = 1 ∧ 128 ≤ (lead b).2.1 ∧ (lead b).2.2 ≤ 191 ∧ 194 ≤ b ∧ b ≤ 223 ∨ (lead b).1 = 2 ∧ 128 ≤ (lead b).2.1 ∧ (lead b).2.2 ≤ 191 ∧ 224 ≤ b ∧ b ≤ 239
    ∨ (lead b).1 = 3 ∧ 128 ≤ (lead b).2.1 ∧ (lead b).2.2 ≤ 191 ∧ 240 ≤ b ∧ b ≤ 244 := by
  unfold lead
  repeat' split
  all_goals first | (left; rfl) | (right; left; refine ⟨rfl, ?_, ?_, ?_, ?_⟩ <;> first | omega | simp) | (right; right; left; refine ⟨rfl, ?_, ?_, ?_, ?_⟩ <;> first | omega | simp) | (right; right; right; refine ⟨rfl, ?_, ?_, ?_, ?_⟩ <;> first | omega | simp)
theorem ok_begun (b : Nat) (h : (lead b).1 ≠ 0) : (DecSt.begun b).ok := by
  right
  unfold DecSt.begun
  rcases lead_cases b with h1 | ⟨h1, h2, h3, h4, h5⟩ | ⟨h1, h2, h3, h4, h5⟩ | ⟨h1, h2, h3, h4, h5⟩
  · rw [h1] at h; exact absurd rfl h
  all_goals
    simp only [h1]
    refine ⟨by omega, by omega, by omega, h2, h3, fun _ => by omega, fun e => by omega, fun e => by omega⟩
theorem ok_fresh (b : Nat) : (fresh b).2.ok := by
  unfold fresh
  split
  · exact ok_new
  · split
    · exact ok_new
    · rename_i h; exact ok_begun b h
theorem ok_more {s : DecSt} {b : Nat} (h : s.ok) (hg : s.goes b) (hl : s.l ≠ 1) : (s.more b).ok := by
  rcases h with rfl | ⟨h1, h2, h3, h4, h5, h6, h7, h8⟩
  · exact absurd rfl hg.1
  · right
    unfold DecSt.more
    refine ⟨by simp, by simp; omega, by simp; omega, by simp, by simp, fun e => by simp at e; omega, fun e => ?_, fun e => ?_⟩
    · have := h6 (by simp at e; omega)
      simp only; omega
    · have := h7 (by simp at e; omega)
      simp only; omega
theorem more_lt {s : DecSt} {b : Nat} (h : s.ok) : (s.more b).r < 8388608 := by
  unfold DecSt.more
  rcases h with rfl | ⟨h1, h2, h3, h4, h5, h6, h7, h8⟩
  · simp only [DecSt.new]; omega
  · simp only
    have : s.k = 1 ∨ s.k = 2 ∨ s.k = 3 := by omega
    rcases this with e | e | e
    · have := h6 e; omega
    · have := h7 e; omega
    · have := h8 e; omega
theorem ok_step {s : DecSt} (h : s.ok) (b : Nat) : (s.step b).2.ok := by
  unfold DecSt.step
  split
  · rename_i hg
    split
    · exact ok_new
    · rename_i hl; exact ok_more h hg hl
  · exact ok_fresh b
theorem ok_run : ∀ (x : List UInt8) {s : DecSt}, s.ok → (s.run x).2.ok
  | [], _, h => h
  | b :: t, s, h => by
    simp only [DecSt.run]
    exact ok_run t (ok_step h b.toNat)
theorem ok_k {s : DecSt} (h : s.ok) : s.k ≤ 3 := by
  rcases h with rfl | ⟨h1, h2, h3, _⟩
  · exact Nat.zero_le 3
  · omega
theorem begun_k (b : Nat) : (DecSt.begun b).k = 1 := rfl
/-- No more characters than bytes. -/
theorem len_fresh (b : Nat) : (fresh b).1.length + (fresh b).2.k = 1 := by
  unfold fresh
  split
  · rfl
  · split <;> rfl
theorem len_step (s : DecSt) (b : Nat) : (s.step b).1.length + (s.step b).2.k ≤ s.k + 1 := by
  unfold DecSt.step
  split
  · split
    · simp [DecSt.new]
    · simp [DecSt.more]
  · have := len_fresh b
    unfold DecSt.flush
    split
    · simp; omega
    · simp; omega
theorem len_run : ∀ (x : List UInt8) (s : DecSt), (s.run x).1.length + (s.run x).2.k ≤ s.k + x.length
  | [], s => by simp [DecSt.run]
  | b :: t, s => by
    simp only [DecSt.run, List.length_append, List.length_cons]
    have h1 := len_step s b.toNat
    have h2 := len_run t (s.step b.toNat).2
    omega
theorem len_flush (s : DecSt) : s.flush.length ≤ s.k ∧ s.flush.length ≤ 1 := by
  unfold DecSt.flush
  split
  · simp
  · simp; omega
theorem len_decL (x : List UInt8) : (decL x).length ≤ x.length := by
  unfold decL
  have h1 := len_run x .new
  have h2 := len_flush (DecSt.new.run x).2
  rw [List.length_append]
  simp only [DecSt.new] at h1 h2 ⊢
  omega

/-- A character of int32. -/
def isI32 (n : Int) : Prop := -2147483648 ≤ n ∧ n ≤ 2147483647
/-- A character that has a sequence. -/
def isRune (n : Int) : Prop := (0 ≤ n ∧ n < 55296) ∨ (57344 ≤ n ∧ n ≤ 1114111)
instance (n : Int) : Decidable (isRune n) := inferInstanceAs (Decidable (_ ∨ _))
def fixR (n : Int) : Int := if isRune n then n else 65533
def encR (n : Int) : List UInt8 := bts (Utf8.encode n)
def encL (zs : List Int) : List UInt8 := (zs.map encR).flatten
theorem encL_nil : encL [] = [] := rfl
theorem encL_cons (n : Int) (zs : List Int) : encL (n :: zs) = encR n ++ encL zs := by simp [encL]
theorem encL_append (a b : List Int) : encL (a ++ b) = encL a ++ encL b := by simp [encL]
theorem encL_take (zs : List Int) (i : Nat) (n : Int) (h : zs[i]? = some n) : encL (zs.take (i + 1)) = encL (zs.take i) ++ encR n := by
  rw [List.take_add_one, h, encL_append]; simp [encL]
theorem valid_iff (n : Int) : Utf8.valid n = true ↔ isRune n := by
  unfold Utf8.valid isRune
  simp
/-- The number that is put for a character. -/
def numR (n : Int) : Nat := (fixR n).toNat
theorem numR_lt (n : Int) : numR n ≤ 1114111 ∧ (numR n < 55296 ∨ 57344 ≤ numR n) ∧ fixR n = (numR n : Int) := by
  unfold numR fixR
  split
  · rename_i h; unfold isRune at h; omega
  · omega
theorem encR_of (n : Int) : encR n =
    if numR n < 128 then [UInt8.ofNat (numR n)]
    else if numR n < 2048 then [UInt8.ofNat (192 + numR n / 64), UInt8.ofNat (128 + numR n % 64)]
    else if numR n < 65536 then [UInt8.ofNat (224 + numR n / 4096), UInt8.ofNat (128 + numR n / 64 % 64), UInt8.ofNat (128 + numR n % 64)]
    else [UInt8.ofNat (240 + numR n / 262144), UInt8.ofNat (128 + numR n / 4096 % 64), UInt8.ofNat (128 + numR n / 64 % 64), UInt8.ofNat (128 + numR n % 64)] := by
  have e : (if Utf8.valid n = true then n.toNat else Utf8.runeError) = numR n := by
    unfold numR fixR Utf8.runeError
    by_cases h : isRune n
    · rw [if_pos h, if_pos ((valid_iff n).2 h)]
    · rw [if_neg h, if_neg (fun hv => h ((valid_iff n).1 hv))]; rfl
  unfold encR Utf8.encode
  simp only [e]
  repeat' split
  all_goals rfl
theorem encR_len (n : Int) : (encR n).length ≤ 4 ∧ 1 ≤ (encR n).length := by
  rw [encR_of]
  repeat' split
  all_goals simp
theorem encL_len : ∀ (zs : List Int), (encL zs).length ≤ 4 * zs.length
  | [] => by simp [encL_nil]
  | n :: zs => by
    rw [encL_cons, List.length_append, List.length_cons]
    have h1 := encR_len n
    have h2 := encL_len zs
    omega
theorem toNat8 {n : Nat} (h : n < 256) : (UInt8.ofNat n).toNat = n := by
  rw [UInt8.toNat_ofNat']; omega
theorem new_goes (b : Nat) : ¬ DecSt.new.goes b := fun h => h.1 rfl
theorem new_step (b : Nat) : DecSt.new.step b = fresh b := by
  unfold DecSt.step
  rw [if_neg (new_goes b)]
  simp [DecSt.flush, DecSt.new]
theorem step_more {s : DecSt} {b : Nat} (h1 : s.k ≠ 0) (h2 : s.lo ≤ b) (h3 : b ≤ s.hi) (hl : s.l ≠ 1) : s.step b = ([], s.more b) := by
  unfold DecSt.step
  rw [if_pos ⟨h1, h2, h3⟩, if_neg hl]
theorem step_last {s : DecSt} {b : Nat} (h1 : s.k ≠ 0) (h2 : s.lo ≤ b) (h3 : b ≤ s.hi) (hl : s.l = 1) : s.step b = ([((s.r * 64 + b % 64 : Nat) : Int)], .new) := by
  unfold DecSt.step
  rw [if_pos ⟨h1, h2, h3⟩, if_pos hl]
  rfl
theorem fresh_lead {b : Nat} (h : (lead b).1 ≠ 0) : fresh b = ([], .begun b) := by
  unfold fresh
  have h1 : ¬ b < 128 := by
    intro hb
    apply h
    unfold lead
    repeat' split
    all_goals first | omega | rfl
  rw [if_neg h1, if_neg h]
theorem lead1 {b : Nat} (h : 194 ≤ b ∧ b ≤ 223) : lead b = (1, 128, 191) := by unfold lead; rw [if_pos h]
/-- Of a first byte with two behind it: what the next one may be. -/
theorem lead2 {b : Nat} (h : 224 ≤ b ∧ b ≤ 239) : lead b = (2, if b = 224 then 160 else 128, if b = 237 then 159 else 191) := by
  unfold lead
  repeat' split
  all_goals first | omega | rfl
theorem lead3 {b : Nat} (h : 240 ≤ b ∧ b ≤ 244) : lead b = (3, if b = 240 then 144 else 128, if b = 244 then 143 else 191) := by
  unfold lead
  repeat' split
  all_goals first | omega | rfl
/-- What was encoded is decoded. -/
theorem run_encR (n : Int) (t : List UInt8) : DecSt.new.run (encR n ++ t) = (fixR n :: (DecSt.new.run t).1, (DecSt.new.run t).2) := by
  obtain ⟨h1, h2, h3⟩ := numR_lt n
  rw [encR_of, h3]
  generalize numR n = m at h1 h2
  by_cases a1 : m < 128
  · rw [if_pos a1]
    simp only [List.cons_append, List.nil_append, DecSt.run, new_step, toNat8 (show m < 256 by omega)]
    unfold fresh
    simp [a1]
  · rw [if_neg a1]
    by_cases a2 : m < 2048
    · rw [if_pos a2]
      have e1 : (UInt8.ofNat (192 + m / 64)).toNat = 192 + m / 64 := toNat8 (by omega)
      have e2 : (UInt8.ofNat (128 + m % 64)).toNat = 128 + m % 64 := toNat8 (by omega)
      have hl : lead (192 + m / 64) = (1, 128, 191) := lead1 (by omega)
      simp only [List.cons_append, List.nil_append, DecSt.run, new_step, e1, e2]
      rw [fresh_lead (by rw [hl]; simp)]
      simp only [DecSt.begun, hl]
      rw [step_last (by simp) (by simp) (by simp only; omega) rfl]
      simp only [List.nil_append, List.cons_append]
      congr 2
      try simp only
      omega
    · rw [if_neg a2]
      by_cases a3 : m < 65536
      · rw [if_pos a3]
        have e1 : (UInt8.ofNat (224 + m / 4096)).toNat = 224 + m / 4096 := toNat8 (by omega)
        have e2 : (UInt8.ofNat (128 + m / 64 % 64)).toNat = 128 + m / 64 % 64 := toNat8 (by omega)
        have e3 : (UInt8.ofNat (128 + m % 64)).toNat = 128 + m % 64 := toNat8 (by omega)
        have hl := lead2 (b := 224 + m / 4096) (by omega)
        simp only [List.cons_append, List.nil_append, DecSt.run, new_step, e1, e2, e3]
        rw [fresh_lead (by rw [hl]; simp)]
        simp only [DecSt.begun, hl]
        rw [step_more (by simp) (by simp only; split <;> omega) (by simp only; split <;> omega) (by simp)]
        simp only [DecSt.more]
        rw [step_last (by simp) (by simp) (by simp only; omega) rfl]
        simp only [List.nil_append, List.cons_append]
        congr 2
        try simp only
        omega
      · rw [if_neg a3]
        have e1 : (UInt8.ofNat (240 + m / 262144)).toNat = 240 + m / 262144 := toNat8 (by omega)
        have e2 : (UInt8.ofNat (128 + m / 4096 % 64)).toNat = 128 + m / 4096 % 64 := toNat8 (by omega)
        have e3 : (UInt8.ofNat (128 + m / 64 % 64)).toNat = 128 + m / 64 % 64 := toNat8 (by omega)
        have e4 : (UInt8.ofNat (128 + m % 64)).toNat = 128 + m % 64 := toNat8 (by omega)
        have hl := lead3 (b := 240 + m / 262144) (by omega)
        simp only [List.cons_append, List.nil_append, DecSt.run, new_step, e1, e2, e3, e4]
        rw [fresh_lead (by rw [hl]; simp)]
        simp only [DecSt.begun, hl]
        rw [step_more (by simp) (by simp only; split <;> omega) (by simp only; split <;> omega) (by simp)]
        simp only [DecSt.more]
        rw [step_more (by simp) (by simp) (by simp only; omega) (by simp)]
        simp only [DecSt.more]
        rw [step_last (by simp) (by simp) (by simp only; omega) rfl]
        simp only [List.nil_append, List.cons_append]
        congr 2
        try simp only
        omega
theorem run_encL : ∀ (zs : List Int), DecSt.new.run (encL zs) = (zs.map fixR, .new)
  | [] => rfl
  | n :: zs => by rw [encL_cons, run_encR, run_encL zs]; rfl
theorem decL_encL (zs : List Int) : decL (encL zs) = zs.map fixR := by
  unfold decL
  rw [run_encL]
  simp [DecSt.flush, DecSt.new]
/-- What is told has a sequence. -/
theorem isRune_fffd : isRune 65533 := by unfold isRune; omega
theorem isRune_fix (n : Int) : isRune (fixR n) := by
  unfold fixR
  split
  · assumption
  · exact isRune_fffd
theorem fix_rune {n : Int} (h : isRune n) : fixR n = n := by unfold fixR; rw [if_pos h]
end Go.Proofs.YtcmllaeihnmkkaaDoor
namespace Go.Proofs.YtcmllaeihnmkkaaDoor
open Go Go.RowKit

def spA (i : Nat) : Int := (spansTab.getD i []).getD 0 0
def spB (i : Nat) : Int := (spansTab.getD i []).getD 1 0
def spC (i : Nat) : Int := (spansTab.getD i []).getD 2 0
/-- The width that the rows from the i-th one on say. -/
def widthFrom : Nat → Nat → Int → Int
  | 0, _, _ => 1
  | n + 1, i, r => if r < spA i then 1 else if r ≤ spB i then spC i else widthFrom n (i + 1) r
def widthL (r : Int) : Int := widthFrom 18 0 r
noncomputable def spansArr : Array Value := spansCells.toArray
theorem infoSpans : (Tryd.prog.info? 170).map (·.size) = some spansCells.length := by kernel_rfl
theorem load_spans {w : World} (h : Spans w) : (Instr.loadAt 170 (.pointer (some ⟨1, 0, none⟩))).run Tryd.prog w = .ok (.agg spansArr) w :=
  run_loadAt_mid w _ 0 _ spansCells _ h Tryd.underlying170 rfl infoSpans
theorem index_spans (i : Nat) (hi : i < 18) (w : World) : (Instr.index 170 (.agg spansArr) (.int .i64 i)).run Tryd.prog w = .ok (.agg #[.int .i32 (spA i), .int .i32 (spB i), .int .i64 (spC i)]) w := by
  have h : i = 0 ∨ i = 1 ∨ i = 2 ∨ i = 3 ∨ i = 4 ∨ i = 5 ∨ i = 6 ∨ i = 7 ∨ i = 8 ∨ i = 9 ∨ i = 10 ∨ i = 11 ∨ i = 12 ∨ i = 13 ∨ i = 14 ∨ i = 15 ∨ i = 16 ∨ i = 17 := by omega
  rcases h with rfl | rfl | rfl | rfl | rfl | rfl | rfl | rfl | rfl | rfl | rfl | rfl | rfl | rfl | rfl | rfl | rfl | rfl <;> (show _ = _; kernel_rfl)
set_option maxHeartbeats 2000000 in
set_option maxRecDepth 100000 in
theorem Width_any (r : Int) (w : World) (hs : Spans w) : Calls Tryd.prog 111 #[.int .i32 r] w fun e w' => e = .returned (.int .i64 (widthL r)) ∧ Ext w w' := by
  go_enter Tryd.func111, Tryd.ntmps111
  go_wp2_with (refine wpList_load_mid rfl 170 (.global 1) rfl 1 0 rfl spansCells _ hs Tryd.underlying170 rfl infoSpans ?_; rw [show spansCells.toArray = spansArr from rfl])
  generalize hS : spansArr = S
  have HS := Lib.hid hS; clear hS hs
  go_loopg [6] 18 (fun k i wr => ∃ m : Nat, i = .int .i64 m ∧ Hid (m + k = 18 ∧ widthFrom k m r = widthL r ∧ Ext w wr))
  case atStart => exact ⟨0, rfl, rfl, rfl, Ext.refl w⟩
  case round =>
    obtain ⟨m, rfl, hinv⟩ := hrel
    by_cases hm : m < 18
    · have hix := fun W => HS.out ▸ index_spans m hm W
      obtain ⟨k, rfl⟩ : ∃ k, gk = k + 1 := ⟨gk - 1, by have := hinv.out.1; omega⟩
      have hw := hinv.out.2.1
      simp only [widthFrom] at hw
      have HW := Lib.hid hw; clear hw
      generalize spA m = a at hix HW
      generalize spB m = b at hix HW
      generalize spC m = c at hix HW
      by_cases h1 : r < a
      · have e1 : widthL r = 1 := by rw [← HW.out, if_pos h1]
        have E1 := Lib.hid e1; clear e1
        go_wp2
        go_ret
        exact ⟨by rw [E1.out]; rfl, hinv.out.2.2.alloc _⟩
      · by_cases h2 : r ≤ b
        · have e1 : widthL r = c := by rw [← HW.out, if_neg h1, if_pos h2]
          have E1 := Lib.hid e1; clear e1
          go_wp2
          go_ret
          exact ⟨by rw [E1.out]; rfl, hinv.out.2.2.alloc _⟩
        · have e1 : widthFrom k (m + 1) r = widthL r := by rw [← HW.out, if_neg h1, if_neg h2]
          have E1 := Lib.hid e1; clear e1
          go_wp2
          go_roundg k
          case measure => omega
          case rel => exact ⟨m + 1, by go_num, by have := hinv.out.1; omega, E1.out, hinv.out.2.2.alloc _⟩
    · obtain rfl : m = 18 := by have := hinv.out.1; omega
      obtain rfl : gk = 0 := by have := hinv.out.1; omega
      have e1 : widthL r = 1 := by rw [← hinv.out.2.1]; rfl
      have E1 := Lib.hid e1; clear e1
      go_wp2
      go_ret
      exact ⟨by rw [E1.out]; rfl, hinv.out.2.2⟩
end Go.Proofs.YtcmllaeihnmkkaaDoor
namespace Go.Proofs.YtcmllaeihnmkkaaDoor
open Go Go.RowKit

def noneB (r : Int) : Bool := decide (¬ isRune r)
theorem noneB_true {r : Int} (h : r < 0 ∨ 1114111 < r ∨ (55296 ≤ r ∧ r ≤ 57343)) : noneB r = true := by unfold noneB isRune; simp; omega
theorem noneB_false {r : Int} (h : isRune r) : noneB r = false := by unfold noneB; simp [h]
set_option maxRecDepth 100000 in
theorem none_any (r : Int) (w : World) : Calls Tryd.prog 129 #[.int .i32 r] w fun e w' => e = .returned (.bool (noneB r)) ∧ w' = w := by
  by_cases h1 : r < 0
  · rw [noneB_true (.inl h1)]
    go_enter Tryd.func129, Tryd.ntmps129
    go_wp2
    go_ret
    exact ⟨rfl, rfl⟩
  · by_cases h2 : 1114111 < r
    · rw [noneB_true (.inr (.inl h2))]
      go_enter Tryd.func129, Tryd.ntmps129
      go_wp2
      go_ret
      exact ⟨rfl, rfl⟩
    · by_cases h3 : 55296 ≤ r
      · by_cases h4 : r ≤ 57343
        · rw [noneB_true (.inr (.inr ⟨h3, h4⟩))]
          go_enter Tryd.func129, Tryd.ntmps129
          go_wp2
          go_ret
          exact ⟨rfl, rfl⟩
        · rw [noneB_false (by unfold isRune; omega)]
          go_enter Tryd.func129, Tryd.ntmps129
          go_wp2
          go_ret
          exact ⟨rfl, rfl⟩
      · rw [noneB_false (by unfold isRune; omega)]
        go_enter Tryd.func129, Tryd.ntmps129
        go_wp2
        go_ret
        exact ⟨rfl, rfl⟩
def inR (r a b : Int) : Bool := decide (a ≤ r ∧ r ≤ b)
theorem wrap_of_i32 {r : Int} (h : isI32 r) : (r + 9223372036854775808) % 18446744073709551616 - 9223372036854775808 = r := by unfold isI32 at h; omega
set_option maxRecDepth 100000 in
theorem within_any (r a b : Int) (w : World) (hr : isI32 r) : Calls Tryd.prog 130 #[.int .i32 r, .int .i64 a, .int .i64 b] w fun e w' => e = .returned (.bool (inR r a b)) ∧ w' = w := by
  have hc := wrap_of_i32 hr
  clear hr
  by_cases h1 : a ≤ r
  · by_cases h2 : r ≤ b
    · rw [show inR r a b = true by unfold inR; simp [h1, h2]]
      go_enter Tryd.func130, Tryd.ntmps130
      go_wp2
      go_ret
      exact ⟨rfl, rfl⟩
    · rw [show inR r a b = false by unfold inR; simp [h2]]
      go_enter Tryd.func130, Tryd.ntmps130
      go_wp2
      go_ret
      exact ⟨rfl, rfl⟩
  · rw [show inR r a b = false by unfold inR; simp [h1]]
    go_enter Tryd.func130, Tryd.ntmps130
    go_wp2
    go_ret
    exact ⟨rfl, rfl⟩
def widthR (r : Int) : Int :=
  if (noneB r || decide (r < 32) || inR r 127 159 || inR r 768 879 || inR r 8203 8207 || inR r 65024 65039) = true then 0
  else if (inR r 4352 4447 || inR r 11904 12350 || inR r 12353 42191 || inR r 44032 55203 || inR r 63744 64255 || inR r 65072 65135 || inR r 65281 65376 || inR r 65504 65510 || inR r 127744 128591 || inR r 129280 129535 || inR r 131072 262141) = true then 2 else 1
theorem widthL_is (r : Int) : widthL r = (if r < -2147483648 then 1 else if r ≤ 31 then 0 else if r < 127 then 1 else if r ≤ 159 then 0 else if r < 768 then 1 else if r ≤ 879 then 0 else if r < 4352 then 1 else if r ≤ 4447 then 2 else if r < 8203 then 1 else if r ≤ 8207 then 0 else if r < 11904 then 1 else if r ≤ 12350 then 2 else if r < 12353 then 1 else if r ≤ 42191 then 2 else if r < 44032 then 1 else if r ≤ 55203 then 2 else if r < 55296 then 1 else if r ≤ 57343 then 0 else if r < 63744 then 1 else if r ≤ 64255 then 2 else if r < 65024 then 1 else if r ≤ 65039 then 0 else if r < 65072 then 1 else if r ≤ 65135 then 2 else if r < 65281 then 1 else if r ≤ 65376 then 2 else if r < 65504 then 1 else if r ≤ 65510 then 2 else if r < 127744 then 1 else if r ≤ 128591 then 2 else if r < 129280 then 1 else if r ≤ 129535 then 2 else if r < 131072 then 1 else if r ≤ 262141 then 2 else if r < 1114112 then 1 else if r ≤ 2147483647 then 0 else 1) := by kernel_rfl
theorem cond0 (r : Int) : (noneB r || decide (r < 32) || inR r 127 159 || inR r 768 879 || inR r 8203 8207 || inR r 65024 65039) = true ↔ (((((¬ ((0 ≤ r ∧ r < 55296) ∨ (57344 ≤ r ∧ r ≤ 1114111)) ∨ r < 32) ∨ (127 ≤ r ∧ r ≤ 159)) ∨ (768 ≤ r ∧ r ≤ 879)) ∨ (8203 ≤ r ∧ r ≤ 8207)) ∨ (65024 ≤ r ∧ r ≤ 65039)) := by
  unfold noneB inR isRune
  simp only [Bool.or_eq_true, decide_eq_true_eq]
theorem cond2 (r : Int) : (inR r 4352 4447 || inR r 11904 12350 || inR r 12353 42191 || inR r 44032 55203 || inR r 63744 64255 || inR r 65072 65135 || inR r 65281 65376 || inR r 65504 65510 || inR r 127744 128591 || inR r 129280 129535 || inR r 131072 262141) = true ↔ (((((((((((4352 ≤ r ∧ r ≤ 4447) ∨ (11904 ≤ r ∧ r ≤ 12350)) ∨ (12353 ≤ r ∧ r ≤ 42191)) ∨ (44032 ≤ r ∧ r ≤ 55203)) ∨ (63744 ≤ r ∧ r ≤ 64255)) ∨ (65072 ≤ r ∧ r ≤ 65135)) ∨ (65281 ≤ r ∧ r ≤ 65376)) ∨ (65504 ≤ r ∧ r ≤ 65510)) ∨ (127744 ≤ r ∧ r ≤ 128591)) ∨ (129280 ≤ r ∧ r ≤ 129535)) ∨ (131072 ≤ r ∧ r ≤ 262141)) := by
  unfold inR
  simp only [Bool.or_eq_true, decide_eq_true_eq]
set_option maxHeartbeats 2000000 in
theorem widthL_eq (r : Int) (hr : isI32 r) : widthL r = widthR r := by
  unfold isI32 at hr
  unfold widthR
  by_cases h0 : (((((¬ ((0 ≤ r ∧ r < 55296) ∨ (57344 ≤ r ∧ r ≤ 1114111)) ∨ r < 32) ∨ (127 ≤ r ∧ r ≤ 159)) ∨ (768 ≤ r ∧ r ≤ 879)) ∨ (8203 ≤ r ∧ r ≤ 8207)) ∨ (65024 ≤ r ∧ r ≤ 65039))
  · rw [if_pos ((cond0 r).2 h0), widthL_is]
    repeat' split
    all_goals omega
  · rw [if_neg (fun h => h0 ((cond0 r).1 h))]
    by_cases h2 : (((((((((((4352 ≤ r ∧ r ≤ 4447) ∨ (11904 ≤ r ∧ r ≤ 12350)) ∨ (12353 ≤ r ∧ r ≤ 42191)) ∨ (44032 ≤ r ∧ r ≤ 55203)) ∨ (63744 ≤ r ∧ r ≤ 64255)) ∨ (65072 ≤ r ∧ r ≤ 65135)) ∨ (65281 ≤ r ∧ r ≤ 65376)) ∨ (65504 ≤ r ∧ r ≤ 65510)) ∨ (127744 ≤ r ∧ r ≤ 128591)) ∨ (129280 ≤ r ∧ r ≤ 129535)) ∨ (131072 ≤ r ∧ r ≤ 262141))
    · rw [if_pos ((cond2 r).2 h2), widthL_is]
      repeat' split
      all_goals omega
    · rw [if_neg (fun h => h2 ((cond2 r).1 h)), widthL_is]
      repeat' split
      all_goals omega
set_option maxHeartbeats 2000000 in
set_option maxRecDepth 100000 in
theorem RefWidth_any (r : Int) (w : World) (hr : isI32 r) : Calls Tryd.prog 106 #[.int .i32 r] w fun e w' => e = .returned (.int .i64 (widthR r)) ∧ w' = w := by
  have hcw := fun a b W => within_any r a b W hr
  have hn := fun W => none_any r W
  have hw0 : noneB r = true → widthR r = 0 := fun h => by unfold widthR; simp [h]
  have hw1 : r < 32 → widthR r = 0 := fun h => by unfold widthR; simp [h]
  clear hr
  by_cases hnn : noneB r = true
  · have e1 := hw0 hnn
    rw [e1]
    clear hw0 hw1 e1 hcw
    go_enter Tryd.func106, Tryd.ntmps106
    go_wp2_with (go_at_call 129; refine (hn _).mono ?_; rintro e w' ⟨rfl, rfl⟩)
    go_ret
    exact ⟨rfl, rfl⟩
  · by_cases hlt : r < 32
    · rw [hw1 hlt]
      clear hw0 hw1 hcw
      simp only [Bool.not_eq_true] at hnn
      go_enter Tryd.func106, Tryd.ntmps106
      go_wp2_with (go_at_call 129; refine (hn _).mono ?_; rintro e w' ⟨rfl, rfl⟩)
      go_ret
      exact ⟨rfl, rfl⟩
    · simp only [Bool.not_eq_true] at hnn
      have hW : widthR r = if (inR r 127 159 || inR r 768 879 || inR r 8203 8207 || inR r 65024 65039) = true then 0 else if (inR r 4352 4447 || inR r 11904 12350 || inR r 12353 42191 || inR r 44032 55203 || inR r 63744 64255 || inR r 65072 65135 || inR r 65281 65376 || inR r 65504 65510 || inR r 127744 128591 || inR r 129280 129535 || inR r 131072 262141) = true then 2 else 1 := by
        unfold widthR; simp only [hnn, hlt, decide_false, Bool.false_or]
      have HW := Lib.hid hW; clear hW hw0 hw1
      generalize widthR r = V at HW
      generalize inR r = I at hcw HW
      go_enter Tryd.func106, Tryd.ntmps106
      go_wp2_with (first
        | (go_at_call 129; refine (hn _).mono ?_; rintro e w' ⟨rfl, rfl⟩)
        | (go_at_call 130; refine (hcw _ _ _).mono ?_; rintro e w' ⟨rfl, rfl⟩))
      all_goals (go_ret; refine ⟨?_, rfl⟩; rw [HW.out]; simp_all)
      all_goals (intro hh; rename_i hq; rcases hq with hq | hq <;> first | omega | (rw [hq] at hh; cases hh))
end Go.Proofs.YtcmllaeihnmkkaaDoor
