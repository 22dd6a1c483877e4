/- Words of no program: the runs of a row, its bytes, its characters (chapter 5). · A loop over an iterator that keeps a variable of its own in memory, and whose rounds all go on: the iterator's contract is asked at the loop's own invariant alone. · The iterator over a right row's runs: cell.runs. -/
import Derived.Test.YtcmllaeihnmkkaaDoorU1
import Derived.Test.YtcmllaeihnmkkaaDoorU9
import Derived.Test.YtcmllaeihnmkkaaDoorU12
import Derived.Test.YtcmllaeihnmkkaaDoorU13
import Derived.RangeFuncNested
import Derived.RangeFuncBound
import Derived.RangeFuncCalls
import Derived.RangeFuncLeaves
import Derived.Shelf.Abstract
import Derived.Shelf.RegionOpen
import Derived.OwnWalkIn
import Derived.TacticsInMore
import Derived.LoopNIn
import Derived.LoopIn
import Derived.Sort.LoopGhostIn
namespace Go.Proofs.YtcmllaeihnmkkaaDoor
open Go Go.RowKit

/-- So often stands the cell, step by step. -/
def IsRun (c : Cel) (k : Nat) (l : List Cel) (n : Nat) : Prop := (∀ j, j < n → l[j * k]? = some c) ∧ ¬ l[n * k]? = some c
def runGo (c : Cel) (k : Nat) (l : List Cel) : Nat → Nat → Nat
  | 0, n => n
  | fu + 1, n => if l[n * k]? = some c then runGo c k l fu (n + 1) else n
def runN (c : Cel) (k : Nat) (l : List Cel) : Nat := runGo c k l l.length 0
theorem runGo_is (c : Cel) (k : Nat) (l : List Cel) (hk : 1 ≤ k) : ∀ (fu n : Nat), (∀ j, j < n → l[j * k]? = some c) → l.length ≤ n + fu → IsRun c k l (runGo c k l fu n) := by
  intro fu
  induction fu with
  | zero =>
    intro n h hl
    refine ⟨h, ?_⟩
    have : n ≤ n * k := Nat.le_mul_of_pos_right n hk
    have h2 : l.length ≤ n * k := Nat.le_trans (by omega) this
    show ¬ l[n * k]? = some c
    rw [List.getElem?_eq_none h2]
    simp
  | succ fu ih =>
    intro n h hl
    unfold runGo
    split
    · rename_i hc
      refine ih (n + 1) (fun j hj => ?_) (by omega)
      rcases Nat.lt_or_ge j n with h1 | h1
      · exact h j h1
      · obtain rfl : j = n := by omega
        exact hc
    · rename_i hc
      exact ⟨h, hc⟩
theorem runN_is (c : Cel) (k : Nat) (l : List Cel) (hk : 1 ≤ k) : IsRun c k l (runN c k l) := runGo_is c k l hk _ 0 (fun j hj => absurd hj (Nat.not_lt_zero j)) (by omega)
theorem IsRun.unique {c : Cel} {k : Nat} {l : List Cel} {n m : Nat} (h : IsRun c k l n) (h' : IsRun c k l m) : n = m := by
  rcases Nat.lt_trichotomy n m with h1 | h1 | h1
  · exact absurd (h'.1 n h1) h.2
  · exact h1
  · exact absurd (h.1 m h1) h'.2
theorem runN_pos (c : Cel) (k : Nat) (l : List Cel) (hk : 1 ≤ k) : 1 ≤ runN c k (c :: l) := by
  rcases Nat.eq_zero_or_pos (runN c k (c :: l)) with h | h
  · have := (runN_is c k (c :: l) hk).2
    rw [h] at this
    simp at this
  · exact h
def runsGo : Nat → List Cel → List (Nat × Cel)
  | 0, _ => []
  | _ + 1, [] => []
  | fu + 1, c :: l => (runN c c.step (c :: l), c) :: runsGo fu ((c :: l).drop (runN c c.step (c :: l) * c.step))
/-- The runs of a right row. -/
def runsL (l : List Cel) : List (Nat × Cel) := runsGo l.length l
theorem run_drop (c : Cel) (l : List Cel) : ((c :: l).drop (runN c c.step (c :: l) * c.step)).length ≤ l.length := by
  have h1 := runN_pos c c.step l c.step_pos
  have h2 := c.step_pos
  have h3 := Nat.mul_le_mul h1 h2
  rw [List.length_drop, List.length_cons]
  omega
theorem runsGo_any : ∀ (f g : Nat) (l : List Cel), l.length ≤ f → l.length ≤ g → runsGo f l = runsGo g l := by
  intro f
  induction f with
  | zero =>
    intro g l hf _
    obtain rfl := List.eq_nil_of_length_eq_zero (Nat.le_zero.1 hf)
    cases g <;> rfl
  | succ f ih =>
    intro g l hf hg
    cases l with
    | nil => cases g <;> rfl
    | cons c l =>
      cases g with
      | zero => simp at hg
      | succ g =>
        simp only [List.length_cons] at hf hg
        have h := run_drop c l
        simp only [runsGo]
        rw [ih g _ (by omega) (by omega)]
theorem runsL_nil : runsL [] = [] := rfl
theorem runsL_cons (c : Cel) (l : List Cel) : runsL (c :: l) = (runN c c.step (c :: l), c) :: runsL ((c :: l).drop (runN c c.step (c :: l) * c.step)) := by
  have h := run_drop c l
  show runsGo (l.length + 1) (c :: l) = _
  unfold runsL
  simp only [runsGo]
  rw [runsGo_any l.length _ _ h (Nat.le_refl _)]
theorem right_whole {c : Cel} {l : List Cel} (h : rightL (c :: l) = true) : wholeL (c :: l) = c.step ∧ c.step ≤ (c :: l).length ∧ rightL ((c :: l).drop c.step) = true ∧ (c.plain = true ∨ c.opens = true) := by
  rw [rightL_step _ (by simp)] at h
  simp only [Bool.and_eq_true, decide_eq_true_eq] at h
  have hle := wholeL_le (c :: l)
  have hw : wholeL (c :: l) = c.step ∧ (c.plain = true ∨ c.opens = true) := by
    rw [wholeL_cons] at h ⊢
    split
    · rename_i hp; exact ⟨(Cel.plain_step hp).symm, .inl hp⟩
    · rename_i hp
      rw [if_neg hp] at h
      split
      · rename_i ho
        simp at ho
        exact ⟨(Cel.opens_step ho.1).symm, .inr ho.1⟩
      · rename_i ho
        rw [if_neg ho] at h
        exact absurd rfl h.1
  rw [hw.1] at h hle
  exact ⟨hw.1, hle, h.2, hw.2⟩
theorem right_run (c : Cel) (l : List Cel) (hr : rightL l = true) : ∀ (n : Nat), (∀ j, j < n → l[j * c.step]? = some c) → n * c.step ≤ l.length ∧ rightL (l.drop (n * c.step)) = true := by
  intro n
  induction n with
  | zero => intro _; rw [Nat.zero_mul]; exact ⟨Nat.zero_le _, hr⟩
  | succ n ih =>
    intro h
    obtain ⟨h1, h2⟩ := ih (fun j hj => h j (by omega))
    have h3 := h n (Nat.lt_succ_self n)
    have h4 : l.drop (n * c.step) = c :: l.drop (n * c.step + 1) := by
      rw [List.drop_eq_getElem_cons (List.getElem?_eq_some_iff.1 h3).1]
      rw [(List.getElem?_eq_some_iff.1 h3).2]
    rw [h4] at h2
    obtain ⟨_, h5, h6, _⟩ := right_whole h2
    rw [← h4] at h5 h6
    rw [List.length_drop] at h5
    rw [List.drop_drop] at h6
    rw [Nat.add_mul, Nat.one_mul]
    exact ⟨by have := c.step_pos; omega, h6⟩
/-- The bytes of a run. -/
def runB (p : Nat × Cel) : List UInt8 := putN [(p.1 : Int) - 1, p.2.r, p.2.f, p.2.b, p.2.a]
def runsB (l : List (Nat × Cel)) : List UInt8 := (l.map runB).flatten
theorem runsB_append (a b : List (Nat × Cel)) : runsB (a ++ b) = runsB a ++ runsB b := by simp [runsB]
theorem runsB_one (p : Nat × Cel) : runsB [p] = runB p := by simp [runsB]
theorem runsB_cons (p : Nat × Cel) (l : List (Nat × Cel)) : runsB (p :: l) = runB p ++ runsB l := by simp [runsB]
/-- A row as bytes. -/
def bytesL (l : List Cel) : List UInt8 := if rightL l then runsB (runsL l) else []
theorem runs_len : ∀ (n : Nat) (l : List Cel), l.length ≤ n → (runsL l).length ≤ l.length := by
  intro n
  induction n with
  | zero => intro l hl; obtain rfl := List.eq_nil_of_length_eq_zero (Nat.le_zero.1 hl); exact Nat.le_refl _
  | succ n ih =>
    intro l hl
    cases l with
    | nil => exact Nat.le_refl _
    | cons c l =>
      have h := run_drop c l
      simp only [List.length_cons] at hl
      rw [runsL_cons, List.length_cons, List.length_cons]
      have := ih _ (Nat.le_trans h (by omega))
      omega
theorem runs_mem : ∀ (n : Nat) (l : List Cel), l.length ≤ n → ∀ x, x ∈ runsL l → x.2 ∈ l ∧ 1 ≤ x.1 ∧ x.1 ≤ l.length := by
  intro n
  induction n with
  | zero => intro l hl x hx; obtain rfl := List.eq_nil_of_length_eq_zero (Nat.le_zero.1 hl); cases hx
  | succ n ih =>
    intro l hl x hx
    cases l with
    | nil => cases hx
    | cons c l =>
      have h := run_drop c l
      simp only [List.length_cons] at hl
      rw [runsL_cons] at hx
      rcases List.mem_cons.1 hx with rfl | hx
      · have h1 := runN_pos c c.step l c.step_pos
        have h2 := (runN_is c c.step (c :: l) c.step_pos).1 (runN c c.step (c :: l) - 1) (by omega)
        have h3 := (List.getElem?_eq_some_iff.1 h2).1
        have h4 := Nat.le_mul_of_pos_right (runN c c.step (c :: l) - 1) c.step_pos
        exact ⟨List.mem_cons_self .., h1, by show runN c c.step (c :: l) ≤ _; omega⟩
      · obtain ⟨h1, h2, h3⟩ := ih _ (Nat.le_trans h (by omega)) x hx
        exact ⟨List.mem_of_mem_drop h1, h2, by rw [List.length_cons]; omega⟩
/-- The characters of a row. -/
def charsL (l : List Cel) : List Int := l.filterMap fun c => if c.check then (if c.tl then none else some c.r) else some 63
theorem charsL_append (a b : List Cel) : charsL (a ++ b) = charsL a ++ charsL b := List.filterMap_append
theorem charsL_len (l : List Cel) : (charsL l).length ≤ l.length := List.length_filterMap_le _ _
/-- Without blanks at the end. -/
def stripL (l : List Int) : List Int := (l.reverse.dropWhile (· == 32)).reverse
theorem stripL_last (l : List Int) : stripL (l ++ [32]) = stripL l := by simp [stripL]
theorem stripL_stop (l : List Int) (c : Int) (h : c ≠ 32) : stripL (l ++ [c]) = l ++ [c] := by simp [stripL, h]
theorem stripL_nil : stripL [] = [] := rfl
end Go.Proofs.YtcmllaeihnmkkaaDoor
namespace Go.Proofs.YtcmllaeihnmkkaaDoor
open Go Go.RowKit

/-- What is no cells, and lies from block B on, lies as it lay. -/
def Held (B : Nat) (W W' : World) : Prop := ∀ (k : Nat) (o : Obj), B ≤ k → W.heap[k]? = some o → o.isCells = false → W'.heap[k]? = some o
theorem Held.refl (B : Nat) (W : World) : Held B W W := fun _ _ _ h _ => h
theorem Held.trans {B : Nat} {U V W : World} (h : Held B U V) (k : Held B V W) : Held B U W := fun i o hi ho hc => k i o hi (h i o hi ho hc) hc
theorem Held.ext {B : Nat} {U V : World} (h : Ext U V) : Held B U V := fun k _ _ ho _ => (h.block k (Array.getElem?_eq_some_iff.1 ho).1).trans ho
theorem Held.only {B d : Nat} {U V : World} (h : Only d U V) (hd : d < B) : Held B U V := fun k _ hk ho _ => (h.block k (by omega) (Array.getElem?_eq_some_iff.1 ho).1).trans ho

section
variable {F : Fence} {n : Nat} {P : Program}
theorem wpIn_range_on {α : Type} {g : Operand} {ps : Array Tmp} {assign body : Code} {Q : Exit → Act → World → Prop} {a : Act} {w : World}
    (hro : F.round = none) (h1 : 1 ≤ n) {gf : Nat} {lb : Array Value} (hg : a.eval g = .func (.func gf) #[] lb) (hFg : F.fn gf) (eg : ∀ args w, (callFunc gf args).run P w = .ok (.enter gf args) w)
    (encs : α → Array Value) (hps : ∀ x, (encs x).size = ps.size) (xs : List α)
    (Kp : World → World → Prop) (hKt : ∀ A B C, Kp A B → Kp B C → Kp A C) (hKb : ∀ (W : World) (k : Nat) (o' : Obj), w.heap.size ≤ k → Kp W (W.putObj k o'))
    (I : List α → World → Prop) (M : List α → α → Act → World → Prop)
    (hI : ∀ pre W k o o', I pre W → w.heap.size ≤ k → W.heap[k]? = some o → o.isCells = false → I pre (W.putObj k o'))
    (hM : ∀ pre x a' W k o o', M pre x a' W → w.heap.size ≤ k → W.heap[k]? = some o → o.isCells = false → M pre x a' (W.putObj k o'))
    (h0 : ∀ o1 o2, I [] ((w.alloc o1).alloc o2))
    (hseq : ∀ (l : Nat) (R : World → Prop) (W : World), Ext w W → (∀ A A', R A → Held w.heap.size A A' → R A') →
      (∀ pre x W1, I pre W1 → R W1 → (∃ rest, xs = pre ++ x :: rest) → YieldAt F (n - 1 - 1) P l (encs x) W1 fun e W' => e = .returned (.bool true) ∧ I (pre ++ [x]) W' ∧ R W' ∧ Kp W1 W') → I [] W → R W →
      CallsIn F (n - 1) P gf (#[.func (.yield l) #[] #[]] ++ lb) W fun e W' => (∃ v, e = .returned v) ∧ I xs W' ∧ R W')
    (hassign : ∀ (l : Nat) (pre : List α) (x : α) (W : World), I pre W → (∃ rest, xs = pre ++ x :: rest) →
      assign.wpIn (F.inRound l) (n - 1 - 1) P (Exit.then (fun a' W' => Held w.heap.size W W' ∧ Kp W W' ∧ M pre x a' W') (fun _ _ _ => False)) { tmps := (ps.zip (encs x)).foldl (fun t (p, v) => t.setIfInBounds p v) a.tmps, defers := [] } W)
    (hbody : ∀ (l : Nat) (pre : List α) (x : α) (a' : Act) (W : World), M pre x a' W → (∃ rest, xs = pre ++ x :: rest) →
      body.wpIn (F.inRound l) (n - 1 - 1) P (fun e _ W' => e = .normal ∧ Held w.heap.size W W' ∧ Kp W W' ∧ I (pre ++ [x]) W') a' W)
    (hdone : ∀ (D : Nat) (W : World), w.heap.size ≤ D → I xs W → W.heap[D]? = some (.deferred (some [])) → Q .normal { a with defers := { target := .collected D, args := #[] } :: a.defers } W) :
    (Code.rangeFunc g ps assign body).wpIn F n P Q a w := by
  refine wpIn_rangeFunc ?_
  intro fn hfn
  rw [hro]
  obtain ⟨rec, hrec⟩ : ∃ rec : LoopState → Loop, rec = fun st => { state := st, pending := none, fn, tmps := a.tmps, params := ps, assign, body, defers := w.heap.size } := ⟨_, rfl⟩
  obtain ⟨W1, hW1⟩ : ∃ W1, (w.alloc (.deferred (some []))).alloc (.loop (rec .ready)) = W1 := ⟨_, rfl⟩
  have hL1 : W1.heap[w.heap.size + 1]? = some (.loop (rec .ready)) := by
    rw [← hW1]; have := World.alloc_heap_new (w.alloc (.deferred (some []))) (.loop (rec .ready)); rwa [World.size_alloc] at this
  have hK1 : W1.heap[w.heap.size]? = some (.deferred (some [])) := by
    rw [← hW1]; exact (Below.heap_alloc _ _ _ (by simp)).trans (World.alloc_heap_new w _)
  refine ⟨w.heap.size + 1, [{ target := .collected w.heap.size, args := #[] }], W1, { target := .fn (.func gf) lb, args := #[.func (.yield (w.heap.size + 1)) #[] #[]] }, W1, gf,
    #[.func (.yield (w.heap.size + 1)) #[] #[]] ++ lb, W1, ?_, ?_, ?_, ?_, fun _ => h1, ?_⟩
  · rw [← hW1, hrec]; exact run_enterLoop_outer _ _ _ _ _
  · simp only [resolve, hg]
    simp [go_sem]
  · intro f' hf'; simp [Target.leads] at hf'; subst hf'; exact hFg
  · simp [invoke, go_sem, eg]
  · refine (hseq (w.heap.size + 1) (fun W => W.heap[w.heap.size + 1]? = some (.loop (rec .ready)) ∧ W.heap[w.heap.size]? = some (.deferred (some []))) W1
      (by rw [← hW1]; exact ((Ext.refl w).alloc _).alloc _)
      (fun A A' hR hx => ⟨hx _ _ (by omega) hR.1 rfl, hx _ _ (Nat.le_refl _) hR.2 rfl⟩) ?_ (by rw [← hW1]; exact h0 _ _) ⟨hL1, hK1⟩).mono ?_
    · rintro pre x W hi ⟨hl, hk⟩ hlen
      have hy := run_yield (P := P) (args := encs x) hl (by rw [hrec]; exact hps x)
      rw [hrec] at hy
      refine ⟨fn, _, assign, body, hy, roundIn_of_wpIn hfn (wpIn_mono (hassign _ pre x W hi hlen) ?_)⟩
      rintro e a' W2 he
      cases e with
      | normal =>
        obtain ⟨hx2, hp2, hm⟩ := he
        have hl2 := hx2 _ _ (by omega) hl rfl
        have hk2 := hx2 _ _ (Nat.le_refl _) hk rfl
        have hlt2 : w.heap.size + 1 < W2.heap.size := (Array.getElem?_eq_some_iff.1 hl2).1
        refine ⟨_, run_beginRound hl2 (by rw [hrec]), ?_⟩
        have hl3 : (W2.putObj (w.heap.size + 1) (.loop { rec .ready with state := .busy })).heap[w.heap.size + 1]? = some (.loop { rec .ready with state := .busy }) := World.putObj_heap_same hlt2
        have hk3 : (W2.putObj (w.heap.size + 1) (.loop { rec .ready with state := .busy })).heap[w.heap.size]? = some (.deferred (some [])) := (World.putObj_heap_other (by omega)).trans hk2
        refine wpIn_mono (hbody _ pre x a' _ (hM _ _ _ _ _ _ _ hm (by omega) hl2 rfl) hlen) ?_
        rintro e a3 W3 ⟨rfl, hx3, hp3, hi3⟩
        have hl4 := hx3 _ _ (by omega) hl3 rfl
        have hk4 := hx3 _ _ (Nat.le_refl _) hk3 rfl
        have hr := run_endRound (P := P) none hl4
        have hlt4 : w.heap.size + 1 < W3.heap.size := (Array.getElem?_eq_some_iff.1 hl4).1
        refine ⟨_, _, hr, rfl, hI _ _ _ _ _ hi3 (by omega) hl4 rfl, ⟨?_, (World.putObj_heap_other (by omega)).trans hk4⟩, hKt _ _ _ (hKt _ _ _ (hKt _ _ _ hp2 (hKb _ _ _ (by omega))) hp3) (hKb _ _ _ (by omega))⟩
        rw [World.putObj_heap_same hlt4, hrec]
        rfl
      | _ => exact he.elim
    · rintro e W2 ⟨⟨v, rfl⟩, hi, hl, hk⟩
      have he := run_endLoop (P := P) hl (by rw [hrec]; simp)
      refine ⟨none, _, by rw [hrec] at he; exact he, ?_⟩
      exact hdone _ _ (Nat.le_refl _) (hI _ _ _ _ _ hi (by omega) hl rfl) ((World.putObj_heap_other (by omega)).trans hk)
end
end Go.Proofs.YtcmllaeihnmkkaaDoor
namespace Go.Proofs.YtcmllaeihnmkkaaDoor
open Go Go.RowKit Go.Shelf
attribute [local go_sem] Oper.semAt_some
attribute [local go_sem 10000] eq_cel

def runV (x : Nat × Cel) : Array Value := #[.int .i64 x.1, x.2.val]
theorem runs_of (A : Option Addr) (k c : Nat) (w : World) : Calls Tryd.prog 68 #[.slice A k c] w fun e w' => e = .returned (.func (.func 118) #[] #[.pointer (some ⟨w.heap.size, 0, none⟩)]) ∧ w' = w.alloc (.cells #[.slice A k c] 27) := by
  have hmf : ∀ (fn : Fn) (first cap : Array Value) (w : World), (Instr.makeFunc fn first cap).run Tryd.prog w = .ok (.func fn first cap) w := fun _ _ _ _ => rfl
  go_enter Tryd.func68, Tryd.ntmps68
  go_wp2
  go_ret
  exact ⟨rfl, rfl⟩
theorem box_cell {W : World} {B : Nat} {v : Value} {t : TypeId} (h : W.heap[B]? = some (.cells #[v] t (0, 0))) : W.cell? ⟨B, 0, none⟩ = some v ∧ W.frozen? ⟨B, 0, none⟩ = false := by
  constructor <;> simp [World.cell?, World.frozen?, h]
theorem CelAt.all4 {w : World} {g o : Nat} {c : Cel} (h : CelAt w g o c) : w.cell? ⟨g, o, none⟩ = some (.int .i32 c.r) ∧ w.cell? ⟨g, o + 1, none⟩ = some (.int .u8 c.f) ∧ w.cell? ⟨g, o + 2, none⟩ = some (.int .u8 c.b) ∧ w.cell? ⟨g, o + 3, none⟩ = some (.int .u8 c.a) :=
  ⟨h 0 _ rfl, h 1 _ rfl, h 2 _ rfl, h 3 _ rfl⟩
theorem set_box {W : World} {B : Nat} {v : Value} {t : TypeId} (h : W.heap[B]? = some (.cells #[v] t (0, 0))) (u : Value) : (W.setCell ⟨B, 0, none⟩ u).heap[B]? = some (.cells #[u] t (0, 0)) := by
  simp [World.setCell, Array.getElem?_modify, h]
set_option maxHeartbeats 4000000 in
set_option maxRecDepth 100000 in
theorem runs1_in (n : Nat) (hn : 3 ≤ n) (l Bn : Nat) (w0 : World) (v0 : Value) (row : List Cel) (J : List (Nat × Cel) → World → Prop) (h0 : IsCells w0 v0 row) (hr : rightL row = true) (hm : row.length ≤ 1000000) (hS : Spans w0)
    (hJ : ∀ pre A A', J pre A → Ext A A' → J pre A') (hJs : ∀ pre A u u', J pre A → A.heap[Bn]? = some (.cells #[u] 27 (0, 0)) → J pre (A.setCell ⟨Bn, 0, none⟩ u')) (hE : ∀ pre A, J pre A → Ext w0 A) (hb : w0.heap.size ≤ Bn)
    (hY : ∀ pre x W, J pre W → (∃ rest, runsL row = pre ++ x :: rest) → YieldAt Fence.wide (n - 1) Tryd.prog l (runV x) W fun e W' => e = .returned (.bool true) ∧ J (pre ++ [x]) W' ∧ W'.heap[Bn]? = W.heap[Bn]?)
    (W : World) (hB : W.heap[Bn]? = some (.cells #[v0] 27 (0, 0))) (hj : J [] W) :
    CallsIn Fence.wide n Tryd.prog 118 #[.func (.yield l) #[] #[], .pointer (some ⟨Bn, 0, none⟩)] W fun e W' => (∃ v, e = .returned v) ∧ J (runsL row) W' := by
  have HJ := Lib.hid (And.intro hJ (And.intro hE (And.intro hb hJs))); clear hJ hE hb hJs
  have HY := Lib.hid hY; clear hY
  have H0 := Lib.hid (And.intro h0 (And.intro hr (And.intro hm hS))); clear h0 hr hm hS
  refine callsIn_of_wp Tryd.func118 rfl trivial ?_ rfl
  simp only [Tryd.ntmps118, List.size_toArray, List.length_cons, List.length_nil, Nat.reduceAdd, Nat.reduceSub, Array.replicate_succ, Array.replicate_zero, List.push_toArray, List.append_toArray, List.nil_append, List.cons_append]
  gi_wp2
  gi_loopg [] row.length (fun k wr => ∃ (pre : List (Nat × Cel)) (m : List Cel) (v : Value), Hid (m.length ≤ k ∧ m.length ≤ row.length ∧ rightL m = true ∧ pre ++ runsL m = runsL row ∧ wr.heap[Bn]? = some (.cells #[v] 27 (0, 0)) ∧ IsCells w0 v m ∧ J pre wr))
  case atStart => exact ⟨[], row, v0, Nat.le_refl _, Nat.le_refl _, H0.out.2.1, rfl, hB, H0.out.1, hj⟩
  case round =>
    obtain ⟨pre, m, v, hin⟩ := hrel
    obtain ⟨B, d, hv, hmd, hBn⟩ := hin.out.2.2.2.2.2.1.form
    subst hv
    have hc := (box_cell hin.out.2.2.2.2.1).1
    cases m with
    | nil =>
      simp only [List.length_nil] at hc
      have hJ0 : J (runsL row) wr := by
        have h1 := hin.out.2.2.2.1
        rw [runsL_nil, List.append_nil] at h1
        rw [← h1]; exact hin.out.2.2.2.2.2.2
      have HJ0 := Lib.hid hJ0; clear hJ0
      gi_wp2
      go_end0
      exact ⟨⟨_, rfl⟩, HJ0.out⟩
    | cons c t =>
      have hrw := right_whole hin.out.2.2.1
      obtain ⟨g, off, rfl⟩ := hin.out.2.2.2.2.2.1.addr (by simp)
      have hm1 : (c :: t).length ≤ 1000000 := Nat.le_trans hin.out.2.1 H0.out.2.2.1
      generalize hM : c :: t = m at hin hc hmd hrw hm1
      generalize hL : m.length = L at hc hmd hm1 hin
      have HM := Lib.hid (And.intro hM hL)
      have hLp : 0 < L := by rw [← hL, ← hM]; simp
      clear hM hL
      have HR := Lib.hid hrw; clear hrw
      gi_wp2_with fail
      have hw0 := HJ.out.2.1 _ _ hin.out.2.2.2.2.2.2
      refine ⟨trivial, fun _ => by omega, (callsIn_wide.2 (whole_of m _ wr (hin.out.2.2.2.2.2.1.ext hw0) (by rw [HM.out.2]; exact hLp) (H0.out.2.2.2.ext hw0))).mono ?_⟩
      clear hw0
      rintro e w2 ⟨rfl, hx⟩
      have hb2 := (hx.block Bn (Array.getElem?_eq_some_iff.1 hin.out.2.2.2.2.1).1).trans hin.out.2.2.2.2.1
      have hj2 := HJ.out.1 _ _ _ hin.out.2.2.2.2.2.2 hx
      have H2 := Lib.hid (And.intro hb2 hj2); clear hb2 hj2 hx hc
      have hc0 : CelAt w0 g off c := by
        have := (hin.out.2.2.2.2.2.1.at' (i := 0) (x := c) (by rw [← HM.out.1]; rfl)).2
        rwa [Nat.zero_mul, Nat.add_zero] at this
      have HC0 := Lib.hid hc0; clear hc0
      have hst : c.step = 1 ∨ c.step = 2 := by have := c.step_pos; have := c.step_le; omega
      rw [HR.out.1]
      generalize hK : c.step = K at hst
      have HK := Lib.hid hK; clear hK
      rcases hst with rfl | rfl
      · gi_wp2
        obtain ⟨go, hgo⟩ : ∃ go, go = gk := ⟨_, rfl⟩
        have HGO := Lib.hid hgo; clear hgo
        gi_loopg [4] L (fun k u wq => ∃ i : Nat, u = .int .i64 i ∧ Hid (1 ≤ i ∧ i ≤ L ∧ L ≤ i + k ∧ (∀ j, j < i → m[j * 1]? = some c) ∧ Ext w2 wq))
        case atStart =>
          refine ⟨1, rfl, Nat.le_refl _, hLp, by omega, fun j hj => ?_, Ext.refl w2⟩
          obtain rfl : j = 0 := by omega
          rw [← HM.out.1]; rfl
        case round =>
          obtain ⟨i, rfl, hq⟩ := hrel
          have hil := hq.out.2.1
          have bq := (box_cell ((hq.out.2.2.2.2.block Bn (Array.getElem?_eq_some_iff.1 H2.out.1).1).trans H2.out.1)).1
          by_cases hlt : i * 1 < L
          · have hd : decide ((i : Int) < (L : Int)) = true := by simp; omega
            have hlt2 : i < L := by omega
            obtain ⟨y, hy⟩ : ∃ y, m[i * 1]? = some y := ⟨m[i * 1]'(by rw [HM.out.2]; exact hlt), List.getElem?_eq_getElem _⟩
            have hx2 := (HJ.out.2.1 _ _ H2.out.2).trans hq.out.2.2.2.2
            have hy4 := (hin.out.2.2.2.2.2.1.at' hy).2.ext hx2
            simp only [Nat.mul_one] at hy4
            have hc4 := HC0.out.ext hx2
            have HY2 := Lib.hid hy; clear hy hx2
            obtain ⟨q0, q1, q2, q3⟩ := hc4.all4
            obtain ⟨p0, p1, p2, p3⟩ := hy4.all4
            clear hc4 hy4
            gi_wp2_with fail
            refine wpIn_wide.2 ?_
            go_quiet (fail)
            generalize hEq : celEq _ _ = E
            have HEQ := Lib.hid hEq; clear hEq
            clear q0 q1 q2 q3 p0 p1 p2 p3 bq hd
            cases E with
            | true =>
              have hxy : y = c := celEq_true.1 HEQ.out
              have hq1 : ∀ j, j < i + 1 → m[j * 1]? = some c := fun j hj => by
                rcases Nat.lt_or_ge j i with h1 | h1
                · exact hq.out.2.2.2.1 j h1
                · obtain rfl : j = i := by omega
                  rw [HY2.out, hxy]
              have HQ1 := Lib.hid (And.intro hq1 hq.out); clear hq1 hxy
              gi_wp2
              gi_roundg (gk - 1)
              case measure => have := HQ1.out.2.2.2.1; omega
              case rel => exact ⟨i + 1, by go_num, by omega, by omega, by have := HQ1.out.2.2.2.1; omega, HQ1.out.1, HQ1.out.2.2.2.2.2.drewN _⟩
            | false =>
              have hxy : ¬ y = c := celEq_false.1 HEQ.out
              have hrun : IsRun c 1 m i := ⟨hq.out.2.2.2.1, by rw [HY2.out]; intro h; injection h with h; exact hxy h⟩
              have HRUN := Lib.hid hrun; clear hrun hxy
              have HX := Lib.hid (hq.out.2.2.2.2.drewN nq)
              generalize (World.drewN _ nq) = wx at HX ⊢
              have hiu := HRUN.out.unique (runN_is c 1 m (by decide))
              have hrr := right_run c m hin.out.2.2.1 i (by rw [HK.out]; exact HRUN.out.1)
              rw [HK.out] at hrr
              have hrc : runsL m = (i, c) :: runsL (m.drop (i * 1)) := by
                have := runsL_cons c t
                rw [HM.out.1, HK.out, ← hiu] at this
                exact this
              have hpre : (pre ++ [(i, c)]) ++ runsL (m.drop (i * 1)) = runsL row := by
                rw [← hin.out.2.2.2.1, hrc, List.append_assoc]; rfl
              have hpl : ∃ rest, runsL row = pre ++ (i, c) :: rest := ⟨runsL (m.drop (i * 1)), by rw [← hin.out.2.2.2.1, hrc]⟩
              have hjx := HJ.out.1 _ _ _ H2.out.2 HX.out
              have hbx := (HX.out.block Bn (Array.getElem?_eq_some_iff.1 H2.out.1).1).trans H2.out.1
              have hile : i * 1 ≤ L := by rw [← HM.out.2]; exact hrr.1
              have HP := Lib.hid (And.intro hrr (And.intro hpre (And.intro hpl (And.intro hjx hbx)))); clear hiu hrr hrc hpre hpl hjx hbx
              have bc := (box_cell HP.out.2.2.2.2).1
              have hcx := HC0.out.ext (HJ.out.2.1 _ _ HP.out.2.2.2.1)
              obtain ⟨fn, tmps, assign, body, hy, hR⟩ := HY.out pre (i, c) wx HP.out.2.2.2.1 HP.out.2.2.1
              obtain ⟨q0, q1, q2, q3⟩ := hcx.all4
              clear hcx
              dsimp only [runV, Cel.val] at hy
              gi_wp2
              refine ⟨fun _ => by omega, hR.mono ?_⟩
              rintro e W3 ⟨rfl, hj3, hb3⟩
              have hb3' := hb3.trans HP.out.2.2.2.2
              have bc3 := (box_cell hb3').1
              have bf3 := (box_cell hb3').2
              have H3 := Lib.hid (And.intro hb3' hj3); clear hb3' hj3 hb3 hR hy q0 q1 q2 q3 bc
              gi_wp2
              all_goals
                have hl3 : (m.drop (i * 1)).length = L - i * 1 := by rw [List.length_drop, HM.out.2]
                have HL3 := Lib.hid hl3; clear hl3
                gi_roundg (go - 1)
                case measure => have := HGO.out; have := hq.out.1; have := hin.out.1; omega
                case rel =>
                  refine ⟨pre ++ [(i, c)], m.drop (i * 1), _, ?_, ?_, HP.out.1.2, HP.out.2.1, set_box H3.out.1 _, ?_, HJ.out.2.2.2 _ _ _ _ H3.out.2 H3.out.1⟩
                  · rw [HL3.out]; have := HGO.out; have := hq.out.1; have := hin.out.1; omega
                  · rw [HL3.out]; have := hin.out.2.1; omega
                  · first
                    | (have h5 := hin.out.2.2.2.2.2.1.drop (i * 1) (by rw [HM.out.2]; exact hile)
                       rw [HM.out.2] at h5
                       simpa using h5)
                    | (have h6 : m.drop (i * 1) = [] := List.eq_nil_of_length_eq_zero (by rw [HL3.out]; omega)
                       rw [h6]
                       first | rw [show L - i * 1 = 0 by omega] | rw [show L - i = 0 by omega]
                       exact cells_nothing _ _ _ (fun e => by cases e))
          · have hd : decide ((i : Int) < (L : Int)) = false := by simp; omega
            have hrun : IsRun c 1 m i := ⟨hq.out.2.2.2.1, by rw [List.getElem?_eq_none (by rw [HM.out.2]; omega)]; simp⟩
            have HRUN := Lib.hid hrun; clear hrun
            have hd2 : decide (i < L) = false := by simp; omega
            have HLT := Lib.hid hlt; clear hlt
            have hw1 : IntKind.i64.wrap (i : Int) = i := by rw [IntKind.wrap_i64]; omega
            gi_wp2_with fail
            refine wpIn_wide.2 ?_
            go_quiet (fail)
            have HX := Lib.hid (hq.out.2.2.2.2.drewN nq)
            generalize (World.drewN _ nq) = wx at HX ⊢
            clear bq hd hd2 hw1
            have hiu := HRUN.out.unique (runN_is c 1 m (by decide))
            have hrr := right_run c m hin.out.2.2.1 i (by rw [HK.out]; exact HRUN.out.1)
            rw [HK.out] at hrr
            have hrc : runsL m = (i, c) :: runsL (m.drop (i * 1)) := by
              have := runsL_cons c t
              rw [HM.out.1, HK.out, ← hiu] at this
              exact this
            have hpre : (pre ++ [(i, c)]) ++ runsL (m.drop (i * 1)) = runsL row := by
              rw [← hin.out.2.2.2.1, hrc, List.append_assoc]; rfl
            have hpl : ∃ rest, runsL row = pre ++ (i, c) :: rest := ⟨runsL (m.drop (i * 1)), by rw [← hin.out.2.2.2.1, hrc]⟩
            have hjx := HJ.out.1 _ _ _ H2.out.2 HX.out
            have hbx := (HX.out.block Bn (Array.getElem?_eq_some_iff.1 H2.out.1).1).trans H2.out.1
            have hile : i * 1 ≤ L := by rw [← HM.out.2]; exact hrr.1
            have HP := Lib.hid (And.intro hrr (And.intro hpre (And.intro hpl (And.intro hjx hbx)))); clear hiu hrr hrc hpre hpl hjx hbx
            have bc := (box_cell HP.out.2.2.2.2).1
            have hcx := HC0.out.ext (HJ.out.2.1 _ _ HP.out.2.2.2.1)
            obtain ⟨fn, tmps, assign, body, hy, hR⟩ := HY.out pre (i, c) wx HP.out.2.2.2.1 HP.out.2.2.1
            obtain ⟨q0, q1, q2, q3⟩ := hcx.all4
            clear hcx
            dsimp only [runV, Cel.val] at hy
            gi_wp2
            refine ⟨fun _ => by omega, hR.mono ?_⟩
            rintro e W3 ⟨rfl, hj3, hb3⟩
            have hb3' := hb3.trans HP.out.2.2.2.2
            have bc3 := (box_cell hb3').1
            have bf3 := (box_cell hb3').2
            have H3 := Lib.hid (And.intro hb3' hj3); clear hb3' hj3 hb3 hR hy q0 q1 q2 q3 bc
            gi_wp2
            all_goals
              have hl3 : (m.drop (i * 1)).length = L - i * 1 := by rw [List.length_drop, HM.out.2]
              have HL3 := Lib.hid hl3; clear hl3
              gi_roundg (go - 1)
              case measure => have := HGO.out; have := hq.out.1; have := hin.out.1; omega
              case rel =>
                refine ⟨pre ++ [(i, c)], m.drop (i * 1), _, ?_, ?_, HP.out.1.2, HP.out.2.1, set_box H3.out.1 _, ?_, HJ.out.2.2.2 _ _ _ _ H3.out.2 H3.out.1⟩
                · rw [HL3.out]; have := HGO.out; have := hq.out.1; have := hin.out.1; omega
                · rw [HL3.out]; have := hin.out.2.1; omega
                · first
                  | (have h5 := hin.out.2.2.2.2.2.1.drop (i * 1) (by rw [HM.out.2]; exact hile)
                     rw [HM.out.2] at h5
                     simpa using h5)
                  | (have h6 : m.drop (i * 1) = [] := List.eq_nil_of_length_eq_zero (by rw [HL3.out]; omega)
                     rw [h6]
                     first | rw [show L - i * 1 = 0 by omega] | rw [show L - i = 0 by omega]
                     exact cells_nothing _ _ _ (fun e => by cases e))
      · gi_wp2
        obtain ⟨go, hgo⟩ : ∃ go, go = gk := ⟨_, rfl⟩
        have HGO := Lib.hid hgo; clear hgo
        gi_loopg [4] L (fun k u wq => ∃ i : Nat, u = .int .i64 i ∧ Hid (1 ≤ i ∧ i ≤ L ∧ L ≤ i + k ∧ (∀ j, j < i → m[j * 2]? = some c) ∧ Ext w2 wq))
        case atStart =>
          refine ⟨1, rfl, Nat.le_refl _, hLp, by omega, fun j hj => ?_, Ext.refl w2⟩
          obtain rfl : j = 0 := by omega
          rw [← HM.out.1]; rfl
        case round =>
          obtain ⟨i, rfl, hq⟩ := hrel
          have hil := hq.out.2.1
          have bq := (box_cell ((hq.out.2.2.2.2.block Bn (Array.getElem?_eq_some_iff.1 H2.out.1).1).trans H2.out.1)).1
          by_cases hlt : i * 2 < L
          · have hd : decide ((i : Int) * 2 < (L : Int)) = true := by simp; omega
            have hlt2 : i * 2 < L := by omega
            obtain ⟨y, hy⟩ : ∃ y, m[i * 2]? = some y := ⟨m[i * 2]'(by rw [HM.out.2]; exact hlt), List.getElem?_eq_getElem _⟩
            have hx2 := (HJ.out.2.1 _ _ H2.out.2).trans hq.out.2.2.2.2
            have hy4 := (hin.out.2.2.2.2.2.1.at' hy).2.ext hx2
            have hc4 := HC0.out.ext hx2
            have HY2 := Lib.hid hy; clear hy hx2
            obtain ⟨q0, q1, q2, q3⟩ := hc4.all4
            obtain ⟨p0, p1, p2, p3⟩ := hy4.all4
            clear hc4 hy4
            gi_wp2_with fail
            refine wpIn_wide.2 ?_
            go_quiet (fail)
            generalize hEq : celEq _ _ = E
            have HEQ := Lib.hid hEq; clear hEq
            clear q0 q1 q2 q3 p0 p1 p2 p3 bq hd
            cases E with
            | true =>
              have hxy : y = c := celEq_true.1 HEQ.out
              have hq1 : ∀ j, j < i + 1 → m[j * 2]? = some c := fun j hj => by
                rcases Nat.lt_or_ge j i with h1 | h1
                · exact hq.out.2.2.2.1 j h1
                · obtain rfl : j = i := by omega
                  rw [HY2.out, hxy]
              have HQ1 := Lib.hid (And.intro hq1 hq.out); clear hq1 hxy
              gi_wp2
              gi_roundg (gk - 1)
              case measure => have := HQ1.out.2.2.2.1; omega
              case rel => exact ⟨i + 1, by go_num, by omega, by omega, by have := HQ1.out.2.2.2.1; omega, HQ1.out.1, HQ1.out.2.2.2.2.2.drewN _⟩
            | false =>
              have hxy : ¬ y = c := celEq_false.1 HEQ.out
              have hrun : IsRun c 2 m i := ⟨hq.out.2.2.2.1, by rw [HY2.out]; intro h; injection h with h; exact hxy h⟩
              have HRUN := Lib.hid hrun; clear hrun hxy
              have HX := Lib.hid (hq.out.2.2.2.2.drewN nq)
              generalize (World.drewN _ nq) = wx at HX ⊢
              have hiu := HRUN.out.unique (runN_is c 2 m (by decide))
              have hrr := right_run c m hin.out.2.2.1 i (by rw [HK.out]; exact HRUN.out.1)
              rw [HK.out] at hrr
              have hrc : runsL m = (i, c) :: runsL (m.drop (i * 2)) := by
                have := runsL_cons c t
                rw [HM.out.1, HK.out, ← hiu] at this
                exact this
              have hpre : (pre ++ [(i, c)]) ++ runsL (m.drop (i * 2)) = runsL row := by
                rw [← hin.out.2.2.2.1, hrc, List.append_assoc]; rfl
              have hpl : ∃ rest, runsL row = pre ++ (i, c) :: rest := ⟨runsL (m.drop (i * 2)), by rw [← hin.out.2.2.2.1, hrc]⟩
              have hjx := HJ.out.1 _ _ _ H2.out.2 HX.out
              have hbx := (HX.out.block Bn (Array.getElem?_eq_some_iff.1 H2.out.1).1).trans H2.out.1
              have hile : i * 2 ≤ L := by rw [← HM.out.2]; exact hrr.1
              have HP := Lib.hid (And.intro hrr (And.intro hpre (And.intro hpl (And.intro hjx hbx)))); clear hiu hrr hrc hpre hpl hjx hbx
              have bc := (box_cell HP.out.2.2.2.2).1
              have hcx := HC0.out.ext (HJ.out.2.1 _ _ HP.out.2.2.2.1)
              obtain ⟨fn, tmps, assign, body, hy, hR⟩ := HY.out pre (i, c) wx HP.out.2.2.2.1 HP.out.2.2.1
              obtain ⟨q0, q1, q2, q3⟩ := hcx.all4
              clear hcx
              dsimp only [runV, Cel.val] at hy
              gi_wp2
              refine ⟨fun _ => by omega, hR.mono ?_⟩
              rintro e W3 ⟨rfl, hj3, hb3⟩
              have hb3' := hb3.trans HP.out.2.2.2.2
              have bc3 := (box_cell hb3').1
              have bf3 := (box_cell hb3').2
              have H3 := Lib.hid (And.intro hb3' hj3); clear hb3' hj3 hb3 hR hy q0 q1 q2 q3 bc
              gi_wp2
              all_goals
                have hl3 : (m.drop (i * 2)).length = L - i * 2 := by rw [List.length_drop, HM.out.2]
                have HL3 := Lib.hid hl3; clear hl3
                gi_roundg (go - 1)
                case measure => have := HGO.out; have := hq.out.1; have := hin.out.1; omega
                case rel =>
                  refine ⟨pre ++ [(i, c)], m.drop (i * 2), _, ?_, ?_, HP.out.1.2, HP.out.2.1, set_box H3.out.1 _, ?_, HJ.out.2.2.2 _ _ _ _ H3.out.2 H3.out.1⟩
                  · rw [HL3.out]; have := HGO.out; have := hq.out.1; have := hin.out.1; omega
                  · rw [HL3.out]; have := hin.out.2.1; omega
                  · first
                    | (have h5 := hin.out.2.2.2.2.2.1.drop (i * 2) (by rw [HM.out.2]; exact hile)
                       rw [HM.out.2] at h5
                       simpa using h5)
                    | (have h6 : m.drop (i * 2) = [] := List.eq_nil_of_length_eq_zero (by rw [HL3.out]; omega)
                       rw [h6]
                       first | rw [show L - i * 2 = 0 by omega] | rw [show L - i = 0 by omega]
                       exact cells_nothing _ _ _ (fun e => by cases e))
          · have hd : decide ((i : Int) * 2 < (L : Int)) = false := by simp; omega
            have hrun : IsRun c 2 m i := ⟨hq.out.2.2.2.1, by rw [List.getElem?_eq_none (by rw [HM.out.2]; omega)]; simp⟩
            have HRUN := Lib.hid hrun; clear hrun
            have hd2 : decide (i * 2 < L) = false := by simp; omega
            have HLT := Lib.hid hlt; clear hlt
            have hw1 : IntKind.i64.wrap (i : Int) = i := by rw [IntKind.wrap_i64]; omega
            gi_wp2_with fail
            refine wpIn_wide.2 ?_
            go_quiet (fail)
            have HX := Lib.hid (hq.out.2.2.2.2.drewN nq)
            generalize (World.drewN _ nq) = wx at HX ⊢
            clear bq hd hd2 hw1
            have hiu := HRUN.out.unique (runN_is c 2 m (by decide))
            have hrr := right_run c m hin.out.2.2.1 i (by rw [HK.out]; exact HRUN.out.1)
            rw [HK.out] at hrr
            have hrc : runsL m = (i, c) :: runsL (m.drop (i * 2)) := by
              have := runsL_cons c t
              rw [HM.out.1, HK.out, ← hiu] at this
              exact this
            have hpre : (pre ++ [(i, c)]) ++ runsL (m.drop (i * 2)) = runsL row := by
              rw [← hin.out.2.2.2.1, hrc, List.append_assoc]; rfl
            have hpl : ∃ rest, runsL row = pre ++ (i, c) :: rest := ⟨runsL (m.drop (i * 2)), by rw [← hin.out.2.2.2.1, hrc]⟩
            have hjx := HJ.out.1 _ _ _ H2.out.2 HX.out
            have hbx := (HX.out.block Bn (Array.getElem?_eq_some_iff.1 H2.out.1).1).trans H2.out.1
            have hile : i * 2 ≤ L := by rw [← HM.out.2]; exact hrr.1
            have HP := Lib.hid (And.intro hrr (And.intro hpre (And.intro hpl (And.intro hjx hbx)))); clear hiu hrr hrc hpre hpl hjx hbx
            have bc := (box_cell HP.out.2.2.2.2).1
            have hcx := HC0.out.ext (HJ.out.2.1 _ _ HP.out.2.2.2.1)
            obtain ⟨fn, tmps, assign, body, hy, hR⟩ := HY.out pre (i, c) wx HP.out.2.2.2.1 HP.out.2.2.1
            obtain ⟨q0, q1, q2, q3⟩ := hcx.all4
            clear hcx
            dsimp only [runV, Cel.val] at hy
            gi_wp2
            refine ⟨fun _ => by omega, hR.mono ?_⟩
            rintro e W3 ⟨rfl, hj3, hb3⟩
            have hb3' := hb3.trans HP.out.2.2.2.2
            have bc3 := (box_cell hb3').1
            have bf3 := (box_cell hb3').2
            have H3 := Lib.hid (And.intro hb3' hj3); clear hb3' hj3 hb3 hR hy q0 q1 q2 q3 bc
            gi_wp2
            all_goals
              have hl3 : (m.drop (i * 2)).length = L - i * 2 := by rw [List.length_drop, HM.out.2]
              have HL3 := Lib.hid hl3; clear hl3
              gi_roundg (go - 1)
              case measure => have := HGO.out; have := hq.out.1; have := hin.out.1; omega
              case rel =>
                refine ⟨pre ++ [(i, c)], m.drop (i * 2), _, ?_, ?_, HP.out.1.2, HP.out.2.1, set_box H3.out.1 _, ?_, HJ.out.2.2.2 _ _ _ _ H3.out.2 H3.out.1⟩
                · rw [HL3.out]; have := HGO.out; have := hq.out.1; have := hin.out.1; omega
                · rw [HL3.out]; have := hin.out.2.1; omega
                · first
                  | (have h5 := hin.out.2.2.2.2.2.1.drop (i * 2) (by rw [HM.out.2]; exact hile)
                     rw [HM.out.2] at h5
                     simpa using h5)
                  | (have h6 : m.drop (i * 2) = [] := List.eq_nil_of_length_eq_zero (by rw [HL3.out]; omega)
                     rw [h6]
                     first | rw [show L - i * 2 = 0 by omega] | rw [show L - i = 0 by omega]
                     exact cells_nothing _ _ _ (fun e => by cases e))
end Go.Proofs.YtcmllaeihnmkkaaDoor
