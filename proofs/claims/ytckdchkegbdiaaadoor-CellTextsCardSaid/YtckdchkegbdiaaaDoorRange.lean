/- A loop over an iterator that keeps a variable of its own in memory, and whose rounds all go on: the iterator's contract is asked at the loop's own invariant alone. -/
import Derived.RangeFuncNested
import Derived.RangeFuncBound
import Derived.RangeFuncCalls
import Derived.RangeFuncLeaves
import Derived.Test.YtckdchkegbdiaaaDoorOnly
namespace Go.Proofs.YtckdchkegbdiaaaDoor
open Go Go.RowKit

/-- What is no cells, and lies from block B on, lies as it lay. -/
def Held (B : Nat) (W W' : World) : Prop := ∀ (k : Nat) (o : Obj), B ≤ k → W.heap[k]? = some o → o.isCells = false → W'.heap[k]? = some o
theorem Held.refl (B : Nat) (W : World) : Held B W W := fun _ _ _ h _ => h
theorem Held.trans {B : Nat} {U V W : World} (h : Held B U V) (k : Held B V W) : Held B U W := fun i o hi ho hc => k i o hi (h i o hi ho hc) hc
theorem Held.ext {B : Nat} {U V : World} (h : Ext U V) : Held B U V := fun k _ _ ho _ => (h.block k (Array.getElem?_eq_some_iff.1 ho).1).trans ho
theorem Held.only {B d : Nat} {U V : World} (h : Only d U V) (hd : d < B) : Held B U V := fun k _ hk ho _ => (h.block k (by omega) (Array.getElem?_eq_some_iff.1 ho).1).trans ho

section
variable {F : Fence} {n : Nat} {P : Program}
theorem wpIn_range_on {α : Type} {g : Operand} {ps : Array Tmp} {assign body : Code} {Q : Exit → Act → World → Prop} {a : Act} {w : World}
    (hro : F.round = none) (h1 : 1 ≤ n) {gf : Nat} {lb : Array Value} (hg : a.eval g = .func (.func gf) #[] lb) (hFg : F.fn gf) (eg : ∀ args w, (callFunc gf args).run P w = .ok (.enter gf args) w)
    (encs : α → Array Value) (hps : ∀ x, (encs x).size = ps.size) (xs : List α)
    (Kp : World → World → Prop) (hKt : ∀ A B C, Kp A B → Kp B C → Kp A C) (hKb : ∀ (W : World) (k : Nat) (o' : Obj), w.heap.size ≤ k → Kp W (W.putObj k o'))
    (I : List α → World → Prop) (M : List α → α → Act → World → Prop)
    (hI : ∀ pre W k o o', I pre W → w.heap.size ≤ k → W.heap[k]? = some o → o.isCells = false → I pre (W.putObj k o'))
    (hM : ∀ pre x a' W k o o', M pre x a' W → w.heap.size ≤ k → W.heap[k]? = some o → o.isCells = false → M pre x a' (W.putObj k o'))
    (h0 : ∀ o1 o2, I [] ((w.alloc o1).alloc o2))
    (hseq : ∀ (l : Nat) (R : World → Prop) (W : World), Ext w W → (∀ A A', R A → Held w.heap.size A A' → R A') →
      (∀ pre x W1, I pre W1 → R W1 → (∃ rest, xs = pre ++ x :: rest) → YieldAt F (n - 1 - 1) P l (encs x) W1 fun e W' => e = .returned (.bool true) ∧ I (pre ++ [x]) W' ∧ R W' ∧ Kp W1 W') → I [] W → R W →
      CallsIn F (n - 1) P gf (#[.func (.yield l) #[] #[]] ++ lb) W fun e W' => (∃ v, e = .returned v) ∧ I xs W' ∧ R W')
    (hassign : ∀ (l : Nat) (pre : List α) (x : α) (W : World), I pre W → (∃ rest, xs = pre ++ x :: rest) →
      assign.wpIn (F.inRound l) (n - 1 - 1) P (Exit.then (fun a' W' => Held w.heap.size W W' ∧ Kp W W' ∧ M pre x a' W') (fun _ _ _ => False)) { tmps := (ps.zip (encs x)).foldl (fun t (p, v) => t.setIfInBounds p v) a.tmps, defers := [] } W)
    (hbody : ∀ (l : Nat) (pre : List α) (x : α) (a' : Act) (W : World), M pre x a' W → (∃ rest, xs = pre ++ x :: rest) →
      body.wpIn (F.inRound l) (n - 1 - 1) P (fun e _ W' => e = .normal ∧ Held w.heap.size W W' ∧ Kp W W' ∧ I (pre ++ [x]) W') a' W)
    (hdone : ∀ (D : Nat) (W : World), w.heap.size ≤ D → I xs W → W.heap[D]? = some (.deferred (some [])) → Q .normal { a with defers := { target := .collected D, args := #[] } :: a.defers } W) :
    (Code.rangeFunc g ps assign body).wpIn F n P Q a w := by
  refine wpIn_rangeFunc ?_
  intro fn hfn
  rw [hro]
  obtain ⟨rec, hrec⟩ : ∃ rec : LoopState → Loop, rec = fun st => { state := st, pending := none, fn, tmps := a.tmps, params := ps, assign, body, defers := w.heap.size } := ⟨_, rfl⟩
  obtain ⟨W1, hW1⟩ : ∃ W1, (w.alloc (.deferred (some []))).alloc (.loop (rec .ready)) = W1 := ⟨_, rfl⟩
  have hL1 : W1.heap[w.heap.size + 1]? = some (.loop (rec .ready)) := by
    rw [← hW1]; have := World.alloc_heap_new (w.alloc (.deferred (some []))) (.loop (rec .ready)); rwa [World.size_alloc] at this
  have hK1 : W1.heap[w.heap.size]? = some (.deferred (some [])) := by
    rw [← hW1]; exact (Below.heap_alloc _ _ _ (by simp)).trans (World.alloc_heap_new w _)
  refine ⟨w.heap.size + 1, [{ target := .collected w.heap.size, args := #[] }], W1, { target := .fn (.func gf) lb, args := #[.func (.yield (w.heap.size + 1)) #[] #[]] }, W1, gf,
    #[.func (.yield (w.heap.size + 1)) #[] #[]] ++ lb, W1, ?_, ?_, ?_, ?_, fun _ => h1, ?_⟩
  · rw [← hW1, hrec]; exact run_enterLoop_outer _ _ _ _ _
  · simp only [resolve, hg]
    simp [go_sem]
  · intro f' hf'; simp [Target.leads] at hf'; subst hf'; exact hFg
  · simp [invoke, go_sem, eg]
  · refine (hseq (w.heap.size + 1) (fun W => W.heap[w.heap.size + 1]? = some (.loop (rec .ready)) ∧ W.heap[w.heap.size]? = some (.deferred (some []))) W1
      (by rw [← hW1]; exact ((Ext.refl w).alloc _).alloc _)
      (fun A A' hR hx => ⟨hx _ _ (by omega) hR.1 rfl, hx _ _ (Nat.le_refl _) hR.2 rfl⟩) ?_ (by rw [← hW1]; exact h0 _ _) ⟨hL1, hK1⟩).mono ?_
    · rintro pre x W hi ⟨hl, hk⟩ hlen
      have hy := run_yield (P := P) (args := encs x) hl (by rw [hrec]; exact hps x)
      rw [hrec] at hy
      refine ⟨fn, _, assign, body, hy, roundIn_of_wpIn hfn (wpIn_mono (hassign _ pre x W hi hlen) ?_)⟩
      rintro e a' W2 he
      cases e with
      | normal =>
        obtain ⟨hx2, hp2, hm⟩ := he
        have hl2 := hx2 _ _ (by omega) hl rfl
        have hk2 := hx2 _ _ (Nat.le_refl _) hk rfl
        have hlt2 : w.heap.size + 1 < W2.heap.size := (Array.getElem?_eq_some_iff.1 hl2).1
        refine ⟨_, run_beginRound hl2 (by rw [hrec]), ?_⟩
        have hl3 : (W2.putObj (w.heap.size + 1) (.loop { rec .ready with state := .busy })).heap[w.heap.size + 1]? = some (.loop { rec .ready with state := .busy }) := World.putObj_heap_same hlt2
        have hk3 : (W2.putObj (w.heap.size + 1) (.loop { rec .ready with state := .busy })).heap[w.heap.size]? = some (.deferred (some [])) := (World.putObj_heap_other (by omega)).trans hk2
        refine wpIn_mono (hbody _ pre x a' _ (hM _ _ _ _ _ _ _ hm (by omega) hl2 rfl) hlen) ?_
        rintro e a3 W3 ⟨rfl, hx3, hp3, hi3⟩
        have hl4 := hx3 _ _ (by omega) hl3 rfl
        have hk4 := hx3 _ _ (Nat.le_refl _) hk3 rfl
        have hr := run_endRound (P := P) none hl4
        have hlt4 : w.heap.size + 1 < W3.heap.size := (Array.getElem?_eq_some_iff.1 hl4).1
        refine ⟨_, _, hr, rfl, hI _ _ _ _ _ hi3 (by omega) hl4 rfl, ⟨?_, (World.putObj_heap_other (by omega)).trans hk4⟩, hKt _ _ _ (hKt _ _ _ (hKt _ _ _ hp2 (hKb _ _ _ (by omega))) hp3) (hKb _ _ _ (by omega))⟩
        rw [World.putObj_heap_same hlt4, hrec]
        rfl
      | _ => exact he.elim
    · rintro e W2 ⟨⟨v, rfl⟩, hi, hl, hk⟩
      have he := run_endLoop (P := P) hl (by rw [hrec]; simp)
      refine ⟨none, _, by rw [hrec] at he; exact he, ?_⟩
      exact hdone _ _ (Nat.le_refl _) (hI _ _ _ _ _ hi (by omega) hl rfl) ((World.putObj_heap_other (by omega)).trans hk)
end
end Go.Proofs.YtckdchkegbdiaaaDoor
