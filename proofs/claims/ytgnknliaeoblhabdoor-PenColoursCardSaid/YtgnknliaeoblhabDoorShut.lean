/- The end of a row's proof where of the world behind the call 'Ext' alone is known, and the row's specification hands the arguments back and reads no variable. -/
import Derived.Test.YtgnknliaeoblhabDoorKit
import Derived.ChangeSame
namespace Go.Proofs.YtgnknliaeoblhabDoor
open Go Go.RowKit Go.WideShapes Go.ChangeShapes

theorem wf_i64 {n : Int} (h : (Lit.int .i64 n).wf = true) : -9223372036854775808 ≤ n ∧ n ≤ 9223372036854775807 := by
  have h' : (decide (IntKind.i64.min ≤ n) && decide (n ≤ IntKind.i64.max)) = true := h
  have e1 : IntKind.i64.min = -9223372036854775808 := by decide
  have e2 : IntKind.i64.max = 9223372036854775807 := by decide
  rw [e1, e2] at h'
  simpa using h'

theorem post_of_ext {H : Type} {enc : TypeId × Value → H} {P : Program} {f : Func} {s : ChangeSpec} {a1 a2 a3 : Bool} {W W' : World} {args : Array Value} {v : Value} {ds : List (DataW H)} {ps : List MemPlace}
    (hs : s.vars = []) (hsv : (s.fn H (ds ++ [])).vars = [])
    (hW : DataW.Whole enc P f.params.toList s.vars a1 W args.toList ds [] ps)
    (hr : ∀ (b : Nat) (sp : Nat → Bool) (hd : Bool), DataW.TrodAll enc P W' b sp hd f.resultTypes.toList (v.resultList f.resultTypes.size) (s.fn H (ds ++ [])).results [])
    (ha : ∀ sp : Nat → Bool, (∀ p ∈ ps, sp p.block = true) → DataW.TrodAll enc P W' 0 sp true f.params.toList args.toList (s.fn H (ds ++ [])).args ps)
    (hx : Ext W W') :
    s.post enc P f a1 a2 a3 false W args v W' := by
  have hb : Below W.heap.size W W' := hx
  have hnil : ∀ sp : Nat → Bool, DataW.TrodVars enc P W' sp s.vars (s.fn H (ds ++ [])).vars [] := by
    intro sp; rw [hs, hsv]; rfl
  have hin : ∀ p ∈ ps, (fun k => decide (k < W.heap.size)) p.block = true := fun p hp => by simpa using hW.lt p hp
  exact ⟨ds, [], ps, [], ps, [], hW, hr _ _ _, ha _ hin, hnil _, World.keptBut_mono (fun p hp => ⟨hp, .inr (.inl hp)⟩) (hb.frame (· ∈ ps)), fun h => by cases h⟩
end Go.Proofs.YtgnknliaeoblhabDoor
