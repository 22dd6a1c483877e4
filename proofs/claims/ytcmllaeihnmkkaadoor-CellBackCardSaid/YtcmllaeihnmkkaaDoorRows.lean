/-
  NARROWER THAN 'FOR EVERY INPUT', by the rows' own cells (each row's printed sentence says how): CellReads: laid · CellBack: laid · GridPlays: laid · GridTells: laid · GridBeside: laid · GridScrolls: laid · GridLays: laid · GridPuts: laid.
  DERIVED. THE GIVEN ROWS OF THIS SEAT. 8 by the template 'for every input the law returns true; each argument reads behind the call as it read before'; 0 by the template 'total and deterministic' (their statements: YtcmllaeihnmkkaaDoorTotals.lean).
  GIVEN WITH THE SEED: the statements are not yours to turn. If you find one false, say at which input.
  Laid BY PROGRAM, IN A SANDBOX (cutbox-rows.mjs): the forced cells as the released guide's own fill.sh prints them over the translation 1341f3610287b101… (all of the seat's roots in one cut). By AI agents, Wed Nov 11 2026. No macro, syntax, notation, axiom, sorry.
-/
import Derived.Test.YtcmllaeihnmkkaaDoorChecked
import GoSem.Claim
import GoSem.ClaimJoined
import GoSem.ClaimMapViews
import Derived.JoinedTies
import Derived.KernelRfl
namespace Go.Proofs.YtcmllaeihnmkkaaDoor
/- THE CELL 'sum', in the pinned program and in every row, IS THE sha256 OF THE DUMP (.gsa) THAT YtcmllaeihnmkkaaDoorProg.lean LOADS. Nothing in Lean hashes anything: it is a label: what it is worth is what the hold of that sum in a sandbox is worth. -/
noncomputable def Tryd.pinned : Pinned := { name := "ytcmllaeihnmkkaadoor", sum := "1341f3610287b101536abbd2956784f6094d8076b64e9f985c83f69768a3f152", checked := Tryd.checked }
namespace Rows
def none {H : Type} : Left H := { results := [], args := [] }

/- WHAT THE LISTED PACKAGE-LEVEL VARIABLES READ AS WHEN THE CALL BEGINS. Each datum BY PROGRAM (the guide's laid-datum.mjs) off the statement by which the dump's own 'gosem.cut.vars' lays the variable. In a bare row this is a premise. The card (YtcmllaeihnmkkaaDoorCards.lean) ties it to the program's text. -/
def laid_lyceum_runes_spans {H : Type} : DataW H := .agg [.agg [.lit (.int .i32 (-2147483648)), .lit (.int .i32 31), .lit (.int .i64 0)], .agg [.lit (.int .i32 127), .lit (.int .i32 159), .lit (.int .i64 0)], .agg [.lit (.int .i32 768), .lit (.int .i32 879), .lit (.int .i64 0)], .agg [.lit (.int .i32 4352), .lit (.int .i32 4447), .lit (.int .i64 2)], .agg [.lit (.int .i32 8203), .lit (.int .i32 8207), .lit (.int .i64 0)], .agg [.lit (.int .i32 11904), .lit (.int .i32 12350), .lit (.int .i64 2)], .agg [.lit (.int .i32 12353), .lit (.int .i32 42191), .lit (.int .i64 2)], .agg [.lit (.int .i32 44032), .lit (.int .i32 55203), .lit (.int .i64 2)], .agg [.lit (.int .i32 55296), .lit (.int .i32 57343), .lit (.int .i64 0)], .agg [.lit (.int .i32 63744), .lit (.int .i32 64255), .lit (.int .i64 2)], .agg [.lit (.int .i32 65024), .lit (.int .i32 65039), .lit (.int .i64 0)], .agg [.lit (.int .i32 65072), .lit (.int .i32 65135), .lit (.int .i64 2)], .agg [.lit (.int .i32 65281), .lit (.int .i32 65376), .lit (.int .i64 2)], .agg [.lit (.int .i32 65504), .lit (.int .i32 65510), .lit (.int .i64 2)], .agg [.lit (.int .i32 127744), .lit (.int .i32 128591), .lit (.int .i64 2)], .agg [.lit (.int .i32 129280), .lit (.int .i32 129535), .lit (.int .i64 2)], .agg [.lit (.int .i32 131072), .lit (.int .i32 262141), .lit (.int .i64 2)], .agg [.lit (.int .i32 1114112), .lit (.int .i32 2147483647), .lit (.int .i64 0)]]
def laid_errors_errorType {H : Type} : DataW H := .iface "internal/reflectlite.rtype" (.agg [.ptr (.lit (.string [101, 114, 114, 111, 114]))])

/-- 'lyceumlaw05.CellReads': WHATEVER THE INPUT: true; the input reads as it did. -/
def cellReadsSpec : ChangeSpec := { name := "cellReads", fn := fun _ => fun
  | [d1, d2, d3] => { results := [.lit (.bool true)], args := [d1, d2, d3] }
  | _ => none }
def cellReadsRow : OpenClaim := { program := "ytcmllaeihnmkkaadoor", sum := "1341f3610287b101536abbd2956784f6094d8076b64e9f985c83f69768a3f152", func := "lyceum/lyceumlaw05.CellReads", spec := "cellReads", inPlace := ["internal/abi.NoEscape", "internal/reflectlite.ValueOf", "(internal/reflectlite.Value).Type", "(internal/reflectlite.Value).IsNil", "internal/reflectlite.TypeOf", "(internal/reflectlite.Value).Elem", "(internal/reflectlite.Value).Set"], unfollowed := true, recurses := true, named := ["lyceum/runes.spans", "errors.errorType"], apart := false, laid := [("lyceum/runes.spans", laid_lyceum_runes_spans), ("errors.errorType", laid_errors_errorType)] }
def CellReadsSaid : Prop := cellReadsRow.holds Tryd.pinned (OpenSpec.ofChange cellReadsSpec)

/-- ITS FALSE NEIGHBOUR: 'it returns false'. Refute it at one input. -/
def cellReadsWrong : ChangeSpec := { name := "cellReads", fn := fun _ => fun
  | [d1, d2, d3] => { results := [.lit (.bool false)], args := [d1, d2, d3] }
  | _ => none }
def CellReadsWrongFalsely : Prop := cellReadsRow.holds Tryd.pinned (OpenSpec.ofChange cellReadsWrong)

/-- 'lyceumlaw05.CellBack': WHATEVER THE INPUT: true; the input reads as it did. -/
def cellBackSpec : ChangeSpec := { name := "cellBack", fn := fun _ => fun
  | [d1, d2] => { results := [.lit (.bool true)], args := [d1, d2] }
  | _ => none }
def cellBackRow : OpenClaim := { program := "ytcmllaeihnmkkaadoor", sum := "1341f3610287b101536abbd2956784f6094d8076b64e9f985c83f69768a3f152", func := "lyceum/lyceumlaw05.CellBack", spec := "cellBack", inPlace := ["internal/abi.NoEscape", "internal/reflectlite.ValueOf", "(internal/reflectlite.Value).Type", "(internal/reflectlite.Value).IsNil", "internal/reflectlite.TypeOf", "(internal/reflectlite.Value).Elem", "(internal/reflectlite.Value).Set"], unfollowed := true, recurses := true, named := ["lyceum/runes.spans", "errors.errorType"], apart := false, laid := [("lyceum/runes.spans", laid_lyceum_runes_spans), ("errors.errorType", laid_errors_errorType)] }
def CellBackSaid : Prop := cellBackRow.holds Tryd.pinned (OpenSpec.ofChange cellBackSpec)

/-- ITS FALSE NEIGHBOUR: 'it returns false'. Refute it at one input. -/
def cellBackWrong : ChangeSpec := { name := "cellBack", fn := fun _ => fun
  | [d1, d2] => { results := [.lit (.bool false)], args := [d1, d2] }
  | _ => none }
def CellBackWrongFalsely : Prop := cellBackRow.holds Tryd.pinned (OpenSpec.ofChange cellBackWrong)

/-- 'lyceumlaw06.GridPlays': WHATEVER THE INPUT: true; the input reads as it did. -/
def gridPlaysSpec : ChangeSpec := { name := "gridPlays", fn := fun _ => fun
  | [d1, d2] => { results := [.lit (.bool true)], args := [d1, d2] }
  | _ => none }
def gridPlaysRow : OpenClaim := { program := "ytcmllaeihnmkkaadoor", sum := "1341f3610287b101536abbd2956784f6094d8076b64e9f985c83f69768a3f152", func := "lyceum/lyceumlaw06.GridPlays", spec := "gridPlays", unfollowed := true, recurses := true, named := ["lyceum/runes.spans"], apart := false, laid := [("lyceum/runes.spans", laid_lyceum_runes_spans)] }
def GridPlaysSaid : Prop := gridPlaysRow.holds Tryd.pinned (OpenSpec.ofChange gridPlaysSpec)

/-- ITS FALSE NEIGHBOUR: 'it returns false'. Refute it at one input. -/
def gridPlaysWrong : ChangeSpec := { name := "gridPlays", fn := fun _ => fun
  | [d1, d2] => { results := [.lit (.bool false)], args := [d1, d2] }
  | _ => none }
def GridPlaysWrongFalsely : Prop := gridPlaysRow.holds Tryd.pinned (OpenSpec.ofChange gridPlaysWrong)

/-- 'lyceumlaw06.GridTells': WHATEVER THE INPUT: true; the input reads as it did. -/
def gridTellsSpec : ChangeSpec := { name := "gridTells", fn := fun _ => fun
  | [d1, d2, d3] => { results := [.lit (.bool true)], args := [d1, d2, d3] }
  | _ => none }
def gridTellsRow : OpenClaim := { program := "ytcmllaeihnmkkaadoor", sum := "1341f3610287b101536abbd2956784f6094d8076b64e9f985c83f69768a3f152", func := "lyceum/lyceumlaw06.GridTells", spec := "gridTells", unfollowed := true, recurses := true, named := ["lyceum/runes.spans"], apart := false, laid := [("lyceum/runes.spans", laid_lyceum_runes_spans)] }
def GridTellsSaid : Prop := gridTellsRow.holds Tryd.pinned (OpenSpec.ofChange gridTellsSpec)

/-- ITS FALSE NEIGHBOUR: 'it returns false'. Refute it at one input. -/
def gridTellsWrong : ChangeSpec := { name := "gridTells", fn := fun _ => fun
  | [d1, d2, d3] => { results := [.lit (.bool false)], args := [d1, d2, d3] }
  | _ => none }
def GridTellsWrongFalsely : Prop := gridTellsRow.holds Tryd.pinned (OpenSpec.ofChange gridTellsWrong)

/-- 'lyceumlaw06.GridBeside': WHATEVER THE INPUT: true; the input reads as it did. -/
def gridBesideSpec : ChangeSpec := { name := "gridBeside", fn := fun _ => fun
  | [d1, d2, d3] => { results := [.lit (.bool true)], args := [d1, d2, d3] }
  | _ => none }
def gridBesideRow : OpenClaim := { program := "ytcmllaeihnmkkaadoor", sum := "1341f3610287b101536abbd2956784f6094d8076b64e9f985c83f69768a3f152", func := "lyceum/lyceumlaw06.GridBeside", spec := "gridBeside", unfollowed := true, recurses := true, named := ["lyceum/runes.spans"], apart := false, laid := [("lyceum/runes.spans", laid_lyceum_runes_spans)] }
def GridBesideSaid : Prop := gridBesideRow.holds Tryd.pinned (OpenSpec.ofChange gridBesideSpec)

/-- ITS FALSE NEIGHBOUR: 'it returns false'. Refute it at one input. -/
def gridBesideWrong : ChangeSpec := { name := "gridBeside", fn := fun _ => fun
  | [d1, d2, d3] => { results := [.lit (.bool false)], args := [d1, d2, d3] }
  | _ => none }
def GridBesideWrongFalsely : Prop := gridBesideRow.holds Tryd.pinned (OpenSpec.ofChange gridBesideWrong)

/-- 'lyceumlaw06.GridScrolls': WHATEVER THE INPUT: true; the input reads as it did. -/
def gridScrollsSpec : ChangeSpec := { name := "gridScrolls", fn := fun _ => fun
  | [d1, d2] => { results := [.lit (.bool true)], args := [d1, d2] }
  | _ => none }
def gridScrollsRow : OpenClaim := { program := "ytcmllaeihnmkkaadoor", sum := "1341f3610287b101536abbd2956784f6094d8076b64e9f985c83f69768a3f152", func := "lyceum/lyceumlaw06.GridScrolls", spec := "gridScrolls", unfollowed := true, recurses := true, named := ["lyceum/runes.spans"], apart := false, laid := [("lyceum/runes.spans", laid_lyceum_runes_spans)] }
def GridScrollsSaid : Prop := gridScrollsRow.holds Tryd.pinned (OpenSpec.ofChange gridScrollsSpec)

/-- ITS FALSE NEIGHBOUR: 'it returns false'. Refute it at one input. -/
def gridScrollsWrong : ChangeSpec := { name := "gridScrolls", fn := fun _ => fun
  | [d1, d2] => { results := [.lit (.bool false)], args := [d1, d2] }
  | _ => none }
def GridScrollsWrongFalsely : Prop := gridScrollsRow.holds Tryd.pinned (OpenSpec.ofChange gridScrollsWrong)

/-- 'lyceumlaw06.GridLays': WHATEVER THE INPUT: true; the input reads as it did. -/
def gridLaysSpec : ChangeSpec := { name := "gridLays", fn := fun _ => fun
  | [d1, d2, d3] => { results := [.lit (.bool true)], args := [d1, d2, d3] }
  | _ => none }
def gridLaysRow : OpenClaim := { program := "ytcmllaeihnmkkaadoor", sum := "1341f3610287b101536abbd2956784f6094d8076b64e9f985c83f69768a3f152", func := "lyceum/lyceumlaw06.GridLays", spec := "gridLays", unfollowed := true, recurses := true, named := ["lyceum/runes.spans"], apart := false, laid := [("lyceum/runes.spans", laid_lyceum_runes_spans)] }
def GridLaysSaid : Prop := gridLaysRow.holds Tryd.pinned (OpenSpec.ofChange gridLaysSpec)

/-- ITS FALSE NEIGHBOUR: 'it returns false'. Refute it at one input. -/
def gridLaysWrong : ChangeSpec := { name := "gridLays", fn := fun _ => fun
  | [d1, d2, d3] => { results := [.lit (.bool false)], args := [d1, d2, d3] }
  | _ => none }
def GridLaysWrongFalsely : Prop := gridLaysRow.holds Tryd.pinned (OpenSpec.ofChange gridLaysWrong)

/-- 'lyceumlaw06.GridPuts': WHATEVER THE INPUT: true; the input reads as it did. -/
def gridPutsSpec : ChangeSpec := { name := "gridPuts", fn := fun _ => fun
  | [d1, d2, d3] => { results := [.lit (.bool true)], args := [d1, d2, d3] }
  | _ => none }
def gridPutsRow : OpenClaim := { program := "ytcmllaeihnmkkaadoor", sum := "1341f3610287b101536abbd2956784f6094d8076b64e9f985c83f69768a3f152", func := "lyceum/lyceumlaw06.GridPuts", spec := "gridPuts", unfollowed := true, recurses := true, named := ["lyceum/runes.spans"], apart := false, laid := [("lyceum/runes.spans", laid_lyceum_runes_spans)] }
def GridPutsSaid : Prop := gridPutsRow.holds Tryd.pinned (OpenSpec.ofChange gridPutsSpec)

/-- ITS FALSE NEIGHBOUR: 'it returns false'. Refute it at one input. -/
def gridPutsWrong : ChangeSpec := { name := "gridPuts", fn := fun _ => fun
  | [d1, d2, d3] => { results := [.lit (.bool false)], args := [d1, d2, d3] }
  | _ => none }
def GridPutsWrongFalsely : Prop := gridPutsRow.holds Tryd.pinned (OpenSpec.ofChange gridPutsWrong)

/- THE SECOND FORM. 'bulk': how many values and letters a reading holds, each counted each time it is reached (what is shared counts as often as it is met; a slice's spare places count too). A statement '..UptoSaid' is the law's where the arguments, and the package variables that the reading takes, are together of bulk at most 1048576: NARROWER than '..Said'. Prove '..Said' where nothing that the law and all that it calls make is longer than what came in: it says more and counts as full. Else prove '..UptoSaid'. A law counts once. -/
mutual
def uptoBulk {H : Type} : DataW H → Nat
  | .lit (.string bytes) => bytes.length + 1
  | .lit _ => 1
  | .nil => 1
  | .ptr d => uptoBulk d + 1
  | .slice elems spare => uptoBulkAll elems + uptoBulkAll spare + 1
  | .agg parts => uptoBulkAll parts + 1
  | .iface _ d => uptoBulk d + 1
  | .map entries => uptoBulkEntries entries + 1
  | .held _ => 1
def uptoBulkAll {H : Type} : List (DataW H) → Nat
  | [] => 0
  | d :: r => uptoBulk d + uptoBulkAll r
def uptoBulkEntries {H : Type} : List (Lit × DataW H) → Nat
  | [] => 0
  | x :: r => uptoBulkEntry x + uptoBulkEntries r
def uptoBulkEntry {H : Type} : Lit × DataW H → Nat
  | (.string bytes, d) => bytes.length + uptoBulk d + 1
  | (_, d) => uptoBulk d + 1
 end
def uptoSmall : (H : Type) → List (DataW H) → Bool := fun _ ds => decide (uptoBulkAll ds ≤ 1048576)
def OpenSpec.upto (s : _root_.Go.ChangeSpec) : _root_.Go.OpenSpec := { _root_.Go.OpenSpec.ofChange s with cond := some uptoSmall }

/-- 'lyceumlaw05.CellReads', WHERE WHAT IT READS IS OF BULK AT MOST 1048576: true; the input reads as it did. -/
def cellReadsUptoRow : OpenClaim := { program := "ytcmllaeihnmkkaadoor", sum := "1341f3610287b101536abbd2956784f6094d8076b64e9f985c83f69768a3f152", func := "lyceum/lyceumlaw05.CellReads", spec := "cellReads", inPlace := ["internal/abi.NoEscape", "internal/reflectlite.ValueOf", "(internal/reflectlite.Value).Type", "(internal/reflectlite.Value).IsNil", "internal/reflectlite.TypeOf", "(internal/reflectlite.Value).Elem", "(internal/reflectlite.Value).Set"], unfollowed := true, recurses := true, named := ["lyceum/runes.spans", "errors.errorType"], apart := false, laid := [("lyceum/runes.spans", laid_lyceum_runes_spans), ("errors.errorType", laid_errors_errorType)], narrowed := true }
def CellReadsUptoSaid : Prop := cellReadsUptoRow.holds Tryd.pinned (OpenSpec.upto cellReadsSpec)

/-- 'lyceumlaw05.CellBack', WHERE WHAT IT READS IS OF BULK AT MOST 1048576: true; the input reads as it did. -/
def cellBackUptoRow : OpenClaim := { program := "ytcmllaeihnmkkaadoor", sum := "1341f3610287b101536abbd2956784f6094d8076b64e9f985c83f69768a3f152", func := "lyceum/lyceumlaw05.CellBack", spec := "cellBack", inPlace := ["internal/abi.NoEscape", "internal/reflectlite.ValueOf", "(internal/reflectlite.Value).Type", "(internal/reflectlite.Value).IsNil", "internal/reflectlite.TypeOf", "(internal/reflectlite.Value).Elem", "(internal/reflectlite.Value).Set"], unfollowed := true, recurses := true, named := ["lyceum/runes.spans", "errors.errorType"], apart := false, laid := [("lyceum/runes.spans", laid_lyceum_runes_spans), ("errors.errorType", laid_errors_errorType)], narrowed := true }
def CellBackUptoSaid : Prop := cellBackUptoRow.holds Tryd.pinned (OpenSpec.upto cellBackSpec)

/-- 'lyceumlaw06.GridPlays', WHERE WHAT IT READS IS OF BULK AT MOST 1048576: true; the input reads as it did. -/
def gridPlaysUptoRow : OpenClaim := { program := "ytcmllaeihnmkkaadoor", sum := "1341f3610287b101536abbd2956784f6094d8076b64e9f985c83f69768a3f152", func := "lyceum/lyceumlaw06.GridPlays", spec := "gridPlays", unfollowed := true, recurses := true, named := ["lyceum/runes.spans"], apart := false, laid := [("lyceum/runes.spans", laid_lyceum_runes_spans)], narrowed := true }
def GridPlaysUptoSaid : Prop := gridPlaysUptoRow.holds Tryd.pinned (OpenSpec.upto gridPlaysSpec)

/-- 'lyceumlaw06.GridTells', WHERE WHAT IT READS IS OF BULK AT MOST 1048576: true; the input reads as it did. -/
def gridTellsUptoRow : OpenClaim := { program := "ytcmllaeihnmkkaadoor", sum := "1341f3610287b101536abbd2956784f6094d8076b64e9f985c83f69768a3f152", func := "lyceum/lyceumlaw06.GridTells", spec := "gridTells", unfollowed := true, recurses := true, named := ["lyceum/runes.spans"], apart := false, laid := [("lyceum/runes.spans", laid_lyceum_runes_spans)], narrowed := true }
def GridTellsUptoSaid : Prop := gridTellsUptoRow.holds Tryd.pinned (OpenSpec.upto gridTellsSpec)

/-- 'lyceumlaw06.GridBeside', WHERE WHAT IT READS IS OF BULK AT MOST 1048576: true; the input reads as it did. -/
def gridBesideUptoRow : OpenClaim := { program := "ytcmllaeihnmkkaadoor", sum := "1341f3610287b101536abbd2956784f6094d8076b64e9f985c83f69768a3f152", func := "lyceum/lyceumlaw06.GridBeside", spec := "gridBeside", unfollowed := true, recurses := true, named := ["lyceum/runes.spans"], apart := false, laid := [("lyceum/runes.spans", laid_lyceum_runes_spans)], narrowed := true }
def GridBesideUptoSaid : Prop := gridBesideUptoRow.holds Tryd.pinned (OpenSpec.upto gridBesideSpec)

/-- 'lyceumlaw06.GridScrolls', WHERE WHAT IT READS IS OF BULK AT MOST 1048576: true; the input reads as it did. -/
def gridScrollsUptoRow : OpenClaim := { program := "ytcmllaeihnmkkaadoor", sum := "1341f3610287b101536abbd2956784f6094d8076b64e9f985c83f69768a3f152", func := "lyceum/lyceumlaw06.GridScrolls", spec := "gridScrolls", unfollowed := true, recurses := true, named := ["lyceum/runes.spans"], apart := false, laid := [("lyceum/runes.spans", laid_lyceum_runes_spans)], narrowed := true }
def GridScrollsUptoSaid : Prop := gridScrollsUptoRow.holds Tryd.pinned (OpenSpec.upto gridScrollsSpec)

/-- 'lyceumlaw06.GridLays', WHERE WHAT IT READS IS OF BULK AT MOST 1048576: true; the input reads as it did. -/
def gridLaysUptoRow : OpenClaim := { program := "ytcmllaeihnmkkaadoor", sum := "1341f3610287b101536abbd2956784f6094d8076b64e9f985c83f69768a3f152", func := "lyceum/lyceumlaw06.GridLays", spec := "gridLays", unfollowed := true, recurses := true, named := ["lyceum/runes.spans"], apart := false, laid := [("lyceum/runes.spans", laid_lyceum_runes_spans)], narrowed := true }
def GridLaysUptoSaid : Prop := gridLaysUptoRow.holds Tryd.pinned (OpenSpec.upto gridLaysSpec)

/-- 'lyceumlaw06.GridPuts', WHERE WHAT IT READS IS OF BULK AT MOST 1048576: true; the input reads as it did. -/
def gridPutsUptoRow : OpenClaim := { program := "ytcmllaeihnmkkaadoor", sum := "1341f3610287b101536abbd2956784f6094d8076b64e9f985c83f69768a3f152", func := "lyceum/lyceumlaw06.GridPuts", spec := "gridPuts", unfollowed := true, recurses := true, named := ["lyceum/runes.spans"], apart := false, laid := [("lyceum/runes.spans", laid_lyceum_runes_spans)], narrowed := true }
def GridPutsUptoSaid : Prop := gridPutsUptoRow.holds Tryd.pinned (OpenSpec.upto gridPutsSpec)

end Rows
end Go.Proofs.YtcmllaeihnmkkaaDoor
