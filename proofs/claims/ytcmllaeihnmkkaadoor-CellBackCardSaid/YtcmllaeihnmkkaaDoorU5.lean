/- errors.As at the target *api.Errno: the closed facts on reflectlite's entries (after the guide's ToyasAs). · slices.Clone of a list of errors; what a row unwraps to. · errors.As(err, *api.Errno) at a fault: the first code. · What the laid variables hold, and that it stays so. -/
import Derived.Test.YtcmllaeihnmkkaaDoorU1
import Derived.Test.YtcmllaeihnmkkaaDoorU4
import Derived.Laws.Externs
import Derived.Stop.Asserts
import Derived.Laws.AppendOwn
import Derived.Laws.OwnMore
import Derived.OwnWalk
import Derived.Deep.LoopGhost
import Derived.Lib.Builder
import Derived.Test.YtcmllaeihnmkkaaDoorProg
import Derived.Lib.LaidTab
import Derived.Lib.ItoaNum
import Derived.KernelRfl
namespace Go.Proofs.YtcmllaeihnmkkaaDoor
open Go Go.RowKit Go.Extern

theorem rlm (z : Sem Value) (f : TypeId → Addr → Nat → Nat → Sem Value) (v : Value) :
    ReflectliteValue.method z f #[v] = (do match ← ReflectliteValue.parts v with | none => z | some (t, a, fl) => f t a fl (fl % 32)) := rfl
theorem rls (v x : Value) : ReflectliteValue.set #[v, x] = (do
    let (some (dst, a, fl), some (src, b, _)) := (← ReflectliteValue.parts v, ← ReflectliteValue.parts x)
      | unsupported (.noEntry "extern/(internal/reflectlite.Value).Set.zeroValue")
    if fl / ReflectliteValue.flagAddr % 2 == 0 then unsupported (.noEntry "extern/(internal/reflectlite.Value).Set.unaddressable")
    let val ← loadVar src b
    if ← Rtype.directlyAssignable dst src then storeVar dst a val
    else if ← Rtype.implements dst src then
      if (← Rtype.kind src) == 20 then
        match val with
        | .nilIface => unsupported (.noEntry "extern/reflectlite: a nil value of one interface type handed on as a value of another")
        | _ => storeVar dst a val
      else storeVar dst a (.iface src val)
    else panicString ("reflectlite.Set: value of type " ++ (← Rtype.spelt src) ++ " is not assignable to type " ++ (← Rtype.spelt dst))
    pure (.tuple #[])) := rfl

/-! The target: *api.Errno; its element: api.Errno. -/
theorem valueOfT (t : Addr) (w : World) : (ReflectliteValue.unpack (.iface 100 (.pointer (some t)))).run Tryd.prog w
    = .ok (.agg #[.pointer (some ⟨2, 100, none⟩), .pointer (some ⟨w.heap.size, 0, none⟩), .int .u64 150]) (w.alloc (.cells #[.pointer (some t)] 100)) := by kernel_rfl
theorem typeT (a : Addr) (w : World) : (ReflectliteValue.methodAny (ReflectliteValue.valueError "reflectlite.Value.Type" 0) (fun t _ _ _ => ReflectliteType.toType t) #[.agg #[.pointer (some ⟨2, 100, none⟩), .pointer (some a), .int .u64 150]]).run Tryd.prog w
    = .ok (.iface 179 (.agg #[.pointer (some ⟨2, 100, none⟩)])) w := by kernel_rfl
theorem methodKind (h : Value) (w : World) : (Go.method 329 179 (.agg #[h]) "Kind").run Tryd.prog w = .ok (159, h) w := by kernel_rfl
theorem methodElem (h : Value) (w : World) : (Go.method 329 179 (.agg #[h]) "Elem").run Tryd.prog w = .ok (178, .agg #[h]) w := by kernel_rfl
theorem methodImplements (h : Value) (w : World) : (Go.method 329 179 (.agg #[h]) "Implements").run Tryd.prog w = .ok (179, .agg #[h]) w := by kernel_rfl
theorem methodAssignableTo (h : Value) (w : World) : (Go.method 329 179 (.agg #[h]) "AssignableTo").run Tryd.prog w = .ok (176, .agg #[h]) w := by kernel_rfl
theorem kindT (w : World) : ((ReflectliteType.abiMethod fun t => (fun a : Nat => Value.int IntKind.u8 (a : Int)) <$> Rtype.kind t) #[.pointer (some ⟨2, 100, none⟩)]).run Tryd.prog w = .ok (.int .u8 22) w := by kernel_rfl
theorem kindE (w : World) : ((ReflectliteType.abiMethod fun t => (fun a : Nat => Value.int IntKind.u8 (a : Int)) <$> Rtype.kind t) #[.pointer (some ⟨2, 34, none⟩)]).run Tryd.prog w = .ok (.int .u8 2) w := by kernel_rfl
theorem partsT (a : Addr) (w : World) : (ReflectliteValue.parts (.agg #[.pointer (some ⟨2, 100, none⟩), .pointer (some a), .int .u64 150])).run Tryd.prog w = .ok (some (100, a, 150)) w := by kernel_rfl
theorem isNilT (a p : Addr) (W : World) (ha : W.cell? a = some (.pointer (some p))) :
    (ReflectliteValue.method (ReflectliteValue.valueError "reflectlite.Value.IsNil" 0) ReflectliteValue.isNil #[.agg #[.pointer (some ⟨2, 100, none⟩), .pointer (some a), .int .u64 150]]).run Tryd.prog W = .ok (.bool false) W := by
  rw [rlm]
  simp only [Sem.run_bind, partsT, Result.andThen]
  simp [ReflectliteValue.isNil, loadVar, isAgg, underlying, Tryd.underlying100, ha, Result.andThen]
theorem elemTypeT (w : World) : (ReflectliteType.method ReflectliteType.elem #[.agg #[.pointer (some ⟨2, 100, none⟩)]]).run Tryd.prog w = .ok (.iface 179 (.agg #[.pointer (some ⟨2, 34, none⟩)])) w := by kernel_rfl
theorem implementsE (w : World) : (ReflectliteType.relation "Implements" ReflectliteType.implements_ #[.agg #[.pointer (some ⟨2, 34, none⟩)], .iface 179 (.agg #[.pointer (some ⟨2, 43, none⟩)])]).run Tryd.prog w = .ok (.bool true) w := by kernel_rfl
theorem typeOfE (v : Value) (w : World) : (ReflectliteType.typeOf #[.iface 34 v]).run Tryd.prog w = .ok (.iface 179 (.agg #[.pointer (some ⟨2, 34, none⟩)])) w := by kernel_rfl
theorem typeOfP (v : Value) (w : World) : (ReflectliteType.typeOf #[.iface 143 v]).run Tryd.prog w = .ok (.iface 179 (.agg #[.pointer (some ⟨2, 143, none⟩)])) w := by kernel_rfl
theorem typeOfW (v : Value) (w : World) : (ReflectliteType.typeOf #[.iface 145 v]).run Tryd.prog w = .ok (.iface 179 (.agg #[.pointer (some ⟨2, 145, none⟩)])) w := by kernel_rfl
theorem typeOfR (v : Value) (w : World) : (ReflectliteType.typeOf #[.iface 146 v]).run Tryd.prog w = .ok (.iface 179 (.agg #[.pointer (some ⟨2, 146, none⟩)])) w := by kernel_rfl
theorem assignEE (w : World) : (ReflectliteType.relation "AssignableTo" ReflectliteType.assignableTo #[.agg #[.pointer (some ⟨2, 34, none⟩)], .iface 179 (.agg #[.pointer (some ⟨2, 34, none⟩)])]).run Tryd.prog w = .ok (.bool true) w := by kernel_rfl
theorem assignPE (w : World) : (ReflectliteType.relation "AssignableTo" ReflectliteType.assignableTo #[.agg #[.pointer (some ⟨2, 143, none⟩)], .iface 179 (.agg #[.pointer (some ⟨2, 34, none⟩)])]).run Tryd.prog w = .ok (.bool false) w := by kernel_rfl
theorem assignWE (w : World) : (ReflectliteType.relation "AssignableTo" ReflectliteType.assignableTo #[.agg #[.pointer (some ⟨2, 145, none⟩)], .iface 179 (.agg #[.pointer (some ⟨2, 34, none⟩)])]).run Tryd.prog w = .ok (.bool false) w := by kernel_rfl
theorem assignRE (w : World) : (ReflectliteType.relation "AssignableTo" ReflectliteType.assignableTo #[.agg #[.pointer (some ⟨2, 146, none⟩)], .iface 179 (.agg #[.pointer (some ⟨2, 34, none⟩)])]).run Tryd.prog w = .ok (.bool false) w := by kernel_rfl
theorem valueOfE (c : Int) (w : World) : (ReflectliteValue.unpack (.iface 34 (.int .i64 c))).run Tryd.prog w
    = .ok (.agg #[.pointer (some ⟨2, 34, none⟩), .pointer (some ⟨w.heap.size, 0, none⟩), .int .u64 130]) (w.alloc (.cells #[.int .i64 c] 34)) := by kernel_rfl
theorem elemOfT (w : World) : (Rtype.elem? 100).run Tryd.prog w = .ok (some 34) w := by kernel_rfl
theorem mkE (p : Addr) (w : World) : (ReflectliteValue.mk 34 p ReflectliteValue.flagAddr).run Tryd.prog w = .ok (.agg #[.pointer (some ⟨2, 34, none⟩), .pointer (some p), .int .u64 386]) w := by kernel_rfl
theorem elemVT (a p : Addr) (W : World) (ha : W.cell? a = some (.pointer (some p))) :
    (ReflectliteValue.method (ReflectliteValue.valueError "reflectlite.Value.Elem" 0) ReflectliteValue.elem #[.agg #[.pointer (some ⟨2, 100, none⟩), .pointer (some a), .int .u64 150]]).run Tryd.prog W
      = .ok (.agg #[.pointer (some ⟨2, 34, none⟩), .pointer (some p), .int .u64 386]) W := by
  rw [rlm]
  simp only [Sem.run_bind, partsT, Result.andThen]
  simp [ReflectliteValue.elem, loadVar, isAgg, underlying, Tryd.underlying100, ha, Result.andThen, elemOfT, mkE]
theorem partsEa (a : Addr) (w : World) : (ReflectliteValue.parts (.agg #[.pointer (some ⟨2, 34, none⟩), .pointer (some a), .int .u64 386])).run Tryd.prog w = .ok (some (34, a, 386)) w := by kernel_rfl
theorem partsE (a : Addr) (w : World) : (ReflectliteValue.parts (.agg #[.pointer (some ⟨2, 34, none⟩), .pointer (some a), .int .u64 130])).run Tryd.prog w = .ok (some (34, a, 130)) w := by kernel_rfl
theorem directE (w : World) : (Rtype.directlyAssignable 34 34).run Tryd.prog w = .ok true w := by kernel_rfl
theorem setE (ta b : Addr) (c : Int) (old : Value) (W : World) (hb : W.cell? b = some (.int .i64 c)) (ht : W.cell? ta = some old) (hf : W.frozen? ta = false) :
    (ReflectliteValue.set #[.agg #[.pointer (some ⟨2, 34, none⟩), .pointer (some ta), .int .u64 386], .agg #[.pointer (some ⟨2, 34, none⟩), .pointer (some b), .int .u64 130]]).run Tryd.prog W
      = .ok (.tuple #[]) (W.setCell ta (.int .i64 c)) := by
  rw [rls]
  simp only [Sem.run_bind, partsEa, partsE, Result.andThen]
  simp [ReflectliteValue.flagAddr, loadVar, isAgg, underlying, Tryd.underlying34, hb, Result.andThen, directE, storeVar, Value.cells, storeCells, Addr.add]
  rw [run_store Tryd.prog W ta _ _ (by rfl)]
  simp [ht, hf]

/-! The calls of body-less functions. -/
theorem callValueOf (args : Array Value) (w : World) : (callFunc 114 args).run Tryd.prog w = (((fun args => ReflectliteValue.unpack (args.getD 0 (.tuple #[])))) args |>.run Tryd.prog w).andThen fun v w' => .ok (.value v) w' := @run_callFunc_extern Tryd.prog 114 _ ((fun args => ReflectliteValue.unpack (args.getD 0 (.tuple #[])))) Tryd.func114 (by kernel_rfl) (by kernel_rfl) (by kernel_rfl) (by kernel_rfl) args w
theorem callType (args : Array Value) (w : World) : (callFunc 115 args).run Tryd.prog w = (((ReflectliteValue.methodAny (ReflectliteValue.valueError "reflectlite.Value.Type" 0) (fun t _ _ _ => ReflectliteType.toType t))) args |>.run Tryd.prog w).andThen fun v w' => .ok (.value v) w' := @run_callFunc_extern Tryd.prog 115 _ ((ReflectliteValue.methodAny (ReflectliteValue.valueError "reflectlite.Value.Type" 0) (fun t _ _ _ => ReflectliteType.toType t))) Tryd.func115 (by kernel_rfl) (by kernel_rfl) (by kernel_rfl) (by kernel_rfl) args w
theorem callIsNil (args : Array Value) (w : World) : (callFunc 116 args).run Tryd.prog w = (((ReflectliteValue.method (ReflectliteValue.valueError "reflectlite.Value.IsNil" 0) ReflectliteValue.isNil)) args |>.run Tryd.prog w).andThen fun v w' => .ok (.value v) w' := @run_callFunc_extern Tryd.prog 116 _ ((ReflectliteValue.method (ReflectliteValue.valueError "reflectlite.Value.IsNil" 0) ReflectliteValue.isNil)) Tryd.func116 (by kernel_rfl) (by kernel_rfl) (by kernel_rfl) (by kernel_rfl) args w
theorem callKind (args : Array Value) (w : World) : (callFunc 159 args).run Tryd.prog w = (((ReflectliteType.abiMethod fun t => do pure (.int .u8 (← Rtype.kind t)))) args |>.run Tryd.prog w).andThen fun v w' => .ok (.value v) w' := @run_callFunc_extern Tryd.prog 159 _ ((ReflectliteType.abiMethod fun t => do pure (.int .u8 (← Rtype.kind t)))) Tryd.func159 (by kernel_rfl) (by kernel_rfl) (by kernel_rfl) (by kernel_rfl) args w
theorem callTElem (args : Array Value) (w : World) : (callFunc 178 args).run Tryd.prog w = (((ReflectliteType.method ReflectliteType.elem)) args |>.run Tryd.prog w).andThen fun v w' => .ok (.value v) w' := @run_callFunc_extern Tryd.prog 178 _ ((ReflectliteType.method ReflectliteType.elem)) Tryd.func178 (by kernel_rfl) (by kernel_rfl) (by kernel_rfl) (by kernel_rfl) args w
theorem callImplements (args : Array Value) (w : World) : (callFunc 179 args).run Tryd.prog w = (((ReflectliteType.relation "Implements" ReflectliteType.implements_)) args |>.run Tryd.prog w).andThen fun v w' => .ok (.value v) w' := @run_callFunc_extern Tryd.prog 179 _ ((ReflectliteType.relation "Implements" ReflectliteType.implements_)) Tryd.func179 (by kernel_rfl) (by kernel_rfl) (by kernel_rfl) (by kernel_rfl) args w
theorem callTypeOf (args : Array Value) (w : World) : (callFunc 133 args).run Tryd.prog w = ((ReflectliteType.typeOf) args |>.run Tryd.prog w).andThen fun v w' => .ok (.value v) w' := @run_callFunc_extern Tryd.prog 133 _ (ReflectliteType.typeOf) Tryd.func133 (by kernel_rfl) (by kernel_rfl) (by kernel_rfl) (by kernel_rfl) args w
theorem callAssignableTo (args : Array Value) (w : World) : (callFunc 176 args).run Tryd.prog w = (((ReflectliteType.relation "AssignableTo" ReflectliteType.assignableTo)) args |>.run Tryd.prog w).andThen fun v w' => .ok (.value v) w' := @run_callFunc_extern Tryd.prog 176 _ ((ReflectliteType.relation "AssignableTo" ReflectliteType.assignableTo)) Tryd.func176 (by kernel_rfl) (by kernel_rfl) (by kernel_rfl) (by kernel_rfl) args w
theorem callElem (args : Array Value) (w : World) : (callFunc 134 args).run Tryd.prog w = (((ReflectliteValue.method (ReflectliteValue.valueError "reflectlite.Value.Elem" 0) ReflectliteValue.elem)) args |>.run Tryd.prog w).andThen fun v w' => .ok (.value v) w' := @run_callFunc_extern Tryd.prog 134 _ ((ReflectliteValue.method (ReflectliteValue.valueError "reflectlite.Value.Elem" 0) ReflectliteValue.elem)) Tryd.func134 (by kernel_rfl) (by kernel_rfl) (by kernel_rfl) (by kernel_rfl) args w
theorem callSet (args : Array Value) (w : World) : (callFunc 135 args).run Tryd.prog w = ((ReflectliteValue.set) args |>.run Tryd.prog w).andThen fun v w' => .ok (.value v) w' := @run_callFunc_extern Tryd.prog 135 _ (ReflectliteValue.set) Tryd.func135 (by kernel_rfl) (by kernel_rfl) (by kernel_rfl) (by kernel_rfl) args w

/-! Type assertions of errors.as and errors.is, and what 'Unwrap' is. -/
theorem ta_E_As (v : Value) (w : World) : (Instr.typeAssert (.iface 34 v) 43 184 true).run Tryd.prog w = .ok (.tuple #[.nilIface, .bool false]) w := run_typeAssert_lacksB Tryd.underlying184 (by kernel_rfl) (by kernel_rfl) v 43 w
theorem ta_E_U1 (v : Value) (w : World) : (Instr.typeAssert (.iface 34 v) 43 173 true).run Tryd.prog w = .ok (.tuple #[.nilIface, .bool false]) w := run_typeAssert_lacksB Tryd.underlying173 (by kernel_rfl) (by kernel_rfl) v 43 w
theorem ta_E_UN (v : Value) (w : World) : (Instr.typeAssert (.iface 34 v) 43 175 true).run Tryd.prog w = .ok (.tuple #[.nilIface, .bool false]) w := run_typeAssert_lacksB Tryd.underlying175 (by kernel_rfl) (by kernel_rfl) v 43 w
theorem ta_P_As (v : Value) (w : World) : (Instr.typeAssert (.iface 143 v) 43 184 true).run Tryd.prog w = .ok (.tuple #[.nilIface, .bool false]) w := run_typeAssert_lacksB Tryd.underlying184 (by kernel_rfl) (by kernel_rfl) v 43 w
theorem ta_P_U1 (v : Value) (w : World) : (Instr.typeAssert (.iface 143 v) 43 173 true).run Tryd.prog w = .ok (.tuple #[.iface 143 v, .bool true]) w := by kernel_rfl
theorem ta_P_UN (v : Value) (w : World) : (Instr.typeAssert (.iface 143 v) 43 175 true).run Tryd.prog w = .ok (.tuple #[.nilIface, .bool false]) w := run_typeAssert_lacksB Tryd.underlying175 (by kernel_rfl) (by kernel_rfl) v 43 w
theorem ta_W_As (v : Value) (w : World) : (Instr.typeAssert (.iface 145 v) 43 184 true).run Tryd.prog w = .ok (.tuple #[.nilIface, .bool false]) w := run_typeAssert_lacksB Tryd.underlying184 (by kernel_rfl) (by kernel_rfl) v 43 w
theorem ta_W_U1 (v : Value) (w : World) : (Instr.typeAssert (.iface 145 v) 43 173 true).run Tryd.prog w = .ok (.tuple #[.iface 145 v, .bool true]) w := by kernel_rfl
theorem ta_W_UN (v : Value) (w : World) : (Instr.typeAssert (.iface 145 v) 43 175 true).run Tryd.prog w = .ok (.tuple #[.nilIface, .bool false]) w := run_typeAssert_lacksB Tryd.underlying175 (by kernel_rfl) (by kernel_rfl) v 43 w
theorem ta_R_As (v : Value) (w : World) : (Instr.typeAssert (.iface 146 v) 43 184 true).run Tryd.prog w = .ok (.tuple #[.nilIface, .bool false]) w := run_typeAssert_lacksB Tryd.underlying184 (by kernel_rfl) (by kernel_rfl) v 43 w
theorem ta_R_U1 (v : Value) (w : World) : (Instr.typeAssert (.iface 146 v) 43 173 true).run Tryd.prog w = .ok (.tuple #[.nilIface, .bool false]) w := run_typeAssert_lacksB Tryd.underlying173 (by kernel_rfl) (by kernel_rfl) v 43 w
theorem ta_R_UN (v : Value) (w : World) : (Instr.typeAssert (.iface 146 v) 43 175 true).run Tryd.prog w = .ok (.tuple #[.iface 146 v, .bool true]) w := by kernel_rfl
theorem unwrapP (v : Value) (w : World) : (Go.method 329 143 v "Unwrap").run Tryd.prog w = .ok (166, v) w := by kernel_rfl
theorem unwrapW (v : Value) (w : World) : (Go.method 329 145 v "Unwrap").run Tryd.prog w = .ok (168, v) w := by kernel_rfl
theorem unwrapR (v : Value) (w : World) : (Go.method 329 146 v "Unwrap").run Tryd.prog w = .ok (170, v) w := by kernel_rfl
end Go.Proofs.YtcmllaeihnmkkaaDoor
namespace Go.Proofs.YtcmllaeihnmkkaaDoor
open Go Go.RowKit

theorem infoError : (Tryd.prog.info? 43).map (fun i => (i.zero, i.size, i.bytes)) = some (some .nilIface, 1, 16) := by kernel_rfl

theorem eql_errs_nil (a : Addr) (n c : Nat) (w : World) : (binOp .eql 140 (.slice (some a) n c) (.slice none 0 0)).run Tryd.prog w = .ok (.bool false) w := by kernel_rfl

set_option maxHeartbeats 1000000 in
set_option maxRecDepth 100000 in
theorem clone_errs (b off cap : Nat) (news : List Value) (w : World) (hb : news.length ≤ 1000000) (hn : ∀ (j : Nat) u, news[j]? = some u → w.cell? ⟨b, off + j, none⟩ = some u) (h1 : ∀ u ∈ news, u.oneCell' = true) :
    Calls Tryd.prog 171 #[.slice (some ⟨b, off, none⟩) news.length cap] w fun e w' => ∃ v, e = .returned v ∧ Ext w w' ∧ w'.ownsRow w.heap.size 43 1 v news.length news := by
  obtain ⟨i0, hi, hz0, hz1, hz2⟩ := info_parts infoError
  have HN := Lib.hid hn; clear hn
  have H1 := Lib.hid h1; clear h1
  have HI := Lib.hid (And.intro hi (And.intro hz0 (And.intro hz1 hz2))); clear hi hz0 hz1 hz2
  have hq := eql_errs_nil
  have hown0 : (w.alloc (.cells #[] 43)).ownsRow w.heap.size 43 1 (.slice (some ⟨w.heap.size, 0, none⟩) 0 0) 0 [] :=
    ⟨rfl, .inr ⟨w.heap.size, 0, #[], rfl, Nat.le_refl _, Go.heap_alloc_new w _, Nat.le_refl _, by unfold maxLen; omega, rfl, rfl⟩⟩
  have HO := Lib.hid hown0; clear hown0
  go_enter Tryd.func171, Tryd.ntmps171
  go_wp2_with (at_builtin; go_loud (refine wpList_append_own _ rfl _ _ 140 rfl w.heap.size 43 i0 .nilIface 1 16 Tryd.underlying140 HI.out.1 HI.out.2.1 HI.out.2.2.1 HI.out.2.2.2 rfl (by decide) _ 0 [] rfl HO.out ⟨b, off, none⟩ news.length cap news rfl (by simp) ?g1 H1.out (by unfold maxLen; omega) (by omega) (by simp) ?g2))
  case g1 =>
    intro j u hj
    have h := HN.out j u hj
    have hlt : b < w.heap.size := lt_of_cell h
    unfold Addr.add
    split
    · next h0 => subst h0; rw [World.cell?_alloc_lt _ _ _ hlt]; exact h
    · rw [World.cell?_alloc_lt _ _ _ hlt]; exact h
  case g2 =>
    intro v' w' hown' hgrow _
    go_wp2
    go_ret
    refine ⟨v', rfl, ?_, by simpa using hown'⟩
    exact Below.grown ((Below.refl w.heap.size w).alloc (Nat.le_refl _) _) hgrow (by simp) (fun k hk => by simp [Value.ownBlock] at hk; omega)
end Go.Proofs.YtcmllaeihnmkkaaDoor
namespace Go.Proofs.YtcmllaeihnmkkaaDoor
open Go Go.RowKit Go.Extern

theorem placed_Unwrap (u : TypeId) (x : Value) (p : Int) (b : Bool) (w : World) : Calls Tryd.prog 166 #[.agg #[.iface u x, .int .i64 p, .bool b]] w fun e w' => e = .returned (.iface u x) ∧ Ext w w' := by
  go_enter Tryd.func166, Tryd.ntmps166
  go_wp2
  go_ret
  exact ⟨rfl, (Ext.refl w).alloc _⟩
theorem worded_Unwrap (u : TypeId) (x : Value) (s : ByteArray) (b : Bool) (w : World) : Calls Tryd.prog 168 #[.agg #[.iface u x, .string s, .bool b]] w fun e w' => e = .returned (.iface u x) ∧ Ext w w' := by
  go_enter Tryd.func168, Tryd.ntmps168
  go_wp2
  go_ret
  exact ⟨rfl, (Ext.refl w).alloc _⟩
theorem row_key {w w' : World} {b off g : Nat} {news : List Value} {n : Nat} {cur : Array Value} {T : TypeId} {fr : Nat × Nat} (hl : news.length = n) (hn : ∀ (j : Nat) u, news[j]? = some u → w.cell? ⟨b, off + j, none⟩ = some u)
    (hg : w'.heap[g]? = some (.cells cur T fr)) (ht : cur.toList.take (news.length * 1) = news) (j : Nat) (y : Value) (hj : j < n) (hy : w.cell? ⟨b, off + j, none⟩ = some y) : w'.cell? ⟨g, 0 + j, none⟩ = some y := by
  have hjn : j < news.length := by omega
  have hnj : news[j]? = some news[j] := List.getElem?_eq_getElem hjn
  have hc := hn j _ hnj
  rw [hy] at hc
  have e1 : cur[j]? = news[j]? := by
    have e2 : (cur.toList.take (news.length * 1))[j]? = cur[j]? := by
      rw [List.getElem?_take, if_pos (by omega), Array.getElem?_toList]
    rw [← e2, ht]
  rw [Lib.cell_of_heap hg, Nat.zero_add, e1, hnj]
  exact hc.symm

set_option maxRecDepth 100000 in
theorem row_Unwrap2 (r b off cap : Nat) (ts : List Tr) (w : World) (h0 : w.cell? ⟨r, 0, none⟩ = some (.slice (some ⟨b, off, none⟩) ts.length cap)) (h1 : 1 ≤ ts.length) (hb : ts.length ≤ 1000000) (h : RepAll w b off ts) :
    Calls Tryd.prog 170 #[.pointer (some ⟨r, 0, none⟩)] w fun e w' => ∃ g cap', e = .returned (.slice (some ⟨g, 0, none⟩) ts.length cap') ∧ Ext w w' ∧ RepAll w' g 0 ts ∧ ∀ (j : Nat) y, j < ts.length → w.cell? ⟨b, off + j, none⟩ = some y → w'.cell? ⟨g, 0 + j, none⟩ = some y := by
  obtain ⟨news, hl, hn, h2⟩ := h.news
  have HN := Lib.hid hn
  have H2 := Lib.hid h2
  clear hn h2
  have hl' : ts.length = news.length := hl.symm
  rw [hl'] at h0
  have HL := Lib.hid hl
  clear hl hl'
  have H1 := Lib.hid h1
  clear h1
  have HR := Lib.hid h
  clear h
  go_enter Tryd.func170, Tryd.ntmps170
  go_wp2_with (go_at_call 171; refine (clone_errs _ _ _ _ _ (by have := HL.out; omega) HN.out H2.out).mono ?_)
  rintro e w' ⟨v, rfl, hx, hown⟩
  obtain ⟨hq, hv⟩ := hown
  clear hq
  rcases hv with ⟨hv0, hz⟩ | ⟨g, cap', cur, rfl, hg, hgk, hle, hmx, hcs, htk⟩
  · have := HL.out; have := H1.out; omega
  have HT := Lib.hid (And.intro hgk (And.intro htk hcs))
  clear hgk htk hcs
  go_wp2
  go_ret
  have key : ∀ (j : Nat) y, j < ts.length → w.cell? ⟨b, off + j, none⟩ = some y → w'.cell? ⟨g, 0 + j, none⟩ = some y := by
    intro j y hj hy
    exact row_key HL.out HN.out HT.out.1 HT.out.2.1 j y hj hy
  exact ⟨g, cap', by rw [HL.out]; rfl, hx, HR.out.copy hx key, key⟩
theorem row_Unwrap (r b off cap : Nat) (ts : List Tr) (w : World) (h0 : w.cell? ⟨r, 0, none⟩ = some (.slice (some ⟨b, off, none⟩) ts.length cap)) (h1 : 1 ≤ ts.length) (hb : ts.length ≤ 1000000) (h : RepAll w b off ts) :
    Calls Tryd.prog 170 #[.pointer (some ⟨r, 0, none⟩)] w fun e w' => ∃ g cap', e = .returned (.slice (some ⟨g, 0, none⟩) ts.length cap') ∧ Ext w w' ∧ RepAll w' g 0 ts :=
  (row_Unwrap2 r b off cap ts w h0 h1 hb h).mono fun _ _ ⟨g, c, h1, h2, h3, _⟩ => ⟨g, c, h1, h2, h3⟩

attribute [local go_sem] callValueOf callType callIsNil callKind callTElem callImplements callTypeOf callAssignableTo callElem callSet
attribute [local go_sem] ta_E_As ta_E_U1 ta_E_UN ta_P_As ta_P_U1 ta_P_UN ta_W_As ta_W_U1 ta_W_UN ta_R_As ta_R_U1 ta_R_UN unwrapP unwrapW unwrapR
attribute [local go_sem] typeOfE typeOfP typeOfW typeOfR assignEE assignPE assignWE assignRE valueOfE methodAssignableTo

set_option maxHeartbeats 4000000 in
set_option maxRecDepth 100000 in
theorem as_loop (n : Nat) (ih : ∀ (m : Nat) (t : Tr) (v : Value) (a ta : Addr) (old : Value) (w : World), m < n → t.sz ≤ m → Rep w t v → w.cell? a = some (.pointer (some ta)) → w.cell? ta = some old → w.frozen? ta = false →
      Calls Tryd.prog 117 #[v, .iface 100 (.pointer (some ta)), .agg #[.pointer (some ⟨2, 100, none⟩), .pointer (some a), .int .u64 150], .iface 179 (.agg #[.pointer (some ⟨2, 34, none⟩)])] w
        fun e w' => e = .returned (.bool true) ∧ ∃ w1, Ext w w1 ∧ w' = w1.setCell ta (.int .i64 t.codeOf))
    (t : Tr) (v : Value) (a ta : Addr) (old : Value) (w : World) (hn : t.sz ≤ n) (hr : Rep w t v) (ha : w.cell? a = some (.pointer (some ta))) (ht : w.cell? ta = some old) (hf : w.frozen? ta = false) :
      Calls Tryd.prog 117 #[v, .iface 100 (.pointer (some ta)), .agg #[.pointer (some ⟨2, 100, none⟩), .pointer (some a), .int .u64 150], .iface 179 (.agg #[.pointer (some ⟨2, 34, none⟩)])] w
        fun e w' => e = .returned (.bool true) ∧ ∃ w1, Ext w w1 ∧ w' = w1.setCell ta (.int .i64 t.codeOf) := by
  have IH := Lib.hid ih; clear ih
  go_enter Tryd.func117, Tryd.ntmps117
  go_wp2
  go_loopg [0] t.sz (fun k p wr => ∃ t' : Tr, Rep wr t' p ∧ t'.codeOf = t.codeOf ∧ t'.sz ≤ k ∧ t'.sz ≤ t.sz ∧ Ext (w.alloc (.cells #[.pointer (some ⟨2, 100, none⟩), .pointer (some a), .int .u64 150] 150)) wr)
  case atStart => exact ⟨t, hr.ext ((Ext.refl w).alloc _), rfl, Nat.le_refl _, Nat.le_refl _, Ext.refl _⟩
  case round =>
    obtain ⟨t', hr', hc, hk, hle, hx⟩ := hrel
    have hx0 : Ext w wr := Ext.trans ((Ext.refl w).alloc _) hx
    have hlt : w.heap.size < (w.alloc (.cells #[.pointer (some ⟨2, 100, none⟩), .pointer (some a), .int .u64 150] 150)).heap.size := by simp
    have b0 : wr.cell? ⟨w.heap.size, 0, none⟩ = some (.pointer (some ⟨2, 100, none⟩)) := hx.cell (by simp)
    have b1 : wr.cell? ⟨w.heap.size, 1, none⟩ = some (.pointer (some a)) := hx.cell (by simp)
    have b2 : wr.cell? ⟨w.heap.size, 2, none⟩ = some (.int .u64 150) := hx.cell (by simp)
    have ha' : wr.cell? a = some (.pointer (some ta)) := hx0.cell ha
    have ht' : wr.cell? ta = some old := hx0.cell ht
    have hf' : wr.frozen? ta = false := (hx0.frozen (lt_of_cell ht)).trans hf
    have HC := Lib.hid hc; clear hc
    have HK := Lib.hid (And.intro hk hle); clear hk hle
    clear hr ha ht hf
    cases t' with
    | code c =>
      obtain ⟨rfl, hc0, hc1, hc2⟩ := hr'
      have hlt' := lt_of_cell ht'
      have el := elemVT a ta wr ha'
      have st := setE ta ⟨wr.heap.size, 0, none⟩ c old (wr.alloc (.cells #[.int .i64 c] 34)) (by simp) (by rw [World.cell?_alloc_lt _ _ ta hlt']; exact ht') (by rw [World.frozen?_alloc_old _ _ ta (Nat.ne_of_lt hlt')]; exact hf')
      clear ha' ht' hf'
      go_wp2
      go_ret
      exact ⟨rfl, _, hx0.alloc _, by rw [← HC.out]; rfl⟩
    | place p t1 =>
      obtain ⟨u, x, rfl, _, h1⟩ := hr'
      clear ha' ht' hf'
      go_wp2_with (go_at_call 166; refine (placed_Unwrap _ _ _ _ _).mono ?_; rintro e w2 ⟨rfl, hx2⟩)
      go_roundg t1.sz
      case measure => have := HK.out.1; simp only [Tr.sz] at this; omega
      case rel => exact ⟨t1, h1.ext hx2, HC.out, Nat.le_refl _, by have := HK.out.2; simp only [Tr.sz] at this; omega, hx.trans hx2⟩
    | word s t1 =>
      obtain ⟨u, x, rfl, h1⟩ := hr'
      clear ha' ht' hf'
      go_wp2_with (go_at_call 168; refine (worded_Unwrap _ _ _ _ _).mono ?_; rintro e w2 ⟨rfl, hx2⟩)
      go_roundg t1.sz
      case measure => have := HK.out.1; simp only [Tr.sz] at this; omega
      case rel => exact ⟨t1, h1.ext hx2, HC.out, Nat.le_refl _, by have := HK.out.2; simp only [Tr.sz] at this; omega, hx.trans hx2⟩
    | row ts =>
      obtain ⟨r, b, off, cap, rfl, h0, h1, h2, h3, h4, hall⟩ := hr'
      have HA := Lib.hid (And.intro ha' (And.intro ht' hf')); clear ha' ht' hf'
      cases ts with
      | nil => simp at h2
      | cons t1 ts =>
      have H0 := Lib.hid (And.intro h0 (And.intro h1 (And.intro h3 hall))); clear h0 h1 h2 h3 h4 hall
      go_wp2_with (go_at_call 170; refine (row_Unwrap r b off cap (t1 :: ts) _ H0.out.1 (by simp) H0.out.2.2.1 H0.out.2.2.2).mono ?_; rintro e w2 ⟨g, cap', rfl, hx2, hall2⟩)
      have b0' := hx2.cell b0
      have b1' := hx2.cell b1
      have b2' := hx2.cell b2
      clear b0 b1 b2
      obtain ⟨⟨u, x, hcell, hrep⟩, hrest⟩ := hall2
      clear hrest
      have HR := Lib.hid hrep; clear hrep
      go_wp2
      refine wp_loop_rounds 1 ?_
      rw [rounds_succ]
      go_wp2_with (go_at_call 117; refine (IH.out t1.sz t1 _ a ta old w2 ?_ (Nat.le_refl _) HR.out (hx2.cell HA.out.1) (hx2.cell HA.out.2.1) ((hx2.frozen (lt_of_cell HA.out.2.1)).trans HA.out.2.2)).mono ?_)
      · have := HK.out.2; simp only [Tr.sz, szAll] at this; omega
      rintro e w3 ⟨rfl, w1, hx3, rfl⟩
      go_wp2
      go_ret
      exact ⟨rfl, w1, (hx0.trans hx2).trans hx3, by rw [← HC.out]; rfl⟩

/-- errors.as at a fault: true; the target holds the first code. -/
theorem as_rep : ∀ (n : Nat) (t : Tr) (v : Value) (a ta : Addr) (old : Value) (w : World), t.sz ≤ n → Rep w t v → w.cell? a = some (.pointer (some ta)) → w.cell? ta = some old → w.frozen? ta = false →
      Calls Tryd.prog 117 #[v, .iface 100 (.pointer (some ta)), .agg #[.pointer (some ⟨2, 100, none⟩), .pointer (some a), .int .u64 150], .iface 179 (.agg #[.pointer (some ⟨2, 34, none⟩)])] w
        fun e w' => e = .returned (.bool true) ∧ ∃ w1, Ext w w1 ∧ w' = w1.setCell ta (.int .i64 t.codeOf) := by
  intro n
  induction n using Nat.strongRecOn with
  | ind n ih =>
    intro t v a ta old w hn hr ha ht hf
    exact as_loop n (fun m t v a ta old w hm h1 h2 h3 h4 h5 => ih m hm t v a ta old w h1 h2 h3 h4 h5) t v a ta old w hn hr ha ht hf
end Go.Proofs.YtcmllaeihnmkkaaDoor
namespace Go.Proofs.YtcmllaeihnmkkaaDoor
open Go Go.RowKit

/-- errors.errorType: the handle of the type error. -/
def ErrType (w : World) : Prop := w.cell? ⟨0, 0, none⟩ = some (.iface 179 (.agg #[.pointer (some ⟨2, 43, none⟩)]))
theorem ErrType.ext {w w' : World} (h : ErrType w) (hx : Ext w w') : ErrType w' := hx.cell h
/-- The table of the powers of ten. -/
def Pow10 (w : World) : Prop := Lib.TabIs Tryd.prog w "internal/strconv.uint64pow10" .u64 Lib.pow10Tab
end Go.Proofs.YtcmllaeihnmkkaaDoor
