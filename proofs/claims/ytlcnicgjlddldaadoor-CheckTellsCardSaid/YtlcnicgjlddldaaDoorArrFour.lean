/- An argument of four bytes, opened; it reads behind the call as it did. -/
import Derived.Test.YtlcnicgjlddldaaDoorShut
import Derived.Test.YtlcnicgjlddldaaDoorProg
import Derived.WalkKit
import Derived.ProofKit
import Derived.OpenShut
import Derived.ChangeMaps5
import Derived.WideKeyArgs
import Derived.ChangeArms
namespace Go.Proofs.YtlcnicgjlddldaaDoor
open Go Go.ChangeShapes Go.WideShapes Go.ChangeAt Go.RowKit

theorem cellsFour : Tryd.prog.cellsOf 61 = 4 := by kernel_rfl
theorem cellsByte : Tryd.prog.cellsOf 5 = 1 := by kernel_rfl
theorem readFour : Tryd.prog.readableRec 61 = true := by kernel_rfl
theorem laidOut4 : laidOutB Tryd.prog = true := by kernel_rfl
theorem typesSize4 : Tryd.prog.types.size = 191 := by kernel_rfl
theorem wf_u8 {n : Int} (h : (Lit.int .u8 n).wf = true) : 0 ≤ n ∧ n < 256 := by
  have h' : (decide (IntKind.u8.min ≤ n) && decide (n ≤ IntKind.u8.max)) = true := h
  have e1 : IntKind.u8.min = 0 := by decide
  have e2 : IntKind.u8.max = 255 := by decide
  rw [e1, e2] at h'
  simp at h'
  omega
theorem ext_same4 {w w' : World} (hx : Ext w w') {p : MemPlace} (hp : p.block < w.heap.size) : w.sameAt w' p := by
  cases p with
  | cell b o => exact World.cell?_of_block (Below.block hx b hp)
  | map b => exact Below.block hx b hp
set_option maxRecDepth 100000 in
theorem four_of {H : Type} {enc : TypeId × Value → H} {W : World} {r : Reach} {b0 : Nat} {v : Value} {d : DataW H} {p : List MemPlace} (hv : Value.okWide Tryd.prog W r b0 61 v) (h : DataW.Trod enc Tryd.prog W 0 (fun _ => true) true 61 v d p) :
    ∃ bf : Nat → Nat, v = .agg #[.int .u8 (bf 0), .int .u8 (bf 1), .int .u8 (bf 2), .int .u8 (bf 3)] ∧ ∀ i, bf i < 256 := by
  unfold Value.okWide at hv
  rw [Tryd.underlying61] at hv
  obtain ⟨cs, rfl, hz, _⟩ := hv
  rw [cellsFour] at hz
  obtain ⟨n, hn⟩ := h
  cases n with
  | zero => simp [DataW.trod] at hn
  | succ n =>
    unfold DataW.trod at hn
    rw [Tryd.underlying61] at hn
    obtain ⟨l, rfl⟩ : ∃ l : List Value, cs = l.toArray := ⟨cs.toList, by simp⟩
    match l, hz with
    | [a, b, c, e], _ =>
      simp only [Value.cells, cellsByte] at hn
      rw [if_pos (by rw [cellsFour]; rfl), Option.map_eq_some_iff] at hn
      obtain ⟨xs, hxs, _⟩ := hn
      rw [show List.range 4 = [0, 1, 2, 3] from rfl] at hxs
      simp only [List.mapM_cons, List.mapM_nil, Option.bind_eq_bind, Option.bind_eq_some_iff] at hxs
      obtain ⟨x0, t0, y0, ⟨x1, t1, y1, ⟨x2, t2, y2, ⟨x3, t3, _⟩, _⟩, _⟩, _⟩ := hxs
      obtain ⟨n0, e0, _, w0⟩ := DataW.trod_int Tryd.underlying5 t0
      obtain ⟨n1, e1, _, w1⟩ := DataW.trod_int Tryd.underlying5 t1
      obtain ⟨n2, e2, _, w2⟩ := DataW.trod_int Tryd.underlying5 t2
      obtain ⟨n3, e3, _, w3⟩ := DataW.trod_int Tryd.underlying5 t3
      have f0 : a = .int .u8 n0 := List.cons.inj e0 |>.1
      have f1 : b = .int .u8 n1 := List.cons.inj e1 |>.1
      have f2 : c = .int .u8 n2 := List.cons.inj e2 |>.1
      have f3 : e = .int .u8 n3 := List.cons.inj e3 |>.1
      subst f0 f1 f2 f3
      have b0 := wf_u8 w0
      have b1 := wf_u8 w1
      have b2 := wf_u8 w2
      have b3 := wf_u8 w3
      refine ⟨fun i => match i with | 0 => n0.toNat | 1 => n1.toNat | 2 => n2.toNat | 3 => n3.toNat | _ => 0, ?_, fun i => ?_⟩
      · show Value.agg #[.int .u8 n0, .int .u8 n1, .int .u8 n2, .int .u8 n3] = Value.agg #[.int .u8 (n0.toNat : Int), .int .u8 (n1.toNat : Int), .int .u8 (n2.toNat : Int), .int .u8 (n3.toNat : Int)]
        rw [Int.toNat_of_nonneg b0.1, Int.toNat_of_nonneg b1.1, Int.toNat_of_nonneg b2.1, Int.toNat_of_nonneg b3.1]
      · match i with
        | 0 => exact (show n0.toNat < 256 by omega)
        | 1 => exact (show n1.toNat < 256 by omega)
        | 2 => exact (show n2.toNat < 256 by omega)
        | 3 => exact (show n3.toNat < 256 by omega)
        | _ + 4 => exact (show 0 < 256 by omega)
theorem four_stays {H : Type} {enc : TypeId × Value → H} {W W' : World} {sp : Nat → Bool} {v : Value} {d : DataW H} {p : List MemPlace} (h : DataW.Trod enc Tryd.prog W 0 (fun _ => true) true 61 v d p) (hx : Ext W W') (hlt : ∀ q ∈ p, q.block < W.heap.size) (hsp : ∀ q ∈ p, sp q.block = true) :
    DataW.Trod enc Tryd.prog W' 0 sp true 61 v d p :=
  Go.WideElems.Trod_stays laidOut4 readFour (by rw [typesSize4]; decide) h (fun q hq => ext_same4 hx (hlt q hq)) hsp
end Go.Proofs.YtlcnicgjlddldaaDoor
