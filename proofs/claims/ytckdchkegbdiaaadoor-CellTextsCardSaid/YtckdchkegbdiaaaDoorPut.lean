/- Bytes are put, one number behind the other: nums.put, nums.Put. -/
import Derived.Test.YtckdchkegbdiaaaDoorFold
import Derived.Test.YtckdchkegbdiaaaDoorBts
import Derived.Maps.AppendAt
import Derived.Deep.AppendLies
import Derived.RegionTactic
import Derived.OwnWalk
import Derived.Laws.IdiomStrings
import Derived.Laws.BytesArg
namespace Go.Proofs.YtckdchkegbdiaaaDoor
open Go Go.RowKit

def cellsB (l : List UInt8) : List Value := l.map fun b => .int .u8 b.toNat
theorem cellsB_append (a b : List UInt8) : cellsB (a ++ b) = cellsB a ++ cellsB b := List.map_append
/-- A row of bytes of the call's own. -/
def OwnB (w : World) (base : Nat) (v : Value) (l : List UInt8) : Prop := w.ownsRow base 5 1 v l.length (cellsB l)
theorem cellsB_one (n : Nat) (h : n < 256) : cellsB [UInt8.ofNat n] = [.int .u8 n] := by
  simp only [cellsB, List.map_cons, List.map_nil, toNat_ofNat8 h]
theorem infoByteB : (Tryd.prog.info? 5).map (fun i => (i.zero, i.size, i.bytes)) = some (some (.int .u8 0), 1, 1) := by kernel_rfl
theorem OwnB.more {w : World} {base : Nat} {v : Value} {l m : List UInt8} (h : w.ownsRow base 5 1 v (l.length + m.length) (cellsB l ++ cellsB m)) : OwnB w base v (l ++ m) := by
  unfold OwnB
  rw [List.length_append, cellsB_append]; exact h
theorem below_own {base : Nat} {w0 w w' : World} {e : TypeId} {n : Nat} {v : Value} {xs : List Value} (h : Below base w0 w) (hw : base ≤ w.heap.size) (ho : w.ownsRow base e 1 v n xs) (hg : w.grownBy w' v.ownBlock) : Below base w0 w' :=
  h.grown hg hw fun k hk => (ho.lt k hk).1
set_option maxHeartbeats 2000000 in
set_option maxRecDepth 100000 in
theorem put_any (u : Nat) (l : List UInt8) (base : Nat) (v : Value) (w : World) (hu : u < 18446744073709551616) (hl : l.length ≤ 1000000) (hb : base ≤ w.heap.size) (ho : OwnB w base v l) :
    Calls Tryd.prog 79 #[v, .int .u64 u] w fun e w' => ∃ v', e = .returned v' ∧ OwnB w' base v' (l ++ encN u) ∧ Below base w w' := by
  obtain ⟨i0, hi0, hz0, hz1, hz2⟩ := info_parts infoByteB
  have hlen := encN_len10 hu
  have H := Lib.hid (And.intro hu (And.intro hlen ho)); clear hu ho hlen
  go_enter Tryd.func79, Tryd.ntmps79
  go_wp2
  go_loopg [0, 1] u (fun k b f wr => ∃ (x : Value) (m : List UInt8), b = x ∧ f = .int .u64 k ∧ Hid (k < 18446744073709551616 ∧ m ++ encN k = l ++ encN u ∧ OwnB wr base x m ∧ Below base w wr))
  case atStart => exact ⟨v, l, rfl, rfl, H.out.1, rfl, H.out.2.2, Below.refl _ _⟩
  case round =>
    obtain ⟨x, m, rfl, rfl, hinv⟩ := hrel
    obtain ⟨K, hK⟩ : ∃ K, K = gk := ⟨_, rfl⟩
    subst hK
    have hk := hinv.out.1
    have hlk := encN_pos K
    have hml : m.length + (encN K).length = l.length + (encN u).length := by rw [← List.length_append, hinv.out.2.1, List.length_append]
    have hul := H.out.2.1
    have hmx : m.length + 1 ≤ 1000010 := by omega
    have hsz := hinv.out.2.2.2.size
    clear hml hul hlk
    by_cases h : K < 128
    · have ho : ((wr.alloc (.cells #[.int .u8 K] 5)).ownsRow base 5 1 u0 m.length (cellsB m)) := World.ownsRow.alloc hinv.out.2.2.1 _
      have HO := Lib.hid ho; clear ho
      go_wp2_with (at_builtin; refine wpList_append_own_at _ rfl _ _ 40 rfl base 5 i0 _ 1 1 Tryd.underlying40 hi0 hz0 hz1 hz2 rfl (by omega) u0 m.length (cellsB m) rfl HO.out ⟨wr.heap.size, 0, none⟩ 1 1 [.int .u8 K] rfl rfl (cell_one_new _ _ _) (fun y hy => by rw [List.mem_singleton.1 hy]; rfl) (by unfold maxLen; omega) (by omega) (by simp; omega) ?_)
      intro v' w' hown hg _ _
      go_wp2
      go_ret
      refine ⟨_, rfl, ?_, ?_⟩
      · rw [← hinv.out.2.1, encN_small h]
        refine OwnB.more ?_
        rw [cellsB_one K (by omega)]
        exact hown
      · exact below_own (hinv.out.2.2.2.alloc (by omega) _) (by simp; omega) HO.out hg
    · have hK : bits .or .u8 ((K : Int) % 256) 128 = ((K % 128 + 128 : Nat) : Int) := by
        have := u8_or_nat (K % 256) 128 (Nat.mod_lt _ (by decide)) (by decide)
        rw [or_more _ (Nat.mod_lt _ (by decide))] at this
        rw [show ((K : Int) % 256) = ((K % 256 : Nat) : Int) from by omega, show (128 : Int) = ((128 : Nat) : Int) from rfl, this]
        omega
      have ho : ((wr.alloc (.cells #[.int .u8 ((K % 128 + 128 : Nat) : Int)] 5)).ownsRow base 5 1 u0 m.length (cellsB m)) := World.ownsRow.alloc hinv.out.2.2.1 _
      have HO := Lib.hid ho; clear ho
      generalize hN : K % 128 + 128 = N at hK HO
      have HN := Lib.hid hN; clear hN
      go_wp2_with (at_builtin; refine wpList_append_own_at _ rfl _ _ 40 rfl base 5 i0 _ 1 1 Tryd.underlying40 hi0 hz0 hz1 hz2 rfl (by omega) u0 m.length (cellsB m) rfl HO.out ⟨wr.heap.size, 0, none⟩ 1 1 [.int .u8 N] rfl rfl (cell_one_new _ _ _) (fun y hy => by rw [List.mem_singleton.1 hy]; rfl) (by unfold maxLen; omega) (by omega) (by simp; omega) ?_)
      intro v' w' hown hg _ _
      go_wp2
      go_roundg (K / 128)
      case measure => omega
      case rel =>
        refine ⟨v', m ++ [UInt8.ofNat (K % 128 + 128)], rfl, rfl, by omega, ?_, ?_, ?_⟩
        · rw [← hinv.out.2.1, encN_big h, List.append_assoc]; rfl
        · refine OwnB.more ?_
          rw [cellsB_one _ (by omega), HN.out]
          exact hown
        · exact below_own (hinv.out.2.2.2.alloc (by omega) _) (by simp; omega) HO.out hg
end Go.Proofs.YtckdchkegbdiaaaDoor
