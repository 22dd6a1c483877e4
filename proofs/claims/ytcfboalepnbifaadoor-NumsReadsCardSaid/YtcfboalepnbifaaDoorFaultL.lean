/- What is around a fault: the iterator's contract. -/
import Derived.Test.YtcfboalepnbifaaDoorFaultK
import Derived.RangeFuncNested
import Derived.RangeFuncBound
import Derived.RangeFuncCalls
import Derived.RangeFuncLeaves
import Derived.Shelf.Abstract
import Derived.Shelf.RegionOpen
import Derived.OwnWalkIn
import Derived.TacticsInMore
import Derived.LoopNIn
import Derived.LoopIn
import Derived.Sort.LoopGhostIn
namespace Go.Proofs.YtcfboalepnbifaaDoor
open Go Go.RowKit Go.Shelf
attribute [local go_sem] Oper.semAt_some
attribute [local go_sem] ta_E_E ta_E_P ta_E_W ta_E_R ta_P_E ta_P_P ta_P_W ta_P_R ta_W_E ta_W_P ta_W_W ta_W_R ta_R_E ta_R_P ta_R_W ta_R_R

theorem wpIn_scope {n : Nat} {P : Program} {c : Code} {Q : Exit → Act → World → Prop} {a : Act} {w : World} (h : c.wpIn Fence.wide n P (Exit.noGoto Q) a w) : (Code.scope c).wpIn Fence.wide n P Q a w :=
  wpIn_wide.2 (wp_scope_straight (wpIn_wide.1 h))

/-- A part of what is around a fault, down to its code. -/
inductive Part where
  | code (c : Int)
  | place (p : Int) (u : TypeId) (x : Value)
  | word (s : ByteArray) (u : TypeId) (x : Value)
  | row (r : Nat)
def Part.val : Part → Value
  | .code c => .iface 28 (.int .i64 c)
  | .place p u x => .iface 65 (.agg #[.iface u x, .int .i64 p, .bool false])
  | .word s u x => .iface 78 (.agg #[.iface u x, .string s, .bool false])
  | .row r => .iface 79 (.pointer (some ⟨r, 0, none⟩))

/-- The parts from an error on, inwards. -/
def Spine (w : World) : Value → List Part → Prop
  | v, [] => v = .nilIface
  | v, .code c :: rest => v = (Part.code c).val ∧ rest = []
  | v, .place p u x :: rest => v = (Part.place p u x).val ∧ Spine w (.iface u x) rest
  | v, .word s u x :: rest => v = (Part.word s u x).val ∧ Spine w (.iface u x) rest
  | v, .row r :: rest => v = (Part.row r).val ∧ ∃ b off cap ts u x, w.cell? ⟨r, 0, none⟩ = some (.slice (some ⟨b, off, none⟩) ts.length cap) ∧ 1 ≤ ts.length ∧ ts.length ≤ 1000000 ∧ RepAll w b off ts ∧ w.cell? ⟨b, off, none⟩ = some (.iface u x) ∧ Spine w (.iface u x) rest
theorem Spine.ext {w w' : World} (hx : Ext w w') : ∀ {l : List Part} {v : Value}, Spine w v l → Spine w' v l
  | [], _, h => h
  | .code _ :: _, _, h => h
  | .place _ _ _ :: _, _, ⟨e, h⟩ => ⟨e, Spine.ext hx h⟩
  | .word _ _ _ :: _, _, ⟨e, h⟩ => ⟨e, Spine.ext hx h⟩
  | .row _ :: _, _, ⟨e, b, off, cap, ts, u, x, h0, h1, h2, h3, h4, h⟩ => ⟨e, b, off, cap, ts, u, x, hx.cell h0, h1, h2, h3.ext hx, hx.cell h4, Spine.ext hx h⟩

set_option maxRecDepth 100000 in
set_option maxHeartbeats 4000000 in
theorem around1_in (n : Nat) (hn : 3 ≤ n) (l Bn : Nat) (w0 : World) (v0 : Value) (ps : List Part) (J Jx : List Part → World → Prop) (hs0 : Spine w0 v0 ps)
    (hJ : ∀ pre A B, J pre A → Below A.heap.size A B → J pre B) (hJx : ∀ pre A B, Jx pre A → Below A.heap.size A B → Jx pre B)
    (hY : ∀ pre x W, J pre W → pre.length < ps.length → YieldAt Fence.wide (n - 1) Tryd.prog l #[Part.val x] W fun e W' =>
      (e = .returned (.bool true) ∧ J (pre ++ [x]) W' ∧ Below w0.heap.size W W') ∨ (e = .returned (.bool false) ∧ Jx (pre ++ [x]) W'))
    (W : World) (hBn : W.cell? ⟨Bn, 0, none⟩ = some v0) (hW : Below w0.heap.size w0 W) (h0 : J [] W) :
    CallsIn Fence.wide n Tryd.prog 40 #[.func (.yield l) #[] #[], .pointer (some ⟨Bn, 0, none⟩)] W fun e W' => (∃ v, e = .returned v) ∧
      ((∃ ys, ys = ps ∧ J ys W') ∨ (∃ pre, pre <+: ps ∧ Jx pre W')) := by
  have HJ := Lib.hid hJ; clear hJ
  have HJX := Lib.hid hJx; clear hJx
  have HY := Lib.hid hY; clear hY
  refine callsIn_of_wp Tryd.func40 rfl trivial ?_ rfl
  simp only [Tryd.ntmps40, List.size_toArray, List.length_cons, List.length_nil, Nat.reduceAdd, Nat.reduceSub, Array.replicate_succ, Array.replicate_zero, List.push_toArray, List.append_toArray, List.nil_append, List.cons_append]
  apply wpIn_scope
  gi_wp2
  apply wpIn_label
  gi_wp2
  gi_loopg [4] ps.length (fun k p wr => ∃ (pre rest : List Part), ps = pre ++ rest ∧ rest.length ≤ k ∧ Hid (Spine w0 p rest) ∧ J pre wr ∧ Below w0.heap.size w0 wr)
  case atStart => exact ⟨[], ps, rfl, Nat.le_refl _, hs0, h0, hW⟩
  case round =>
    obtain ⟨pre, rest, hx0, hk, hsp, hj, hbw⟩ := hrel
    have hx := Lib.hid hx0
    clear hx0
    cases rest with
    | nil =>
      obtain rfl : _ = Value.nilIface := hsp.out
      gi_wp2
      all_goals (refine ⟨(fun f h => by cases h), ?_⟩)
      all_goals gi_wp2
      all_goals (try (refine ⟨(fun f h => by cases h), ?_⟩))
      all_goals (try gi_wp2)
      all_goals rw [Exit.noGoto_normal]
      all_goals go_end0
      all_goals exact ⟨⟨_, rfl⟩, .inl ⟨pre, by rw [hx.out]; simp, hj⟩⟩
    | cons x rest =>
      cases x with
      | code c =>
        obtain ⟨rfl, rfl⟩ := hsp.out
        obtain ⟨fn, tmps, assign, body, hy, hR⟩ := HY.out pre (.code c) wr hj (by rw [hx.out]; simp)
        dsimp only [Part.val] at hy ⊢
        gi_wp2
        refine ⟨fun _ => by omega, hR.mono ?_⟩
        rintro e W3 (⟨rfl, hJ3, hk3⟩ | ⟨rfl, hJx3⟩)
        · gi_wp2
          rw [Exit.noGoto_normal]
          go_end0
          exact ⟨⟨_, rfl⟩, .inl ⟨pre ++ [.code c], by rw [hx.out], hJ3⟩⟩
        · gi_wp2
          rw [Exit.noGoto_normal]
          go_end0
          exact ⟨⟨_, rfl⟩, .inr ⟨pre ++ [.code c], ⟨[], by rw [hx.out]; simp⟩, hJx3⟩⟩
      | place p u x =>
        obtain ⟨rfl, hrest0⟩ := hsp.out
        have hrest := Lib.hid hrest0
        clear hrest0
        obtain ⟨fn, tmps, assign, body, hy, hR⟩ := HY.out pre (.place p u x) wr hj (by rw [hx.out]; simp)
        dsimp only [Part.val] at hy ⊢
        gi_wp2
        refine ⟨fun _ => by omega, hR.mono ?_⟩
        rintro e W3 (⟨rfl, hJ3, hk3⟩ | ⟨rfl, hJx3⟩)
        · have hx3 : Ext w0 W3 := Below.trans hbw hk3
          gi_wp2_with fail
          refine ⟨trivial, fun _ => by omega, (callsIn_wide.2 (first_placed _ _ _ _ _)).mono ?_⟩
          rintro e W4 ⟨rfl, hx4⟩
          gi_wp2
          gi_roundg rest.length
          case measure => simp at hk; omega
          case rel => exact ⟨pre ++ [.place p u x], rest, by rw [hx.out]; simp, Nat.le_refl _, hrest.out, HJ.out _ _ _ hJ3 hx4, hx3.trans hx4⟩
        · gi_wp2
          rw [Exit.noGoto_normal]
          go_end0
          exact ⟨⟨_, rfl⟩, .inr ⟨pre ++ [.place p u x], ⟨rest, by rw [hx.out]; simp⟩, hJx3⟩⟩
      | word s u x =>
        obtain ⟨rfl, hrest0⟩ := hsp.out
        have hrest := Lib.hid hrest0
        clear hrest0
        obtain ⟨fn, tmps, assign, body, hy, hR⟩ := HY.out pre (.word s u x) wr hj (by rw [hx.out]; simp)
        dsimp only [Part.val] at hy ⊢
        gi_wp2
        refine ⟨fun _ => by omega, hR.mono ?_⟩
        rintro e W3 (⟨rfl, hJ3, hk3⟩ | ⟨rfl, hJx3⟩)
        · have hx3 : Ext w0 W3 := Below.trans hbw hk3
          gi_wp2_with fail
          refine ⟨trivial, fun _ => by omega, (callsIn_wide.2 (first_worded _ _ _ _ _)).mono ?_⟩
          rintro e W4 ⟨rfl, hx4⟩
          gi_wp2
          gi_roundg rest.length
          case measure => simp at hk; omega
          case rel => exact ⟨pre ++ [.word s u x], rest, by rw [hx.out]; simp, Nat.le_refl _, hrest.out, HJ.out _ _ _ hJ3 hx4, hx3.trans hx4⟩
        · gi_wp2
          rw [Exit.noGoto_normal]
          go_end0
          exact ⟨⟨_, rfl⟩, .inr ⟨pre ++ [.word s u x], ⟨rest, by rw [hx.out]; simp⟩, hJx3⟩⟩
      | row r =>
        obtain ⟨rfl, b, off, cap, ts, u, x, q0, q1, q2, q3, q4, hrest0⟩ := hsp.out
        have hrest := Lib.hid hrest0
        clear hrest0
        have HQ := Lib.hid (And.intro q0 (And.intro q1 (And.intro q2 (And.intro q3 q4))))
        clear q0 q1 q2 q3 q4
        obtain ⟨fn, tmps, assign, body, hy, hR⟩ := HY.out pre (.row r) wr hj (by rw [hx.out]; simp)
        dsimp only [Part.val] at hy ⊢
        gi_wp2
        refine ⟨fun _ => by omega, hR.mono ?_⟩
        rintro e W3 (⟨rfl, hJ3, hk3⟩ | ⟨rfl, hJx3⟩)
        · have hx3 : Ext w0 W3 := Below.trans hbw hk3
          gi_wp2_with fail
          refine ⟨trivial, fun _ => by omega, (callsIn_wide.2 (first_row r b off cap ts u x _ (hx3.cell HQ.out.1) HQ.out.2.1 HQ.out.2.2.1 (HQ.out.2.2.2.1.ext hx3) (hx3.cell HQ.out.2.2.2.2))).mono ?_⟩
          rintro e W4 ⟨rfl, hx4⟩
          gi_wp2
          gi_roundg rest.length
          case measure => simp at hk; omega
          case rel => exact ⟨pre ++ [.row r], rest, by rw [hx.out]; simp, Nat.le_refl _, hrest.out, HJ.out _ _ _ hJ3 hx4, hx3.trans hx4⟩
        · gi_wp2
          rw [Exit.noGoto_normal]
          go_end0
          exact ⟨⟨_, rfl⟩, .inr ⟨pre ++ [.row r], ⟨rest, by rw [hx.out]; simp⟩, hJx3⟩⟩
end Go.Proofs.YtcfboalepnbifaaDoor
