/- The law CheckTells, walked. -/
import Derived.Test.YtlcnicgjlddldaaDoorRefWrap
import Derived.Deep.RegionHeld3
namespace Go.Proofs.YtlcnicgjlddldaaDoor
open Go Go.RowKit

/-- Three answers of the document in memory. -/
def Six (w : World) (B D X : Nat) (p q r : ByteArray) (cp cq cr : Nat) : Prop :=
  w.cell? ⟨B, 0, none⟩ = some (.string p) ∧ w.cell? ⟨B, 1, none⟩ = some (.int .i64 cp) ∧ w.cell? ⟨D, 0, none⟩ = some (.string q) ∧ w.cell? ⟨D, 1, none⟩ = some (.int .i64 cq) ∧ w.cell? ⟨X, 0, none⟩ = some (.string r) ∧ w.cell? ⟨X, 1, none⟩ = some (.int .i64 cr)
theorem Six.ext {w w' : World} {B D X : Nat} {p q r : ByteArray} {cp cq cr : Nat} (h : Six w B D X p q r cp cq cr) (hx : Ext w w') : Six w' B D X p q r cp cq cr :=
  ⟨hx.cell h.1, hx.cell h.2.1, hx.cell h.2.2.1, hx.cell h.2.2.2.1, hx.cell h.2.2.2.2.1, hx.cell h.2.2.2.2.2⟩
theorem Code_six (c : Nat) (w W : World) (B D X : Nat) (p q r : ByteArray) (cp cq cr : Nat) (hg : ErrType w) (h0 : (0 : Int) ≤ (c : Int)) (h1 : (c : Int) ≤ 1000)
    (b0 : W.cell? ⟨B, 0, none⟩ = some (.string p)) (b1 : W.cell? ⟨B, 1, none⟩ = some (.int .i64 cp)) (d0 : W.cell? ⟨D, 0, none⟩ = some (.string q)) (d1 : W.cell? ⟨D, 1, none⟩ = some (.int .i64 cq)) (x0 : W.cell? ⟨X, 0, none⟩ = some (.string r)) (x1 : W.cell? ⟨X, 1, none⟩ = some (.int .i64 cr)) (hE : Ext w W) :
    Calls Tryd.prog 15 #[errV c] W fun e w' => e = .returned (.int .i64 c) ∧ w'.cell? ⟨B, 0, none⟩ = some (.string p) ∧ w'.cell? ⟨B, 1, none⟩ = some (.int .i64 cp) ∧ w'.cell? ⟨D, 0, none⟩ = some (.string q) ∧ w'.cell? ⟨D, 1, none⟩ = some (.int .i64 cq) ∧ w'.cell? ⟨X, 0, none⟩ = some (.string r) ∧ w'.cell? ⟨X, 1, none⟩ = some (.int .i64 cr) ∧ Ext w w' := by
  refine (Code_err c W (hg.ext hE) h0 h1).mono ?_
  rintro e w' ⟨rfl, hx⟩
  exact ⟨rfl, hx.cell b0, hx.cell b1, hx.cell d0, hx.cell d1, hx.cell x0, hx.cell x1, hE.trans hx⟩
def SixE (w W : World) (B D X : Nat) (p q r : ByteArray) (cp cq cr : Nat) : Prop :=
  W.cell? ⟨B, 0, none⟩ = some (.string p) ∧ W.cell? ⟨B, 1, none⟩ = some (.int .i64 cp) ∧ W.cell? ⟨D, 0, none⟩ = some (.string q) ∧ W.cell? ⟨D, 1, none⟩ = some (.int .i64 cq) ∧ W.cell? ⟨X, 0, none⟩ = some (.string r) ∧ W.cell? ⟨X, 1, none⟩ = some (.int .i64 cr) ∧ Ext w W
theorem six_calls (c : Nat) (w : World) (B D X : Nat) (p q r : ByteArray) (cp cq cr : Nat) (hg : ErrType w) (h1 : c ≤ 1000) :
    ∀ W, SixE w W B D X p q r cp cq cr → Calls Tryd.prog 15 #[errV c] W fun e w' => e = .returned (.int .i64 c) ∧ SixE w w' B D X p q r cp cq cr := by
  rintro W ⟨b0, b1, d0, d1, x0, x1, hE⟩
  exact Code_six c w W B D X p q r cp cq cr hg (by omega) (by omega) b0 b1 d0 d1 x0 x1 hE
theorem ext_drew_iff (a w : World) : Ext a w.drew ↔ Ext a w := ⟨fun h => ⟨h.os, h.tape, h.output, h.size, h.block⟩, Ext.drew⟩
attribute [local simp] ext_drew_iff
set_option maxHeartbeats 4000000 in
set_option maxRecDepth 100000 in
theorem tells_true (s : ByteArray) (w : World) (hg : ErrType w) (hs : s.size ≤ 100000) : Calls Tryd.prog 29 #[.string s] w fun e w' => e = .returned (.bool true) ∧ Ext w w' := by
  obtain ⟨hc1, hz1⟩ := wrapA_code s
  have hc2 := openA_code s
  have hc3 := openA_code (wrapA s).1
  have HG := Lib.hid hg; clear hg
  go_enter Tryd.func29, Tryd.ntmps29
  go_wp2_with fail
  refine (Wrap_any s _ (by omega)).mono ?_
  rintro e w1 ⟨rfl, hx1⟩
  go_wp2_with fail
  refine (refWrap_any s _ (by omega)).mono ?_
  rintro e w2 ⟨rfl, hx2⟩
  generalize (wrapA s).1 = p at hz1 hc3 ⊢
  generalize (wrapA s).2 = cp at hc1 ⊢
  have E2 : Ext w w2 := hx1.trans hx2
  clear hx1 hx2
  go_wp2_with fail
  refine (Open_any s _ (by omega)).mono ?_
  rintro e w3 ⟨rfl, hx3⟩
  have E3 : Ext w w3 := (E2.alloc _).trans hx3
  have B3 := Lib.hid (text_cells w2 w3 _ _ hx3)
  clear hx3
  go_wp2_with fail
  refine (refOpen_any s _ (by omega)).mono ?_
  rintro e w4 ⟨rfl, hx4⟩
  generalize (openA s).1 = q at *
  generalize (openA s).2 = cq at hc2 ⊢
  have E4 : Ext w w4 := E3.trans hx4
  have X4 : Ext w3 (w4.alloc (.cells #[.string q, .int .i64 cq] 97)) := hx4.alloc _
  have b0 := X4.cell B3.out.1
  have b1 := X4.cell B3.out.2.1
  have X4' := Lib.hid X4; clear X4 hx4
  go_wp2_with fail
  refine (Open_any p _ (by omega)).mono ?_
  rintro e w5 ⟨rfl, hx5⟩
  have b5 := hx5.cell b0
  have D5 := Lib.hid (And.intro (text_cells w4 w5 _ _ hx5) (And.intro b5 (hx5.cell b1)))
  have E5 : Ext w w5 := (E4.alloc _).trans hx5
  clear hx5 b0 b1
  go_wp2_with fail
  refine (refOpen_any p _ (by omega)).mono ?_
  rintro e w6 ⟨rfl, hx6⟩
  generalize (openA p).1 = r at *
  generalize (openA p).2 = cr at hc3 ⊢
  have E7 : Ext w (w6.alloc (.cells #[.string r, .int .i64 cr] 97)) := (E5.trans hx6).alloc _
  have X7 : Ext w5 (w6.alloc (.cells #[.string r, .int .i64 cr] 97)) := hx6.alloc _
  have hz := text_cells w6 (w6.alloc (.cells #[.string r, .int .i64 cr] 97)) _ _ (Ext.refl _)
  have S7 : Six (w6.alloc (.cells #[.string r, .int .i64 cr] 97)) w2.heap.size w4.heap.size w6.heap.size p q r cp cq cr :=
    ⟨X7.cell D5.out.2.1, X7.cell D5.out.2.2, X7.cell D5.out.1.1, X7.cell D5.out.1.2.1, hz.1, hz.2.1⟩
  clear X7 hz hx6 b5
  obtain ⟨b0, b1, d0, d1, x0, x1⟩ := S7
  generalize hW : w6.alloc (.cells #[.string r, .int .i64 cr] 97) = W at b0 b1 d0 d1 x0 x1 E7
  generalize hX : w6.heap.size = X at x0 x1
  generalize hB : w2.heap.size = B at b0 b1
  generalize hD : w4.heap.size = D at d0 d1
  have HK := Lib.hid (And.intro hW (And.intro hX (And.intro hB hD)))
  go_wp2_with fail
  clear hW hX hB hD B3 X4' D5 E2 E3 E4 E5
  have FA := Lib.hid (fun (c : Nat) (hc : c ≤ 1000) => six_calls c w B D X p q r cp cq cr HG.out hc)
  clear HK HG hz1 hs
  go_region_held3 (fun w' => w'.cell? ⟨B, 0, none⟩ = some (.string p) ∧ w'.cell? ⟨B, 1, none⟩ = some (.int .i64 cp) ∧ w'.cell? ⟨D, 0, none⟩ = some (.string q) ∧ w'.cell? ⟨D, 1, none⟩ = some (.int .i64 cq) ∧ w'.cell? ⟨X, 0, none⟩ = some (.string r) ∧ w'.cell? ⟨X, 1, none⟩ = some (.int .i64 cr) ∧ Ext w w')
    (first | exact g0 | go_keep)
    ((go_at_call 15; refine (FA.out _ (by assumption) _ (by first | exact g0 | assumption)).mono ?_; rintro e wn ⟨rfl, g0⟩))
  go_wp2
  go_ret
  exact ⟨rfl, g0.2.2.2.2.2.2⟩
end Go.Proofs.YtlcnicgjlddldaaDoor
