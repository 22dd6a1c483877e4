/- A decoder's state; its Pending, Flush. -/
import Derived.Test.YtghbonkbifnidaaDoorRefFeed
namespace Go.Proofs.YtghbonkbifnidaaDoor
open Go Go.RowKit

def decV (s : DecSt) : Array Value := #[.int .i64 s.k, .int .i64 s.l, .int .u8 s.lo, .int .u8 s.hi, .int .i32 s.r]
def Dec (w : World) (g : Nat) (s : DecSt) : Prop := Blk w g 36 (decV s)
theorem ok_zero {s : DecSt} (h : s.ok) (hk : s.k = 0) : s = .new := by
  rcases h with h | ⟨h1, _⟩
  · exact h
  · omega
theorem Dec.new {w : World} {g : Nat} (h : Blk w g 36 #[.int .i64 0, .int .i64 0, .int .u8 0, .int .u8 0, .int .i32 0]) : Dec w g .new := h
/-- The world behind a store of a whole decoder. -/
def decSet (w : World) (g : Nat) (a b c d e : Value) : World := ((((w.setCell ⟨g, 0, none⟩ a).setCell ⟨g, 1, none⟩ b).setCell ⟨g, 2, none⟩ c).setCell ⟨g, 3, none⟩ d).setCell ⟨g, 4, none⟩ e
theorem dec_set {w : World} {g : Nat} {s : DecSt} (h : Dec w g s) (a b c d e : Value) : Blk (decSet w g a b c d e) g 36 #[a, b, c, d, e] :=
  ((((h.set_ 0 a).set_ 1 b).set_ 2 c).set_ 3 d).set_ 4 e
theorem decSet_size (w : World) (g : Nat) (a b c d e : Value) : (decSet w g a b c d e).heap.size = w.heap.size := by simp [decSet, World.setCell]
theorem only_decSet {w0 w : World} {g : Nat} (h : Only g w0 w) (a b c d e : Value) : Only g w0 (decSet w g a b c d e) := ((((h.setCell a).setCell b).setCell c).setCell d).setCell e
set_option maxRecDepth 100000 in
theorem Pending_any (w : World) (g : Nat) (s : DecSt) (h : Dec w g s) : Calls Tryd.prog 21 #[.pointer (some ⟨g, 0, none⟩)] w fun e w' => e = .returned (.int .i64 s.k) ∧ w' = w := by
  have c0 : w.cell? ⟨g, 0, none⟩ = some (.int .i64 s.k) := h.cell 0
  clear h
  go_enter Tryd.func21, Tryd.ntmps21
  go_wp2
  go_ret
  exact ⟨rfl, rfl⟩
theorem own_new {w : World} (base cap : Nat) (h : base ≤ w.heap.size) (n : Int) (hcap : cap = 1) : OwnR (w.alloc (.cells #[.int .i32 n] 21)) base (.slice (some ⟨w.heap.size, 0, none⟩) 1 cap) [n] := by
  subst hcap
  exact ⟨rfl, .inr ⟨w.heap.size, 1, #[.int .i32 n], rfl, h, Go.heap_alloc_new _ _, Nat.le_refl _, by decide, rfl, rfl⟩⟩
set_option maxHeartbeats 1000000 in
set_option maxRecDepth 100000 in
theorem Flush_any (w : World) (g : Nat) (s : DecSt) (h : Dec w g s) (hok : s.ok) :
    Calls Tryd.prog 22 #[.pointer (some ⟨g, 0, none⟩)] w fun e w' => ∃ v, e = .returned v ∧ OwnR w' w.heap.size v s.flush ∧ Dec w' g .new ∧ Only g w w' := by
  have hP := Lib.hid (Pending_any w g s h)
  by_cases hk : s.k = 0
  · obtain rfl := ok_zero hok hk
    have H := Lib.hid h; clear h hok hk
    go_enter Tryd.func22, Tryd.ntmps22
    go_wp2_with fail
    refine hP.out.mono ?_
    rintro e w' ⟨rfl, rfl⟩
    rw [show (((DecSt.new).k : Nat) : Int) = 0 from rfl]
    go_wp2
    go_ret
    exact ⟨_, rfl, OwnR.nil _ _, H.out, Only.refl _ _⟩
  · have hf : s.flush = [65533] := flush_kept hk
    have hkb : (((s.k : Nat) : Int) == 0) = false := by simp; omega
    rw [hf]
    have hlt := h.lt
    have H := Lib.hid (And.intro (dec_set h (.int .i64 0) (.int .i64 0) (.int .u8 0) (.int .u8 0) (.int .i32 0)) (only_decSet (Only.refl g w) (.int .i64 0) (.int .i64 0) (.int .u8 0) (.int .u8 0) (.int .i32 0)))
    have c0 : w.cell? ⟨g, 0, none⟩ = some (.int .i64 s.k) := h.cell 0
    have c1 : w.cell? ⟨g, 1, none⟩ = some (.int .i64 s.l) := h.cell 1
    have c2 : w.cell? ⟨g, 2, none⟩ = some (.int .u8 s.lo) := h.cell 2
    have c3 : w.cell? ⟨g, 3, none⟩ = some (.int .u8 s.hi) := h.cell 3
    have c4 : w.cell? ⟨g, 4, none⟩ = some (.int .i32 s.r) := h.cell 4
    have z0 := h.frozen 0
    have z1 := h.frozen 1
    have z2 := h.frozen 2
    have z3 := h.frozen 3
    have z4 := h.frozen 4
    clear h hok hf
    have HK := Lib.hid (And.intro hk hlt); clear hk hlt
    go_enter Tryd.func22, Tryd.ntmps22
    go_wp2_with fail
    refine hP.out.mono ?_
    rintro e w' ⟨rfl, rfl⟩
    go_wp2
    go_ret
    have hsz := decSet_size w' g (.int .i64 0) (.int .i64 0) (.int .u8 0) (.int .u8 0) (.int .i32 0)
    have ho := own_new (w := decSet w' g (.int .i64 0) (.int .i64 0) (.int .u8 0) (.int .u8 0) (.int .i32 0)) w'.heap.size 1 (by rw [hsz]; exact Nat.le_refl _) 65533 rfl
    rw [hsz] at ho
    exact ⟨_, rfl, ho, Blk.ext H.out.1 ((Ext.refl _).alloc _), H.out.2.alloc _⟩
end Go.Proofs.YtghbonkbifnidaaDoor
