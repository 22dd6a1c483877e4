/- A row in memory: what it has, where it stands, its code; and the calls that only tell. -/
import Derived.Test.YtcfboalepnbifaaDoorOnly
import Derived.Test.YtcfboalepnbifaaDoorFaultA
import Derived.Test.YtcfboalepnbifaaDoorShelfB
import Derived.Test.YtcfboalepnbifaaDoorFirst
import Derived.Deep.RegionHeld3
import Derived.Deep.QuietTactic
import Derived.BigQuiet
namespace Go.Proofs.YtcfboalepnbifaaDoor
open Go Go.RowKit

def RowAt (w : World) (g : Nat) (s : ByteArray) (p : Nat) (c : Int) : Prop := Blk w g 55 #[.string s, .int .i64 p, .int .i64 c]
theorem RowAt.drew {w : World} {g : Nat} {s : ByteArray} {p : Nat} {c : Int} (h : RowAt w g s p c) : RowAt w.drew g s p c := h
theorem RowAt.drewN {w : World} {g : Nat} {s : ByteArray} {p : Nat} {c : Int} (h : RowAt w g s p c) (n : Nat) : RowAt (w.drewN n) g s p c := h
theorem RowAt.ext {w w' : World} {g : Nat} {s : ByteArray} {p : Nat} {c : Int} (h : RowAt w g s p c) (hx : Ext w w') : RowAt w' g s p c := Blk.ext h hx
theorem RowAt.only {w w' : World} {g b : Nat} {s : ByteArray} {p : Nat} {c : Int} (h : RowAt w g s p c) (hx : Only b w w') (hne : g ≠ b) : RowAt w' g s p c := Blk.only h hx hne
/-- The fault that a row tells. -/
def errV (c p : Int) : Value := if c = 0 then .nilIface else .iface 65 (.agg #[.iface 28 (.int .i64 c), .int .i64 p, .bool false])
theorem errV_ok (p : Int) : errV 0 p = .nilIface := if_pos rfl
theorem errV_bad {c : Int} (p : Int) (h : c ≠ 0) : errV c p = .iface 65 (.agg #[.iface 28 (.int .i64 c), .int .i64 p, .bool false]) := if_neg h

theorem strings_Clone (s : ByteArray) (w : World) (hs : s.size ≤ 281474976710656) : Calls Tryd.prog 26 #[.string s] w fun e w' => e = .returned (.string s) ∧ Ext w w' := by
  go_enter Tryd.func26, Tryd.ntmps26
  go_wp2_with fail
  refine (Tryd.stringslite_Clone s w hs).mono ?_
  rintro e w2 ⟨rfl, hx⟩
  go_wp2
  go_ret
  exact ⟨rfl, hx⟩
set_option maxRecDepth 100000 in
theorem Of_any (s : ByteArray) (w : World) (hs : s.size ≤ 1000000) : Calls Tryd.prog 9 #[.string s] w fun e w' => ∃ g, e = .returned (.pointer (some ⟨g, 0, none⟩)) ∧ RowAt w' g s 0 0 ∧ Ext w w' ∧ w.heap.size ≤ g := by
  go_enter Tryd.func9, Tryd.ntmps9
  go_wp2_with fail
  refine (strings_Clone s w (by omega)).mono ?_
  rintro e w2 ⟨rfl, hx⟩
  have H := Lib.hid hx; clear hx
  go_wp2
  go_ret
  exact ⟨_, rfl, Go.heap_alloc_new _ _, H.out.alloc _, H.out.size⟩
theorem ext_drewN {w : World} (n : Nat) : Ext w (w.drewN n) := (Ext.refl w).drewN n
set_option maxRecDepth 100000 in
theorem Err_ok (w : World) (g : Nat) (s : ByteArray) (p : Nat) (h : RowAt w g s p 0) : Calls Tryd.prog 18 #[.pointer (some ⟨g, 0, none⟩)] w fun e w' => e = .returned .nilIface ∧ Ext w w' := by
  have c1 : w.cell? ⟨g, 1, none⟩ = some (.int .i64 p) := h.cell 1
  have c2 : w.cell? ⟨g, 2, none⟩ = some (.int .i64 0) := h.cell 2
  have H := Lib.hid h; clear h
  go_enter Tryd.func18, Tryd.ntmps18
  go_wp2
  go_quiet ((first | (go_at_call 30; exact Calls.quiet_of_same (new_ok _)) | (go_at_call 31; exact Calls.quiet_of_same (at_nil _ _))))
  go_wp2
  go_ret
  exact ⟨rfl, ext_drewN _⟩
set_option maxRecDepth 100000 in
theorem Err_bad (w : World) (g : Nat) (s : ByteArray) (p : Nat) (c : Int) (hc : c ≠ 0) (h : RowAt w g s p c) : Calls Tryd.prog 18 #[.pointer (some ⟨g, 0, none⟩)] w fun e w' => e = .returned (.iface 65 (.agg #[.iface 28 (.int .i64 c), .int .i64 p, .bool false])) ∧ Ext w w' := by
  have c1 : w.cell? ⟨g, 1, none⟩ = some (.int .i64 p) := h.cell 1
  have c2 : w.cell? ⟨g, 2, none⟩ = some (.int .i64 c) := h.cell 2
  have H := Lib.hid h; clear h
  go_enter Tryd.func18, Tryd.ntmps18
  go_wp2
  go_quiet ((first | (go_at_call 30; exact Calls.quiet_of_same (new_code c _ hc)) | (go_at_call 31; exact Calls.quiet_of_same (at_code c _ _))))
  go_wp2
  go_ret
  exact ⟨rfl, ext_drewN _⟩
set_option maxRecDepth 100000 in
theorem Err_nil (w : World) : Calls Tryd.prog 18 #[.pointer none] w fun e w' => e = .returned (.iface 28 (.int .i64 10)) ∧ w' = w := by
  go_enter Tryd.func18, Tryd.ntmps18
  go_wp2_with fail
  refine (new_code 10 w (by decide)).mono ?_
  rintro e w2 ⟨rfl, rfl⟩
  go_wp2
  go_ret
  exact ⟨rfl, rfl⟩
theorem At_row (w : World) (g : Nat) (s : ByteArray) (p : Nat) (c : Int) (h : RowAt w g s p c) : Calls Tryd.prog 20 #[.pointer (some ⟨g, 0, none⟩)] w fun e w' => e = .returned (.int .i64 p) ∧ w' = w := by
  have c1 : w.cell? ⟨g, 1, none⟩ = some (.int .i64 p) := h.cell 1
  have H := Lib.hid h; clear h
  go_enter Tryd.func20, Tryd.ntmps20
  go_wp2
  go_ret
  exact ⟨rfl, rfl⟩
theorem At_none (w : World) : Calls Tryd.prog 20 #[.pointer none] w fun e w' => e = .returned (.int .i64 0) ∧ w' = w := by
  go_enter Tryd.func20, Tryd.ntmps20
  go_wp2
  go_ret
  exact ⟨rfl, rfl⟩
theorem Fail_ok (w : World) (g : Nat) (s : ByteArray) (p : Nat) (c : Int) (h : RowAt w g s p 0) : Calls Tryd.prog 14 #[.pointer (some ⟨g, 0, none⟩), .int .i64 c] w fun e w' => e = .returned (.tuple #[]) ∧ RowAt w' g s p c ∧ Only g w w' := by
  have H := Lib.hid h; clear h
  go_enter Tryd.func14, Tryd.ntmps14
  go_wp2_with fail
  refine (Err_ok w g s p H.out).mono ?_
  rintro e w2 ⟨rfl, hx⟩
  have h2 := H.out.ext hx
  have c2 : w2.cell? ⟨g, 2, none⟩ = some (.int .i64 0) := h2.cell 2
  have f2 := h2.frozen 2
  have H2 := Lib.hid (And.intro h2 hx); clear h2 hx
  go_wp2
  go_end0
  exact ⟨rfl, H2.out.1.set_ 2 _, (Only.of_ext H2.out.2).setCell _⟩
theorem Fail_bad (w : World) (g : Nat) (s : ByteArray) (p : Nat) (c : Int) (v : Value) (hc : c ≠ 0) (h : RowAt w g s p c) : Calls Tryd.prog 14 #[.pointer (some ⟨g, 0, none⟩), v] w fun e w' => e = .returned (.tuple #[]) ∧ Ext w w' := by
  have H := Lib.hid h; clear h
  go_enter Tryd.func14, Tryd.ntmps14
  go_wp2_with fail
  refine (Err_bad w g s p c hc H.out).mono ?_
  rintro e w2 ⟨rfl, hx⟩
  have HX := Lib.hid hx; clear hx
  go_wp2
  go_end0
  exact ⟨rfl, HX.out⟩
theorem Fail_none (v : Value) (w : World) : Calls Tryd.prog 14 #[.pointer none, v] w fun e w' => e = .returned (.tuple #[]) ∧ w' = w := by
  go_enter Tryd.func14, Tryd.ntmps14
  go_wp2_with fail
  refine (Err_nil w).mono ?_
  rintro e w2 ⟨rfl, rfl⟩
  go_wp2
  go_end0
  exact ⟨rfl, rfl⟩
end Go.Proofs.YtcfboalepnbifaaDoor
