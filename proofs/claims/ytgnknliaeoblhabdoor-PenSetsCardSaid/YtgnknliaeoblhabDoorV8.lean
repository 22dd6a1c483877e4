/- The document's control sequence. · The document's control sequence: its end, its digits. -/
import Derived.Test.YtgnknliaeoblhabDoorV7
namespace Go.Proofs.YtgnknliaeoblhabDoor
open Go Go.RowKit

set_option maxHeartbeats 2000000 in
set_option maxRecDepth 100000 in
theorem rcsi_spoil_e (w : World) (g : Nat) (i kd rr pp m n0 n1 n2 n3 n4 n5 n6 n7 r : Int) (n : Nat) (b : Bool) (h : RefPar w g ⟨i, ⟨kd, rr, pp, m, n, [n0, n1, n2, n3, n4, n5, n6, n7]⟩, b⟩) (h1 : 126 < r) :
    Calls Tryd.prog 22 #[.pointer (some ⟨g, 0, none⟩), .int .i32 r] w fun e w' => e = .returned (actV .none) ∧ RefPar w' g ⟨3, ⟨kd, rr, pp, m, n, [n0, n1, n2, n3, n4, n5, n6, n7]⟩, true⟩ ∧ Only g w w' := by
  obtain ⟨c0, c1, c2, c3, c4, c5, c6, c7, c8, c9, ca, cb, cc, cd, ce⟩ := h.facts
  have z0 := Blk.frozen h 0
  have z14 := Blk.frozen h 14
  have hlt := h.lt
  have e58 : (r == 58) = false := by simp; omega
  have e59 : (r == 59) = false := by simp; omega
  have H := Lib.hid h; clear h
  have HP : RefPar ((w.setCell ⟨g, 14, none⟩ (.bool true)).setCell ⟨g, 0, none⟩ (.int .i64 3)) g ⟨3, ⟨kd, rr, pp, m, n, [n0, n1, n2, n3, n4, n5, n6, n7]⟩, true⟩ := Blk.set_ (Blk.set_ (H.out) 14 _) 0 _
  have HQ := Lib.hid HP; clear HP
  go_enter Tryd.func22, Tryd.ntmps22
  go_wp2
  exact ret_act1 rfl rfl rfl (blk_at (by simp [World.setCell]) _) rfl ⟨rfl, ref_end HQ.out (((Only.refl g w).setCell _).setCell _) _⟩
set_option maxHeartbeats 2000000 in
set_option maxRecDepth 100000 in
theorem rcsi_spoil_c (w : World) (g : Nat) (i kd rr pp m n0 n1 n2 n3 n4 n5 n6 n7 r : Int) (n : Nat) (h : RefPar w g ⟨i, ⟨kd, rr, pp, m, n, [n0, n1, n2, n3, n4, n5, n6, n7]⟩, true⟩) (h1 : 60 ≤ r) (h2 : r ≤ 63) :
    Calls Tryd.prog 22 #[.pointer (some ⟨g, 0, none⟩), .int .i32 r] w fun e w' => e = .returned (actV .none) ∧ RefPar w' g ⟨3, ⟨kd, rr, pp, m, n, [n0, n1, n2, n3, n4, n5, n6, n7]⟩, true⟩ ∧ Only g w w' := by
  obtain ⟨c0, c1, c2, c3, c4, c5, c6, c7, c8, c9, ca, cb, cc, cd, ce⟩ := h.facts
  have z0 := Blk.frozen h 0
  have z14 := Blk.frozen h 14
  have hlt := h.lt
  have e58 : (r == 58) = false := by simp; omega
  have e59 : (r == 59) = false := by simp; omega
  have H := Lib.hid h; clear h
  have HP : RefPar ((w.setCell ⟨g, 14, none⟩ (.bool true)).setCell ⟨g, 0, none⟩ (.int .i64 3)) g ⟨3, ⟨kd, rr, pp, m, n, [n0, n1, n2, n3, n4, n5, n6, n7]⟩, true⟩ := Blk.set_ (Blk.set_ (H.out) 14 _) 0 _
  have HQ := Lib.hid HP; clear HP
  go_enter Tryd.func22, Tryd.ntmps22
  go_wp2
  exact ret_act1 rfl rfl rfl (blk_at (by simp [World.setCell]) _) rfl ⟨rfl, ref_end HQ.out (((Only.refl g w).setCell _).setCell _) _⟩
set_option maxHeartbeats 2000000 in
set_option maxRecDepth 100000 in
theorem rcsi_spoil_a (w : World) (g : Nat) (i kd rr pp m n0 n1 n2 n3 n4 n5 n6 n7 r : Int) (n : Nat) (b : Bool) (h : RefPar w g ⟨i, ⟨kd, rr, pp, m, n, [n0, n1, n2, n3, n4, n5, n6, n7]⟩, b⟩) (hm : (m == 0) = false) (h1 : 48 ≤ r) (h2 : r ≤ 57) :
    Calls Tryd.prog 22 #[.pointer (some ⟨g, 0, none⟩), .int .i32 r] w fun e w' => e = .returned (actV .none) ∧ RefPar w' g ⟨3, ⟨kd, rr, pp, m, n, [n0, n1, n2, n3, n4, n5, n6, n7]⟩, true⟩ ∧ Only g w w' := by
  obtain ⟨c0, c1, c2, c3, c4, c5, c6, c7, c8, c9, ca, cb, cc, cd, ce⟩ := h.facts
  have z0 := Blk.frozen h 0
  have z14 := Blk.frozen h 14
  have hlt := h.lt
  have e58 : (r == 58) = false := by simp; omega
  have e59 : (r == 59) = false := by simp; omega
  have H := Lib.hid h; clear h
  have HP : RefPar ((w.setCell ⟨g, 14, none⟩ (.bool true)).setCell ⟨g, 0, none⟩ (.int .i64 3)) g ⟨3, ⟨kd, rr, pp, m, n, [n0, n1, n2, n3, n4, n5, n6, n7]⟩, true⟩ := Blk.set_ (Blk.set_ (H.out) 14 _) 0 _
  have HQ := Lib.hid HP; clear HP
  go_enter Tryd.func22, Tryd.ntmps22
  go_wp2
  exact ret_act1 rfl rfl rfl (blk_at (by simp [World.setCell]) _) rfl ⟨rfl, ref_end HQ.out (((Only.refl g w).setCell _).setCell _) _⟩
set_option maxHeartbeats 2000000 in
set_option maxRecDepth 100000 in
theorem rcsi_spoil_b58 (w : World) (g : Nat) (i kd rr pp m n0 n1 n2 n3 n4 n5 n6 n7 : Int) (n : Nat) (b : Bool) (h : RefPar w g ⟨i, ⟨kd, rr, pp, m, n, [n0, n1, n2, n3, n4, n5, n6, n7]⟩, b⟩) (hm : (m == 0) = false) :
    Calls Tryd.prog 22 #[.pointer (some ⟨g, 0, none⟩), .int .i32 58] w fun e w' => e = .returned (actV .none) ∧ RefPar w' g ⟨3, ⟨kd, rr, pp, m, n, [n0, n1, n2, n3, n4, n5, n6, n7]⟩, true⟩ ∧ Only g w w' := by
  obtain ⟨c0, c1, c2, c3, c4, c5, c6, c7, c8, c9, ca, cb, cc, cd, ce⟩ := h.facts
  have z0 := Blk.frozen h 0
  have z14 := Blk.frozen h 14
  have hlt := h.lt
  have H := Lib.hid h; clear h
  have HP : RefPar ((w.setCell ⟨g, 14, none⟩ (.bool true)).setCell ⟨g, 0, none⟩ (.int .i64 3)) g ⟨3, ⟨kd, rr, pp, m, n, [n0, n1, n2, n3, n4, n5, n6, n7]⟩, true⟩ := Blk.set_ (Blk.set_ (H.out) 14 _) 0 _
  have HQ := Lib.hid HP; clear HP
  go_enter Tryd.func22, Tryd.ntmps22
  go_wp2
  exact ret_act1 rfl rfl rfl (blk_at (by simp [World.setCell]) _) rfl ⟨rfl, ref_end HQ.out (((Only.refl g w).setCell _).setCell _) _⟩
set_option maxHeartbeats 2000000 in
set_option maxRecDepth 100000 in
theorem rcsi_spoil_b59 (w : World) (g : Nat) (i kd rr pp m n0 n1 n2 n3 n4 n5 n6 n7 : Int) (n : Nat) (b : Bool) (h : RefPar w g ⟨i, ⟨kd, rr, pp, m, n, [n0, n1, n2, n3, n4, n5, n6, n7]⟩, b⟩) (hm : (m == 0) = false) :
    Calls Tryd.prog 22 #[.pointer (some ⟨g, 0, none⟩), .int .i32 59] w fun e w' => e = .returned (actV .none) ∧ RefPar w' g ⟨3, ⟨kd, rr, pp, m, n, [n0, n1, n2, n3, n4, n5, n6, n7]⟩, true⟩ ∧ Only g w w' := by
  obtain ⟨c0, c1, c2, c3, c4, c5, c6, c7, c8, c9, ca, cb, cc, cd, ce⟩ := h.facts
  have z0 := Blk.frozen h 0
  have z14 := Blk.frozen h 14
  have hlt := h.lt
  have H := Lib.hid h; clear h
  have HP : RefPar ((w.setCell ⟨g, 14, none⟩ (.bool true)).setCell ⟨g, 0, none⟩ (.int .i64 3)) g ⟨3, ⟨kd, rr, pp, m, n, [n0, n1, n2, n3, n4, n5, n6, n7]⟩, true⟩ := Blk.set_ (Blk.set_ (H.out) 14 _) 0 _
  have HQ := Lib.hid HP; clear HP
  go_enter Tryd.func22, Tryd.ntmps22
  go_wp2
  exact ret_act1 rfl rfl rfl (blk_at (by simp [World.setCell]) _) rfl ⟨rfl, ref_end HQ.out (((Only.refl g w).setCell _).setCell _) _⟩
set_option maxHeartbeats 2000000 in
set_option maxRecDepth 100000 in
theorem rcsi_spoil_d (w : World) (g : Nat) (i kd rr pp m n0 n1 n2 n3 n4 n5 n6 n7 r : Int) (n : Nat) (b : Bool) (h : RefPar w g ⟨i, ⟨kd, rr, pp, m, n, [n0, n1, n2, n3, n4, n5, n6, n7]⟩, b⟩) (hm : (m == 0) = false) (h0 : 32 ≤ r) (h1 : r ≤ 47) :
    Calls Tryd.prog 22 #[.pointer (some ⟨g, 0, none⟩), .int .i32 r] w fun e w' => e = .returned (actV .none) ∧ RefPar w' g ⟨3, ⟨kd, rr, pp, m, n, [n0, n1, n2, n3, n4, n5, n6, n7]⟩, true⟩ ∧ Only g w w' := by
  obtain ⟨c0, c1, c2, c3, c4, c5, c6, c7, c8, c9, ca, cb, cc, cd, ce⟩ := h.facts
  have z0 := Blk.frozen h 0
  have z14 := Blk.frozen h 14
  have hlt := h.lt
  have e58 : (r == 58) = false := by simp; omega
  have e59 : (r == 59) = false := by simp; omega
  have H := Lib.hid h; clear h
  have HP : RefPar ((w.setCell ⟨g, 14, none⟩ (.bool true)).setCell ⟨g, 0, none⟩ (.int .i64 3)) g ⟨3, ⟨kd, rr, pp, m, n, [n0, n1, n2, n3, n4, n5, n6, n7]⟩, true⟩ := Blk.set_ (Blk.set_ (H.out) 14 _) 0 _
  have HQ := Lib.hid HP; clear HP
  go_enter Tryd.func22, Tryd.ntmps22
  go_wp2
  exact ret_act1 rfl rfl rfl (blk_at (by simp [World.setCell]) _) rfl ⟨rfl, ref_end HQ.out (((Only.refl g w).setCell _).setCell _) _⟩
set_option maxHeartbeats 2000000 in
set_option maxRecDepth 100000 in
theorem rcsi_priv (w : World) (g : Nat) (i kd rr pp m n0 n1 n2 n3 n4 n5 n6 n7 r : Int) (n : Nat) (h : RefPar w g ⟨i, ⟨kd, rr, pp, m, n, [n0, n1, n2, n3, n4, n5, n6, n7]⟩, false⟩) (h1 : 60 ≤ r) (h2 : r ≤ 63) :
    Calls Tryd.prog 22 #[.pointer (some ⟨g, 0, none⟩), .int .i32 r] w fun e w' => e = .returned (actV .none) ∧ RefPar w' g ⟨i, ⟨kd, rr, r, m, n, [n0, n1, n2, n3, n4, n5, n6, n7]⟩, true⟩ ∧ Only g w w' := by
  obtain ⟨c0, c1, c2, c3, c4, c5, c6, c7, c8, c9, ca, cb, cc, cd, ce⟩ := h.facts
  have z3 := Blk.frozen h 3
  have z14 := Blk.frozen h 14
  have hlt := h.lt
  have e58 : (r == 58) = false := by simp; omega
  have e59 : (r == 59) = false := by simp; omega
  have hw : r % 256 = r := by omega
  have H := Lib.hid h; clear h
  have HP : RefPar ((w.setCell ⟨g, 14, none⟩ (.bool true)).setCell ⟨g, 3, none⟩ (.int .u8 r)) g ⟨i, ⟨kd, rr, r, m, n, [n0, n1, n2, n3, n4, n5, n6, n7]⟩, true⟩ := Blk.set_ (Blk.set_ (H.out) 14 _) 3 _
  have HQ := Lib.hid HP; clear HP
  go_enter Tryd.func22, Tryd.ntmps22
  go_wp2
  exact ret_act1 rfl rfl rfl (blk_at (by simp [World.setCell]) _) rfl ⟨rfl, ref_end HQ.out (((Only.refl g w).setCell _).setCell _) _⟩
set_option maxHeartbeats 2000000 in
set_option maxRecDepth 100000 in
theorem rcsi_mid (w : World) (g : Nat) (i kd rr pp n0 n1 n2 n3 n4 n5 n6 n7 r : Int) (n : Nat) (b : Bool) (h : RefPar w g ⟨i, ⟨kd, rr, pp, 0, n, [n0, n1, n2, n3, n4, n5, n6, n7]⟩, b⟩) (h0 : 32 ≤ r) (h1 : r ≤ 47) :
    Calls Tryd.prog 22 #[.pointer (some ⟨g, 0, none⟩), .int .i32 r] w fun e w' => e = .returned (actV .none) ∧ RefPar w' g ⟨i, ⟨kd, rr, pp, r, n, [n0, n1, n2, n3, n4, n5, n6, n7]⟩, true⟩ ∧ Only g w w' := by
  obtain ⟨c0, c1, c2, c3, c4, c5, c6, c7, c8, c9, ca, cb, cc, cd, ce⟩ := h.facts
  have z4 := Blk.frozen h 4
  have z14 := Blk.frozen h 14
  have hlt := h.lt
  have e58 : (r == 58) = false := by simp; omega
  have e59 : (r == 59) = false := by simp; omega
  have hw : r % 256 = r := by omega
  have H := Lib.hid h; clear h
  have HP : RefPar ((w.setCell ⟨g, 14, none⟩ (.bool true)).setCell ⟨g, 4, none⟩ (.int .u8 r)) g ⟨i, ⟨kd, rr, pp, r, n, [n0, n1, n2, n3, n4, n5, n6, n7]⟩, true⟩ := Blk.set_ (Blk.set_ (H.out) 14 _) 4 _
  have HQ := Lib.hid HP; clear HP
  go_enter Tryd.func22, Tryd.ntmps22
  go_wp2
  exact ret_act1 rfl rfl rfl (blk_at (by simp [World.setCell]) _) rfl ⟨rfl, ref_end HQ.out (((Only.refl g w).setCell _).setCell _) _⟩
set_option maxHeartbeats 2000000 in
set_option maxRecDepth 100000 in
theorem rcsi_sep0_58 (w : World) (g : Nat) (i kd rr pp n0 n1 n2 n3 n4 n5 n6 n7 : Int) (b : Bool) (h : RefPar w g ⟨i, ⟨kd, rr, pp, 0, 0, [n0, n1, n2, n3, n4, n5, n6, n7]⟩, b⟩) :
    Calls Tryd.prog 22 #[.pointer (some ⟨g, 0, none⟩), .int .i32 58] w fun e w' => e = .returned (actV .none) ∧ RefPar w' g ⟨i, ⟨kd, rr, pp, 0, 2, [n0, n1, n2, n3, n4, n5, n6, n7]⟩, true⟩ ∧ Only g w w' := by
  obtain ⟨c0, c1, c2, c3, c4, c5, c6, c7, c8, c9, ca, cb, cc, cd, ce⟩ := h.facts
  have z5 := Blk.frozen h 5
  have z14 := Blk.frozen h 14
  have hlt := h.lt
  have H := Lib.hid h; clear h
  have HP : RefPar (((w.setCell ⟨g, 14, none⟩ (.bool true)).setCell ⟨g, 5, none⟩ (.int .i64 1)).setCell ⟨g, 5, none⟩ (.int .i64 2)) g ⟨i, ⟨kd, rr, pp, 0, 2, [n0, n1, n2, n3, n4, n5, n6, n7]⟩, true⟩ := Blk.set_ (Blk.set_ (Blk.set_ (H.out) 14 _) 5 _) 5 _
  have HQ := Lib.hid HP; clear HP
  go_enter Tryd.func22, Tryd.ntmps22
  go_wp2
  exact ret_act1 rfl rfl rfl (blk_at (by simp [World.setCell]) _) rfl ⟨rfl, ref_end HQ.out ((((Only.refl g w).setCell _).setCell _).setCell _) _⟩
set_option maxHeartbeats 2000000 in
set_option maxRecDepth 100000 in
theorem rcsi_sep9_58 (w : World) (g : Nat) (i kd rr pp n0 n1 n2 n3 n4 n5 n6 n7 : Int) (b : Bool) (h : RefPar w g ⟨i, ⟨kd, rr, pp, 0, 9, [n0, n1, n2, n3, n4, n5, n6, n7]⟩, b⟩) :
    Calls Tryd.prog 22 #[.pointer (some ⟨g, 0, none⟩), .int .i32 58] w fun e w' => e = .returned (actV .none) ∧ RefPar w' g ⟨i, ⟨kd, rr, pp, 0, 9, [n0, n1, n2, n3, n4, n5, n6, n7]⟩, true⟩ ∧ Only g w w' := by
  obtain ⟨c0, c1, c2, c3, c4, c5, c6, c7, c8, c9, ca, cb, cc, cd, ce⟩ := h.facts
  have z5 := Blk.frozen h 5
  have z14 := Blk.frozen h 14
  have hlt := h.lt
  have H := Lib.hid h; clear h
  have HP : RefPar (w.setCell ⟨g, 14, none⟩ (.bool true)) g ⟨i, ⟨kd, rr, pp, 0, 9, [n0, n1, n2, n3, n4, n5, n6, n7]⟩, true⟩ := Blk.set_ (H.out) 14 _
  have HQ := Lib.hid HP; clear HP
  go_enter Tryd.func22, Tryd.ntmps22
  go_wp2
  exact ret_act1 rfl rfl rfl (blk_at (by simp [World.setCell]) _) rfl ⟨rfl, ref_end HQ.out ((Only.refl g w).setCell _) _⟩
set_option maxHeartbeats 2000000 in
set_option maxRecDepth 100000 in
theorem rcsi_sep_58 (w : World) (g : Nat) (i kd rr pp n0 n1 n2 n3 n4 n5 n6 n7 : Int) (n : Nat) (b : Bool) (h : RefPar w g ⟨i, ⟨kd, rr, pp, 0, n, [n0, n1, n2, n3, n4, n5, n6, n7]⟩, b⟩) (hn1 : 1 ≤ n) (hn : n ≤ 8) :
    Calls Tryd.prog 22 #[.pointer (some ⟨g, 0, none⟩), .int .i32 58] w fun e w' => e = .returned (actV .none) ∧ RefPar w' g ⟨i, ⟨kd, rr, pp, 0, n + 1, [n0, n1, n2, n3, n4, n5, n6, n7]⟩, true⟩ ∧ Only g w w' := by
  obtain ⟨c0, c1, c2, c3, c4, c5, c6, c7, c8, c9, ca, cb, cc, cd, ce⟩ := h.facts
  have z5 := Blk.frozen h 5
  have z14 := Blk.frozen h 14
  have hlt := h.lt
  have hnb : ((n : Int) == 0) = false := by simp; omega
  have H := Lib.hid h; clear h
  have HP : RefPar ((w.setCell ⟨g, 14, none⟩ (.bool true)).setCell ⟨g, 5, none⟩ (.int .i64 ((n + 1 : Nat) : Int))) g ⟨i, ⟨kd, rr, pp, 0, n + 1, [n0, n1, n2, n3, n4, n5, n6, n7]⟩, true⟩ := Blk.set_ (Blk.set_ (H.out) 14 _) 5 _
  have HQ := Lib.hid HP; clear HP
  go_enter Tryd.func22, Tryd.ntmps22
  go_wp2
  exact ret_act1 rfl rfl rfl (blk_at (by simp [World.setCell]) _) rfl ⟨rfl, ref_end HQ.out (((Only.refl g w).setCell _).setCell _) _⟩
set_option maxHeartbeats 2000000 in
set_option maxRecDepth 100000 in
theorem rcsi_sep0_59 (w : World) (g : Nat) (i kd rr pp n0 n1 n2 n3 n4 n5 n6 n7 : Int) (b : Bool) (h : RefPar w g ⟨i, ⟨kd, rr, pp, 0, 0, [n0, n1, n2, n3, n4, n5, n6, n7]⟩, b⟩) :
    Calls Tryd.prog 22 #[.pointer (some ⟨g, 0, none⟩), .int .i32 59] w fun e w' => e = .returned (actV .none) ∧ RefPar w' g ⟨i, ⟨kd, rr, pp, 0, 2, [n0, n1, n2, n3, n4, n5, n6, n7]⟩, true⟩ ∧ Only g w w' := by
  obtain ⟨c0, c1, c2, c3, c4, c5, c6, c7, c8, c9, ca, cb, cc, cd, ce⟩ := h.facts
  have z5 := Blk.frozen h 5
  have z14 := Blk.frozen h 14
  have hlt := h.lt
  have H := Lib.hid h; clear h
  have HP : RefPar (((w.setCell ⟨g, 14, none⟩ (.bool true)).setCell ⟨g, 5, none⟩ (.int .i64 1)).setCell ⟨g, 5, none⟩ (.int .i64 2)) g ⟨i, ⟨kd, rr, pp, 0, 2, [n0, n1, n2, n3, n4, n5, n6, n7]⟩, true⟩ := Blk.set_ (Blk.set_ (Blk.set_ (H.out) 14 _) 5 _) 5 _
  have HQ := Lib.hid HP; clear HP
  go_enter Tryd.func22, Tryd.ntmps22
  go_wp2
  exact ret_act1 rfl rfl rfl (blk_at (by simp [World.setCell]) _) rfl ⟨rfl, ref_end HQ.out ((((Only.refl g w).setCell _).setCell _).setCell _) _⟩
set_option maxHeartbeats 2000000 in
set_option maxRecDepth 100000 in
theorem rcsi_sep9_59 (w : World) (g : Nat) (i kd rr pp n0 n1 n2 n3 n4 n5 n6 n7 : Int) (b : Bool) (h : RefPar w g ⟨i, ⟨kd, rr, pp, 0, 9, [n0, n1, n2, n3, n4, n5, n6, n7]⟩, b⟩) :
    Calls Tryd.prog 22 #[.pointer (some ⟨g, 0, none⟩), .int .i32 59] w fun e w' => e = .returned (actV .none) ∧ RefPar w' g ⟨i, ⟨kd, rr, pp, 0, 9, [n0, n1, n2, n3, n4, n5, n6, n7]⟩, true⟩ ∧ Only g w w' := by
  obtain ⟨c0, c1, c2, c3, c4, c5, c6, c7, c8, c9, ca, cb, cc, cd, ce⟩ := h.facts
  have z5 := Blk.frozen h 5
  have z14 := Blk.frozen h 14
  have hlt := h.lt
  have H := Lib.hid h; clear h
  have HP : RefPar (w.setCell ⟨g, 14, none⟩ (.bool true)) g ⟨i, ⟨kd, rr, pp, 0, 9, [n0, n1, n2, n3, n4, n5, n6, n7]⟩, true⟩ := Blk.set_ (H.out) 14 _
  have HQ := Lib.hid HP; clear HP
  go_enter Tryd.func22, Tryd.ntmps22
  go_wp2
  exact ret_act1 rfl rfl rfl (blk_at (by simp [World.setCell]) _) rfl ⟨rfl, ref_end HQ.out ((Only.refl g w).setCell _) _⟩
set_option maxHeartbeats 2000000 in
set_option maxRecDepth 100000 in
theorem rcsi_sep_59 (w : World) (g : Nat) (i kd rr pp n0 n1 n2 n3 n4 n5 n6 n7 : Int) (n : Nat) (b : Bool) (h : RefPar w g ⟨i, ⟨kd, rr, pp, 0, n, [n0, n1, n2, n3, n4, n5, n6, n7]⟩, b⟩) (hn1 : 1 ≤ n) (hn : n ≤ 8) :
    Calls Tryd.prog 22 #[.pointer (some ⟨g, 0, none⟩), .int .i32 59] w fun e w' => e = .returned (actV .none) ∧ RefPar w' g ⟨i, ⟨kd, rr, pp, 0, n + 1, [n0, n1, n2, n3, n4, n5, n6, n7]⟩, true⟩ ∧ Only g w w' := by
  obtain ⟨c0, c1, c2, c3, c4, c5, c6, c7, c8, c9, ca, cb, cc, cd, ce⟩ := h.facts
  have z5 := Blk.frozen h 5
  have z14 := Blk.frozen h 14
  have hlt := h.lt
  have hnb : ((n : Int) == 0) = false := by simp; omega
  have H := Lib.hid h; clear h
  have HP : RefPar ((w.setCell ⟨g, 14, none⟩ (.bool true)).setCell ⟨g, 5, none⟩ (.int .i64 ((n + 1 : Nat) : Int))) g ⟨i, ⟨kd, rr, pp, 0, n + 1, [n0, n1, n2, n3, n4, n5, n6, n7]⟩, true⟩ := Blk.set_ (Blk.set_ (H.out) 14 _) 5 _
  have HQ := Lib.hid HP; clear HP
  go_enter Tryd.func22, Tryd.ntmps22
  go_wp2
  exact ret_act1 rfl rfl rfl (blk_at (by simp [World.setCell]) _) rfl ⟨rfl, ref_end HQ.out (((Only.refl g w).setCell _).setCell _) _⟩
end Go.Proofs.YtgnknliaeoblhabDoor
namespace Go.Proofs.YtgnknliaeoblhabDoor
open Go Go.RowKit

set_option maxHeartbeats 2000000 in
set_option maxRecDepth 100000 in
theorem rcsi_end9 (w : World) (g : Nat) (i kd rr pp m n0 n1 n2 n3 n4 n5 n6 n7 r : Int) (b : Bool) (h : RefPar w g ⟨i, ⟨kd, rr, pp, m, 9, [n0, n1, n2, n3, n4, n5, n6, n7]⟩, b⟩) (h1 : 64 ≤ r) (h2 : r ≤ 126) :
    Calls Tryd.prog 22 #[.pointer (some ⟨g, 0, none⟩), .int .i32 r] w fun e w' => e = .returned (actV ⟨4, r, pp, m, 8, [n0, n1, n2, n3, n4, n5, n6, n7]⟩) ∧ RefPar w' g ⟨0, ⟨kd, rr, pp, m, 9, [n0, n1, n2, n3, n4, n5, n6, n7]⟩, true⟩ ∧ Only g w w' := by
  obtain ⟨c0, c1, c2, c3, c4, c5, c6, c7, c8, c9, ca, cb, cc, cd, ce⟩ := h.facts
  have z0 := Blk.frozen h 0
  have z14 := Blk.frozen h 14
  have hlt := h.lt
  have e58 : (r == 58) = false := by simp; omega
  have e59 : (r == 59) = false := by simp; omega
  have H := Lib.hid h; clear h
  have HP : RefPar ((w.setCell ⟨g, 14, none⟩ (.bool true)).setCell ⟨g, 0, none⟩ (.int .i64 0)) g ⟨0, ⟨kd, rr, pp, m, 9, [n0, n1, n2, n3, n4, n5, n6, n7]⟩, true⟩ := Blk.set_ (Blk.set_ (H.out) 14 _) 0 _
  have HQ := Lib.hid HP; clear HP
  go_enter Tryd.func22, Tryd.ntmps22
  go_wp2
  exact ret_act1 rfl rfl rfl (Blk.ext (blk_at (by simp [World.setCell]) _) ((Ext.refl _).alloc _)) rfl ⟨rfl, HQ.out.ext (((Ext.refl _).alloc _).alloc _), (((Only.refl g w).setCell _).setCell _).ext (((Ext.refl _).alloc _).alloc _)⟩
set_option maxHeartbeats 2000000 in
set_option maxRecDepth 100000 in
theorem rcsi_end (w : World) (g : Nat) (i kd rr pp m n0 n1 n2 n3 n4 n5 n6 n7 r : Int) (n : Nat) (b : Bool) (h : RefPar w g ⟨i, ⟨kd, rr, pp, m, n, [n0, n1, n2, n3, n4, n5, n6, n7]⟩, b⟩) (hn : n ≤ 8) (h1 : 64 ≤ r) (h2 : r ≤ 126) :
    Calls Tryd.prog 22 #[.pointer (some ⟨g, 0, none⟩), .int .i32 r] w fun e w' => e = .returned (actV ⟨4, r, pp, m, n, [n0, n1, n2, n3, n4, n5, n6, n7]⟩) ∧ RefPar w' g ⟨0, ⟨kd, rr, pp, m, n, [n0, n1, n2, n3, n4, n5, n6, n7]⟩, true⟩ ∧ Only g w w' := by
  obtain ⟨c0, c1, c2, c3, c4, c5, c6, c7, c8, c9, ca, cb, cc, cd, ce⟩ := h.facts
  have z0 := Blk.frozen h 0
  have z14 := Blk.frozen h 14
  have hlt := h.lt
  have e58 : (r == 58) = false := by simp; omega
  have e59 : (r == 59) = false := by simp; omega
  have hnI : (n : Int) ≤ 8 := by omega
  have H := Lib.hid h; clear h
  have HP : RefPar ((w.setCell ⟨g, 14, none⟩ (.bool true)).setCell ⟨g, 0, none⟩ (.int .i64 0)) g ⟨0, ⟨kd, rr, pp, m, n, [n0, n1, n2, n3, n4, n5, n6, n7]⟩, true⟩ := Blk.set_ (Blk.set_ (H.out) 14 _) 0 _
  have HQ := Lib.hid HP; clear HP
  go_enter Tryd.func22, Tryd.ntmps22
  go_wp2
  exact ret_act1 rfl rfl rfl (Blk.ext (blk_at (by simp [World.setCell]) _) ((Ext.refl _).alloc _)) rfl ⟨rfl, HQ.out.ext (((Ext.refl _).alloc _).alloc _), (((Only.refl g w).setCell _).setCell _).ext (((Ext.refl _).alloc _).alloc _)⟩
set_option maxHeartbeats 2000000 in
set_option maxRecDepth 100000 in
theorem rcsi_dig0a (w : World) (g : Nat) (i kd rr pp n0 n1 n2 n3 n4 n5 n6 n7 r : Int) (b : Bool) (h : RefPar w g ⟨i, ⟨kd, rr, pp, 0, 0, [n0, n1, n2, n3, n4, n5, n6, n7]⟩, b⟩) (hb0 : 0 ≤ n0) (hb1 : n0 ≤ 9999) (h1 : 48 ≤ r) (h2 : r ≤ 57) (hv : n0 * 10 + (r - 48) ≤ 9999) :
    Calls Tryd.prog 22 #[.pointer (some ⟨g, 0, none⟩), .int .i32 r] w fun e w' => e = .returned (actV .none) ∧ RefPar w' g ⟨i, ⟨kd, rr, pp, 0, 1, [n0 * 10 + (r - 48), n1, n2, n3, n4, n5, n6, n7]⟩, true⟩ ∧ Only g w w' := by
  obtain ⟨c0, c1, c2, c3, c4, c5, c6, c7, c8, c9, ca, cb, cc, cd, ce⟩ := h.facts
  have z5 := Blk.frozen h 5
  have z14 := Blk.frozen h 14
  have z6 := Blk.frozen h 6
  have hlt := h.lt
  have H := Lib.hid h; clear h
  go_enter Tryd.func22, Tryd.ntmps22
  go_wp2_with fail
  go_region
  go_wp2_with fail
  go_region
  go_wp2
  refine ret_act1 rfl rfl rfl (cs := zero13) ?_ rfl ⟨rfl, ?_, ?_⟩
  · exact Blk.ext (blk_at (by simp [World.setCell]) _) (((Ext.refl _).drew).drew)
  · exact RefPar.ext (show RefPar (((w.setCell ⟨g, 14, none⟩ (.bool true)).setCell ⟨g, 5, none⟩ (.int .i64 1)).setCell ⟨g, 6, none⟩ (.int .i64 (n0 * 10 + (r - 48)))) g ⟨i, ⟨kd, rr, pp, 0, 1, [n0 * 10 + (r - 48), n1, n2, n3, n4, n5, n6, n7]⟩, true⟩ from Blk.set_ (Blk.set_ (Blk.set_ (H.out) 14 _) 5 _) 6 _) ((((Ext.refl _).alloc _).drew).drew)
  · exact ((((Only.refl g w).setCell _).setCell _).setCell _).ext ((((Ext.refl _).alloc _).drew).drew)
set_option maxHeartbeats 2000000 in
set_option maxRecDepth 100000 in
theorem rcsi_dig0b (w : World) (g : Nat) (i kd rr pp n0 n1 n2 n3 n4 n5 n6 n7 r : Int) (b : Bool) (h : RefPar w g ⟨i, ⟨kd, rr, pp, 0, 0, [n0, n1, n2, n3, n4, n5, n6, n7]⟩, b⟩) (hb0 : 0 ≤ n0) (hb1 : n0 ≤ 9999) (h1 : 48 ≤ r) (h2 : r ≤ 57) (hv : 9999 < n0 * 10 + (r - 48)) :
    Calls Tryd.prog 22 #[.pointer (some ⟨g, 0, none⟩), .int .i32 r] w fun e w' => e = .returned (actV .none) ∧ RefPar w' g ⟨i, ⟨kd, rr, pp, 0, 1, [9999, n1, n2, n3, n4, n5, n6, n7]⟩, true⟩ ∧ Only g w w' := by
  obtain ⟨c0, c1, c2, c3, c4, c5, c6, c7, c8, c9, ca, cb, cc, cd, ce⟩ := h.facts
  have z5 := Blk.frozen h 5
  have z14 := Blk.frozen h 14
  have z6 := Blk.frozen h 6
  have hlt := h.lt
  have H := Lib.hid h; clear h
  go_enter Tryd.func22, Tryd.ntmps22
  go_wp2_with fail
  go_region
  go_wp2_with fail
  go_region
  go_wp2
  refine ret_act1 rfl rfl rfl (cs := zero13) ?_ rfl ⟨rfl, ?_, ?_⟩
  · exact Blk.ext (blk_at (by simp [World.setCell]) _) (((Ext.refl _).drew).drew)
  · exact RefPar.ext (show RefPar (((w.setCell ⟨g, 14, none⟩ (.bool true)).setCell ⟨g, 5, none⟩ (.int .i64 1)).setCell ⟨g, 6, none⟩ (.int .i64 (9999))) g ⟨i, ⟨kd, rr, pp, 0, 1, [9999, n1, n2, n3, n4, n5, n6, n7]⟩, true⟩ from Blk.set_ (Blk.set_ (Blk.set_ (H.out) 14 _) 5 _) 6 _) ((((Ext.refl _).alloc _).drew).drew)
  · exact ((((Only.refl g w).setCell _).setCell _).setCell _).ext ((((Ext.refl _).alloc _).drew).drew)
set_option maxHeartbeats 2000000 in
set_option maxRecDepth 100000 in
theorem rcsi_dig1a (w : World) (g : Nat) (i kd rr pp n0 n1 n2 n3 n4 n5 n6 n7 r : Int) (b : Bool) (h : RefPar w g ⟨i, ⟨kd, rr, pp, 0, 1, [n0, n1, n2, n3, n4, n5, n6, n7]⟩, b⟩) (hb0 : 0 ≤ n0) (hb1 : n0 ≤ 9999) (h1 : 48 ≤ r) (h2 : r ≤ 57) (hv : n0 * 10 + (r - 48) ≤ 9999) :
    Calls Tryd.prog 22 #[.pointer (some ⟨g, 0, none⟩), .int .i32 r] w fun e w' => e = .returned (actV .none) ∧ RefPar w' g ⟨i, ⟨kd, rr, pp, 0, 1, [n0 * 10 + (r - 48), n1, n2, n3, n4, n5, n6, n7]⟩, true⟩ ∧ Only g w w' := by
  obtain ⟨c0, c1, c2, c3, c4, c5, c6, c7, c8, c9, ca, cb, cc, cd, ce⟩ := h.facts
  have z5 := Blk.frozen h 5
  have z14 := Blk.frozen h 14
  have z6 := Blk.frozen h 6
  have hlt := h.lt
  have H := Lib.hid h; clear h
  go_enter Tryd.func22, Tryd.ntmps22
  go_wp2_with fail
  go_region
  go_wp2_with fail
  go_region
  go_wp2
  refine ret_act1 rfl rfl rfl (cs := zero13) ?_ rfl ⟨rfl, ?_, ?_⟩
  · exact Blk.ext (blk_at (by simp [World.setCell]) _) (((Ext.refl _).drew).drew)
  · exact RefPar.ext (show RefPar ((w.setCell ⟨g, 14, none⟩ (.bool true)).setCell ⟨g, 6, none⟩ (.int .i64 (n0 * 10 + (r - 48)))) g ⟨i, ⟨kd, rr, pp, 0, 1, [n0 * 10 + (r - 48), n1, n2, n3, n4, n5, n6, n7]⟩, true⟩ from Blk.set_ (Blk.set_ (H.out) 14 _) 6 _) ((((Ext.refl _).alloc _).drew).drew)
  · exact (((Only.refl g w).setCell _).setCell _).ext ((((Ext.refl _).alloc _).drew).drew)
set_option maxHeartbeats 2000000 in
set_option maxRecDepth 100000 in
theorem rcsi_dig1b (w : World) (g : Nat) (i kd rr pp n0 n1 n2 n3 n4 n5 n6 n7 r : Int) (b : Bool) (h : RefPar w g ⟨i, ⟨kd, rr, pp, 0, 1, [n0, n1, n2, n3, n4, n5, n6, n7]⟩, b⟩) (hb0 : 0 ≤ n0) (hb1 : n0 ≤ 9999) (h1 : 48 ≤ r) (h2 : r ≤ 57) (hv : 9999 < n0 * 10 + (r - 48)) :
    Calls Tryd.prog 22 #[.pointer (some ⟨g, 0, none⟩), .int .i32 r] w fun e w' => e = .returned (actV .none) ∧ RefPar w' g ⟨i, ⟨kd, rr, pp, 0, 1, [9999, n1, n2, n3, n4, n5, n6, n7]⟩, true⟩ ∧ Only g w w' := by
  obtain ⟨c0, c1, c2, c3, c4, c5, c6, c7, c8, c9, ca, cb, cc, cd, ce⟩ := h.facts
  have z5 := Blk.frozen h 5
  have z14 := Blk.frozen h 14
  have z6 := Blk.frozen h 6
  have hlt := h.lt
  have H := Lib.hid h; clear h
  go_enter Tryd.func22, Tryd.ntmps22
  go_wp2_with fail
  go_region
  go_wp2_with fail
  go_region
  go_wp2
  refine ret_act1 rfl rfl rfl (cs := zero13) ?_ rfl ⟨rfl, ?_, ?_⟩
  · exact Blk.ext (blk_at (by simp [World.setCell]) _) (((Ext.refl _).drew).drew)
  · exact RefPar.ext (show RefPar ((w.setCell ⟨g, 14, none⟩ (.bool true)).setCell ⟨g, 6, none⟩ (.int .i64 (9999))) g ⟨i, ⟨kd, rr, pp, 0, 1, [9999, n1, n2, n3, n4, n5, n6, n7]⟩, true⟩ from Blk.set_ (Blk.set_ (H.out) 14 _) 6 _) ((((Ext.refl _).alloc _).drew).drew)
  · exact (((Only.refl g w).setCell _).setCell _).ext ((((Ext.refl _).alloc _).drew).drew)
set_option maxHeartbeats 2000000 in
set_option maxRecDepth 100000 in
theorem rcsi_dig2a (w : World) (g : Nat) (i kd rr pp n0 n1 n2 n3 n4 n5 n6 n7 r : Int) (b : Bool) (h : RefPar w g ⟨i, ⟨kd, rr, pp, 0, 2, [n0, n1, n2, n3, n4, n5, n6, n7]⟩, b⟩) (hb0 : 0 ≤ n1) (hb1 : n1 ≤ 9999) (h1 : 48 ≤ r) (h2 : r ≤ 57) (hv : n1 * 10 + (r - 48) ≤ 9999) :
    Calls Tryd.prog 22 #[.pointer (some ⟨g, 0, none⟩), .int .i32 r] w fun e w' => e = .returned (actV .none) ∧ RefPar w' g ⟨i, ⟨kd, rr, pp, 0, 2, [n0, n1 * 10 + (r - 48), n2, n3, n4, n5, n6, n7]⟩, true⟩ ∧ Only g w w' := by
  obtain ⟨c0, c1, c2, c3, c4, c5, c6, c7, c8, c9, ca, cb, cc, cd, ce⟩ := h.facts
  have z5 := Blk.frozen h 5
  have z14 := Blk.frozen h 14
  have z7 := Blk.frozen h 7
  have hlt := h.lt
  have H := Lib.hid h; clear h
  go_enter Tryd.func22, Tryd.ntmps22
  go_wp2_with fail
  go_region
  go_wp2_with fail
  go_region
  go_wp2
  refine ret_act1 rfl rfl rfl (cs := zero13) ?_ rfl ⟨rfl, ?_, ?_⟩
  · exact Blk.ext (blk_at (by simp [World.setCell]) _) (((Ext.refl _).drew).drew)
  · exact RefPar.ext (show RefPar ((w.setCell ⟨g, 14, none⟩ (.bool true)).setCell ⟨g, 7, none⟩ (.int .i64 (n1 * 10 + (r - 48)))) g ⟨i, ⟨kd, rr, pp, 0, 2, [n0, n1 * 10 + (r - 48), n2, n3, n4, n5, n6, n7]⟩, true⟩ from Blk.set_ (Blk.set_ (H.out) 14 _) 7 _) ((((Ext.refl _).alloc _).drew).drew)
  · exact (((Only.refl g w).setCell _).setCell _).ext ((((Ext.refl _).alloc _).drew).drew)
set_option maxHeartbeats 2000000 in
set_option maxRecDepth 100000 in
theorem rcsi_dig2b (w : World) (g : Nat) (i kd rr pp n0 n1 n2 n3 n4 n5 n6 n7 r : Int) (b : Bool) (h : RefPar w g ⟨i, ⟨kd, rr, pp, 0, 2, [n0, n1, n2, n3, n4, n5, n6, n7]⟩, b⟩) (hb0 : 0 ≤ n1) (hb1 : n1 ≤ 9999) (h1 : 48 ≤ r) (h2 : r ≤ 57) (hv : 9999 < n1 * 10 + (r - 48)) :
    Calls Tryd.prog 22 #[.pointer (some ⟨g, 0, none⟩), .int .i32 r] w fun e w' => e = .returned (actV .none) ∧ RefPar w' g ⟨i, ⟨kd, rr, pp, 0, 2, [n0, 9999, n2, n3, n4, n5, n6, n7]⟩, true⟩ ∧ Only g w w' := by
  obtain ⟨c0, c1, c2, c3, c4, c5, c6, c7, c8, c9, ca, cb, cc, cd, ce⟩ := h.facts
  have z5 := Blk.frozen h 5
  have z14 := Blk.frozen h 14
  have z7 := Blk.frozen h 7
  have hlt := h.lt
  have H := Lib.hid h; clear h
  go_enter Tryd.func22, Tryd.ntmps22
  go_wp2_with fail
  go_region
  go_wp2_with fail
  go_region
  go_wp2
  refine ret_act1 rfl rfl rfl (cs := zero13) ?_ rfl ⟨rfl, ?_, ?_⟩
  · exact Blk.ext (blk_at (by simp [World.setCell]) _) (((Ext.refl _).drew).drew)
  · exact RefPar.ext (show RefPar ((w.setCell ⟨g, 14, none⟩ (.bool true)).setCell ⟨g, 7, none⟩ (.int .i64 (9999))) g ⟨i, ⟨kd, rr, pp, 0, 2, [n0, 9999, n2, n3, n4, n5, n6, n7]⟩, true⟩ from Blk.set_ (Blk.set_ (H.out) 14 _) 7 _) ((((Ext.refl _).alloc _).drew).drew)
  · exact (((Only.refl g w).setCell _).setCell _).ext ((((Ext.refl _).alloc _).drew).drew)
set_option maxHeartbeats 2000000 in
set_option maxRecDepth 100000 in
theorem rcsi_dig3a (w : World) (g : Nat) (i kd rr pp n0 n1 n2 n3 n4 n5 n6 n7 r : Int) (b : Bool) (h : RefPar w g ⟨i, ⟨kd, rr, pp, 0, 3, [n0, n1, n2, n3, n4, n5, n6, n7]⟩, b⟩) (hb0 : 0 ≤ n2) (hb1 : n2 ≤ 9999) (h1 : 48 ≤ r) (h2 : r ≤ 57) (hv : n2 * 10 + (r - 48) ≤ 9999) :
    Calls Tryd.prog 22 #[.pointer (some ⟨g, 0, none⟩), .int .i32 r] w fun e w' => e = .returned (actV .none) ∧ RefPar w' g ⟨i, ⟨kd, rr, pp, 0, 3, [n0, n1, n2 * 10 + (r - 48), n3, n4, n5, n6, n7]⟩, true⟩ ∧ Only g w w' := by
  obtain ⟨c0, c1, c2, c3, c4, c5, c6, c7, c8, c9, ca, cb, cc, cd, ce⟩ := h.facts
  have z5 := Blk.frozen h 5
  have z14 := Blk.frozen h 14
  have z8 := Blk.frozen h 8
  have hlt := h.lt
  have H := Lib.hid h; clear h
  go_enter Tryd.func22, Tryd.ntmps22
  go_wp2_with fail
  go_region
  go_wp2_with fail
  go_region
  go_wp2
  refine ret_act1 rfl rfl rfl (cs := zero13) ?_ rfl ⟨rfl, ?_, ?_⟩
  · exact Blk.ext (blk_at (by simp [World.setCell]) _) (((Ext.refl _).drew).drew)
  · exact RefPar.ext (show RefPar ((w.setCell ⟨g, 14, none⟩ (.bool true)).setCell ⟨g, 8, none⟩ (.int .i64 (n2 * 10 + (r - 48)))) g ⟨i, ⟨kd, rr, pp, 0, 3, [n0, n1, n2 * 10 + (r - 48), n3, n4, n5, n6, n7]⟩, true⟩ from Blk.set_ (Blk.set_ (H.out) 14 _) 8 _) ((((Ext.refl _).alloc _).drew).drew)
  · exact (((Only.refl g w).setCell _).setCell _).ext ((((Ext.refl _).alloc _).drew).drew)
set_option maxHeartbeats 2000000 in
set_option maxRecDepth 100000 in
theorem rcsi_dig3b (w : World) (g : Nat) (i kd rr pp n0 n1 n2 n3 n4 n5 n6 n7 r : Int) (b : Bool) (h : RefPar w g ⟨i, ⟨kd, rr, pp, 0, 3, [n0, n1, n2, n3, n4, n5, n6, n7]⟩, b⟩) (hb0 : 0 ≤ n2) (hb1 : n2 ≤ 9999) (h1 : 48 ≤ r) (h2 : r ≤ 57) (hv : 9999 < n2 * 10 + (r - 48)) :
    Calls Tryd.prog 22 #[.pointer (some ⟨g, 0, none⟩), .int .i32 r] w fun e w' => e = .returned (actV .none) ∧ RefPar w' g ⟨i, ⟨kd, rr, pp, 0, 3, [n0, n1, 9999, n3, n4, n5, n6, n7]⟩, true⟩ ∧ Only g w w' := by
  obtain ⟨c0, c1, c2, c3, c4, c5, c6, c7, c8, c9, ca, cb, cc, cd, ce⟩ := h.facts
  have z5 := Blk.frozen h 5
  have z14 := Blk.frozen h 14
  have z8 := Blk.frozen h 8
  have hlt := h.lt
  have H := Lib.hid h; clear h
  go_enter Tryd.func22, Tryd.ntmps22
  go_wp2_with fail
  go_region
  go_wp2_with fail
  go_region
  go_wp2
  refine ret_act1 rfl rfl rfl (cs := zero13) ?_ rfl ⟨rfl, ?_, ?_⟩
  · exact Blk.ext (blk_at (by simp [World.setCell]) _) (((Ext.refl _).drew).drew)
  · exact RefPar.ext (show RefPar ((w.setCell ⟨g, 14, none⟩ (.bool true)).setCell ⟨g, 8, none⟩ (.int .i64 (9999))) g ⟨i, ⟨kd, rr, pp, 0, 3, [n0, n1, 9999, n3, n4, n5, n6, n7]⟩, true⟩ from Blk.set_ (Blk.set_ (H.out) 14 _) 8 _) ((((Ext.refl _).alloc _).drew).drew)
  · exact (((Only.refl g w).setCell _).setCell _).ext ((((Ext.refl _).alloc _).drew).drew)
set_option maxHeartbeats 2000000 in
set_option maxRecDepth 100000 in
theorem rcsi_dig4a (w : World) (g : Nat) (i kd rr pp n0 n1 n2 n3 n4 n5 n6 n7 r : Int) (b : Bool) (h : RefPar w g ⟨i, ⟨kd, rr, pp, 0, 4, [n0, n1, n2, n3, n4, n5, n6, n7]⟩, b⟩) (hb0 : 0 ≤ n3) (hb1 : n3 ≤ 9999) (h1 : 48 ≤ r) (h2 : r ≤ 57) (hv : n3 * 10 + (r - 48) ≤ 9999) :
    Calls Tryd.prog 22 #[.pointer (some ⟨g, 0, none⟩), .int .i32 r] w fun e w' => e = .returned (actV .none) ∧ RefPar w' g ⟨i, ⟨kd, rr, pp, 0, 4, [n0, n1, n2, n3 * 10 + (r - 48), n4, n5, n6, n7]⟩, true⟩ ∧ Only g w w' := by
  obtain ⟨c0, c1, c2, c3, c4, c5, c6, c7, c8, c9, ca, cb, cc, cd, ce⟩ := h.facts
  have z5 := Blk.frozen h 5
  have z14 := Blk.frozen h 14
  have z9 := Blk.frozen h 9
  have hlt := h.lt
  have H := Lib.hid h; clear h
  go_enter Tryd.func22, Tryd.ntmps22
  go_wp2_with fail
  go_region
  go_wp2_with fail
  go_region
  go_wp2
  refine ret_act1 rfl rfl rfl (cs := zero13) ?_ rfl ⟨rfl, ?_, ?_⟩
  · exact Blk.ext (blk_at (by simp [World.setCell]) _) (((Ext.refl _).drew).drew)
  · exact RefPar.ext (show RefPar ((w.setCell ⟨g, 14, none⟩ (.bool true)).setCell ⟨g, 9, none⟩ (.int .i64 (n3 * 10 + (r - 48)))) g ⟨i, ⟨kd, rr, pp, 0, 4, [n0, n1, n2, n3 * 10 + (r - 48), n4, n5, n6, n7]⟩, true⟩ from Blk.set_ (Blk.set_ (H.out) 14 _) 9 _) ((((Ext.refl _).alloc _).drew).drew)
  · exact (((Only.refl g w).setCell _).setCell _).ext ((((Ext.refl _).alloc _).drew).drew)
set_option maxHeartbeats 2000000 in
set_option maxRecDepth 100000 in
theorem rcsi_dig4b (w : World) (g : Nat) (i kd rr pp n0 n1 n2 n3 n4 n5 n6 n7 r : Int) (b : Bool) (h : RefPar w g ⟨i, ⟨kd, rr, pp, 0, 4, [n0, n1, n2, n3, n4, n5, n6, n7]⟩, b⟩) (hb0 : 0 ≤ n3) (hb1 : n3 ≤ 9999) (h1 : 48 ≤ r) (h2 : r ≤ 57) (hv : 9999 < n3 * 10 + (r - 48)) :
    Calls Tryd.prog 22 #[.pointer (some ⟨g, 0, none⟩), .int .i32 r] w fun e w' => e = .returned (actV .none) ∧ RefPar w' g ⟨i, ⟨kd, rr, pp, 0, 4, [n0, n1, n2, 9999, n4, n5, n6, n7]⟩, true⟩ ∧ Only g w w' := by
  obtain ⟨c0, c1, c2, c3, c4, c5, c6, c7, c8, c9, ca, cb, cc, cd, ce⟩ := h.facts
  have z5 := Blk.frozen h 5
  have z14 := Blk.frozen h 14
  have z9 := Blk.frozen h 9
  have hlt := h.lt
  have H := Lib.hid h; clear h
  go_enter Tryd.func22, Tryd.ntmps22
  go_wp2_with fail
  go_region
  go_wp2_with fail
  go_region
  go_wp2
  refine ret_act1 rfl rfl rfl (cs := zero13) ?_ rfl ⟨rfl, ?_, ?_⟩
  · exact Blk.ext (blk_at (by simp [World.setCell]) _) (((Ext.refl _).drew).drew)
  · exact RefPar.ext (show RefPar ((w.setCell ⟨g, 14, none⟩ (.bool true)).setCell ⟨g, 9, none⟩ (.int .i64 (9999))) g ⟨i, ⟨kd, rr, pp, 0, 4, [n0, n1, n2, 9999, n4, n5, n6, n7]⟩, true⟩ from Blk.set_ (Blk.set_ (H.out) 14 _) 9 _) ((((Ext.refl _).alloc _).drew).drew)
  · exact (((Only.refl g w).setCell _).setCell _).ext ((((Ext.refl _).alloc _).drew).drew)
set_option maxHeartbeats 2000000 in
set_option maxRecDepth 100000 in
theorem rcsi_dig5a (w : World) (g : Nat) (i kd rr pp n0 n1 n2 n3 n4 n5 n6 n7 r : Int) (b : Bool) (h : RefPar w g ⟨i, ⟨kd, rr, pp, 0, 5, [n0, n1, n2, n3, n4, n5, n6, n7]⟩, b⟩) (hb0 : 0 ≤ n4) (hb1 : n4 ≤ 9999) (h1 : 48 ≤ r) (h2 : r ≤ 57) (hv : n4 * 10 + (r - 48) ≤ 9999) :
    Calls Tryd.prog 22 #[.pointer (some ⟨g, 0, none⟩), .int .i32 r] w fun e w' => e = .returned (actV .none) ∧ RefPar w' g ⟨i, ⟨kd, rr, pp, 0, 5, [n0, n1, n2, n3, n4 * 10 + (r - 48), n5, n6, n7]⟩, true⟩ ∧ Only g w w' := by
  obtain ⟨c0, c1, c2, c3, c4, c5, c6, c7, c8, c9, ca, cb, cc, cd, ce⟩ := h.facts
  have z5 := Blk.frozen h 5
  have z14 := Blk.frozen h 14
  have z10 := Blk.frozen h 10
  have hlt := h.lt
  have H := Lib.hid h; clear h
  go_enter Tryd.func22, Tryd.ntmps22
  go_wp2_with fail
  go_region
  go_wp2_with fail
  go_region
  go_wp2
  refine ret_act1 rfl rfl rfl (cs := zero13) ?_ rfl ⟨rfl, ?_, ?_⟩
  · exact Blk.ext (blk_at (by simp [World.setCell]) _) (((Ext.refl _).drew).drew)
  · exact RefPar.ext (show RefPar ((w.setCell ⟨g, 14, none⟩ (.bool true)).setCell ⟨g, 10, none⟩ (.int .i64 (n4 * 10 + (r - 48)))) g ⟨i, ⟨kd, rr, pp, 0, 5, [n0, n1, n2, n3, n4 * 10 + (r - 48), n5, n6, n7]⟩, true⟩ from Blk.set_ (Blk.set_ (H.out) 14 _) 10 _) ((((Ext.refl _).alloc _).drew).drew)
  · exact (((Only.refl g w).setCell _).setCell _).ext ((((Ext.refl _).alloc _).drew).drew)
set_option maxHeartbeats 2000000 in
set_option maxRecDepth 100000 in
theorem rcsi_dig5b (w : World) (g : Nat) (i kd rr pp n0 n1 n2 n3 n4 n5 n6 n7 r : Int) (b : Bool) (h : RefPar w g ⟨i, ⟨kd, rr, pp, 0, 5, [n0, n1, n2, n3, n4, n5, n6, n7]⟩, b⟩) (hb0 : 0 ≤ n4) (hb1 : n4 ≤ 9999) (h1 : 48 ≤ r) (h2 : r ≤ 57) (hv : 9999 < n4 * 10 + (r - 48)) :
    Calls Tryd.prog 22 #[.pointer (some ⟨g, 0, none⟩), .int .i32 r] w fun e w' => e = .returned (actV .none) ∧ RefPar w' g ⟨i, ⟨kd, rr, pp, 0, 5, [n0, n1, n2, n3, 9999, n5, n6, n7]⟩, true⟩ ∧ Only g w w' := by
  obtain ⟨c0, c1, c2, c3, c4, c5, c6, c7, c8, c9, ca, cb, cc, cd, ce⟩ := h.facts
  have z5 := Blk.frozen h 5
  have z14 := Blk.frozen h 14
  have z10 := Blk.frozen h 10
  have hlt := h.lt
  have H := Lib.hid h; clear h
  go_enter Tryd.func22, Tryd.ntmps22
  go_wp2_with fail
  go_region
  go_wp2_with fail
  go_region
  go_wp2
  refine ret_act1 rfl rfl rfl (cs := zero13) ?_ rfl ⟨rfl, ?_, ?_⟩
  · exact Blk.ext (blk_at (by simp [World.setCell]) _) (((Ext.refl _).drew).drew)
  · exact RefPar.ext (show RefPar ((w.setCell ⟨g, 14, none⟩ (.bool true)).setCell ⟨g, 10, none⟩ (.int .i64 (9999))) g ⟨i, ⟨kd, rr, pp, 0, 5, [n0, n1, n2, n3, 9999, n5, n6, n7]⟩, true⟩ from Blk.set_ (Blk.set_ (H.out) 14 _) 10 _) ((((Ext.refl _).alloc _).drew).drew)
  · exact (((Only.refl g w).setCell _).setCell _).ext ((((Ext.refl _).alloc _).drew).drew)
set_option maxHeartbeats 2000000 in
set_option maxRecDepth 100000 in
theorem rcsi_dig6a (w : World) (g : Nat) (i kd rr pp n0 n1 n2 n3 n4 n5 n6 n7 r : Int) (b : Bool) (h : RefPar w g ⟨i, ⟨kd, rr, pp, 0, 6, [n0, n1, n2, n3, n4, n5, n6, n7]⟩, b⟩) (hb0 : 0 ≤ n5) (hb1 : n5 ≤ 9999) (h1 : 48 ≤ r) (h2 : r ≤ 57) (hv : n5 * 10 + (r - 48) ≤ 9999) :
    Calls Tryd.prog 22 #[.pointer (some ⟨g, 0, none⟩), .int .i32 r] w fun e w' => e = .returned (actV .none) ∧ RefPar w' g ⟨i, ⟨kd, rr, pp, 0, 6, [n0, n1, n2, n3, n4, n5 * 10 + (r - 48), n6, n7]⟩, true⟩ ∧ Only g w w' := by
  obtain ⟨c0, c1, c2, c3, c4, c5, c6, c7, c8, c9, ca, cb, cc, cd, ce⟩ := h.facts
  have z5 := Blk.frozen h 5
  have z14 := Blk.frozen h 14
  have z11 := Blk.frozen h 11
  have hlt := h.lt
  have H := Lib.hid h; clear h
  go_enter Tryd.func22, Tryd.ntmps22
  go_wp2_with fail
  go_region
  go_wp2_with fail
  go_region
  go_wp2
  refine ret_act1 rfl rfl rfl (cs := zero13) ?_ rfl ⟨rfl, ?_, ?_⟩
  · exact Blk.ext (blk_at (by simp [World.setCell]) _) (((Ext.refl _).drew).drew)
  · exact RefPar.ext (show RefPar ((w.setCell ⟨g, 14, none⟩ (.bool true)).setCell ⟨g, 11, none⟩ (.int .i64 (n5 * 10 + (r - 48)))) g ⟨i, ⟨kd, rr, pp, 0, 6, [n0, n1, n2, n3, n4, n5 * 10 + (r - 48), n6, n7]⟩, true⟩ from Blk.set_ (Blk.set_ (H.out) 14 _) 11 _) ((((Ext.refl _).alloc _).drew).drew)
  · exact (((Only.refl g w).setCell _).setCell _).ext ((((Ext.refl _).alloc _).drew).drew)
set_option maxHeartbeats 2000000 in
set_option maxRecDepth 100000 in
theorem rcsi_dig6b (w : World) (g : Nat) (i kd rr pp n0 n1 n2 n3 n4 n5 n6 n7 r : Int) (b : Bool) (h : RefPar w g ⟨i, ⟨kd, rr, pp, 0, 6, [n0, n1, n2, n3, n4, n5, n6, n7]⟩, b⟩) (hb0 : 0 ≤ n5) (hb1 : n5 ≤ 9999) (h1 : 48 ≤ r) (h2 : r ≤ 57) (hv : 9999 < n5 * 10 + (r - 48)) :
    Calls Tryd.prog 22 #[.pointer (some ⟨g, 0, none⟩), .int .i32 r] w fun e w' => e = .returned (actV .none) ∧ RefPar w' g ⟨i, ⟨kd, rr, pp, 0, 6, [n0, n1, n2, n3, n4, 9999, n6, n7]⟩, true⟩ ∧ Only g w w' := by
  obtain ⟨c0, c1, c2, c3, c4, c5, c6, c7, c8, c9, ca, cb, cc, cd, ce⟩ := h.facts
  have z5 := Blk.frozen h 5
  have z14 := Blk.frozen h 14
  have z11 := Blk.frozen h 11
  have hlt := h.lt
  have H := Lib.hid h; clear h
  go_enter Tryd.func22, Tryd.ntmps22
  go_wp2_with fail
  go_region
  go_wp2_with fail
  go_region
  go_wp2
  refine ret_act1 rfl rfl rfl (cs := zero13) ?_ rfl ⟨rfl, ?_, ?_⟩
  · exact Blk.ext (blk_at (by simp [World.setCell]) _) (((Ext.refl _).drew).drew)
  · exact RefPar.ext (show RefPar ((w.setCell ⟨g, 14, none⟩ (.bool true)).setCell ⟨g, 11, none⟩ (.int .i64 (9999))) g ⟨i, ⟨kd, rr, pp, 0, 6, [n0, n1, n2, n3, n4, 9999, n6, n7]⟩, true⟩ from Blk.set_ (Blk.set_ (H.out) 14 _) 11 _) ((((Ext.refl _).alloc _).drew).drew)
  · exact (((Only.refl g w).setCell _).setCell _).ext ((((Ext.refl _).alloc _).drew).drew)
set_option maxHeartbeats 2000000 in
set_option maxRecDepth 100000 in
theorem rcsi_dig7a (w : World) (g : Nat) (i kd rr pp n0 n1 n2 n3 n4 n5 n6 n7 r : Int) (b : Bool) (h : RefPar w g ⟨i, ⟨kd, rr, pp, 0, 7, [n0, n1, n2, n3, n4, n5, n6, n7]⟩, b⟩) (hb0 : 0 ≤ n6) (hb1 : n6 ≤ 9999) (h1 : 48 ≤ r) (h2 : r ≤ 57) (hv : n6 * 10 + (r - 48) ≤ 9999) :
    Calls Tryd.prog 22 #[.pointer (some ⟨g, 0, none⟩), .int .i32 r] w fun e w' => e = .returned (actV .none) ∧ RefPar w' g ⟨i, ⟨kd, rr, pp, 0, 7, [n0, n1, n2, n3, n4, n5, n6 * 10 + (r - 48), n7]⟩, true⟩ ∧ Only g w w' := by
  obtain ⟨c0, c1, c2, c3, c4, c5, c6, c7, c8, c9, ca, cb, cc, cd, ce⟩ := h.facts
  have z5 := Blk.frozen h 5
  have z14 := Blk.frozen h 14
  have z12 := Blk.frozen h 12
  have hlt := h.lt
  have H := Lib.hid h; clear h
  go_enter Tryd.func22, Tryd.ntmps22
  go_wp2_with fail
  go_region
  go_wp2_with fail
  go_region
  go_wp2
  refine ret_act1 rfl rfl rfl (cs := zero13) ?_ rfl ⟨rfl, ?_, ?_⟩
  · exact Blk.ext (blk_at (by simp [World.setCell]) _) (((Ext.refl _).drew).drew)
  · exact RefPar.ext (show RefPar ((w.setCell ⟨g, 14, none⟩ (.bool true)).setCell ⟨g, 12, none⟩ (.int .i64 (n6 * 10 + (r - 48)))) g ⟨i, ⟨kd, rr, pp, 0, 7, [n0, n1, n2, n3, n4, n5, n6 * 10 + (r - 48), n7]⟩, true⟩ from Blk.set_ (Blk.set_ (H.out) 14 _) 12 _) ((((Ext.refl _).alloc _).drew).drew)
  · exact (((Only.refl g w).setCell _).setCell _).ext ((((Ext.refl _).alloc _).drew).drew)
set_option maxHeartbeats 2000000 in
set_option maxRecDepth 100000 in
theorem rcsi_dig7b (w : World) (g : Nat) (i kd rr pp n0 n1 n2 n3 n4 n5 n6 n7 r : Int) (b : Bool) (h : RefPar w g ⟨i, ⟨kd, rr, pp, 0, 7, [n0, n1, n2, n3, n4, n5, n6, n7]⟩, b⟩) (hb0 : 0 ≤ n6) (hb1 : n6 ≤ 9999) (h1 : 48 ≤ r) (h2 : r ≤ 57) (hv : 9999 < n6 * 10 + (r - 48)) :
    Calls Tryd.prog 22 #[.pointer (some ⟨g, 0, none⟩), .int .i32 r] w fun e w' => e = .returned (actV .none) ∧ RefPar w' g ⟨i, ⟨kd, rr, pp, 0, 7, [n0, n1, n2, n3, n4, n5, 9999, n7]⟩, true⟩ ∧ Only g w w' := by
  obtain ⟨c0, c1, c2, c3, c4, c5, c6, c7, c8, c9, ca, cb, cc, cd, ce⟩ := h.facts
  have z5 := Blk.frozen h 5
  have z14 := Blk.frozen h 14
  have z12 := Blk.frozen h 12
  have hlt := h.lt
  have H := Lib.hid h; clear h
  go_enter Tryd.func22, Tryd.ntmps22
  go_wp2_with fail
  go_region
  go_wp2_with fail
  go_region
  go_wp2
  refine ret_act1 rfl rfl rfl (cs := zero13) ?_ rfl ⟨rfl, ?_, ?_⟩
  · exact Blk.ext (blk_at (by simp [World.setCell]) _) (((Ext.refl _).drew).drew)
  · exact RefPar.ext (show RefPar ((w.setCell ⟨g, 14, none⟩ (.bool true)).setCell ⟨g, 12, none⟩ (.int .i64 (9999))) g ⟨i, ⟨kd, rr, pp, 0, 7, [n0, n1, n2, n3, n4, n5, 9999, n7]⟩, true⟩ from Blk.set_ (Blk.set_ (H.out) 14 _) 12 _) ((((Ext.refl _).alloc _).drew).drew)
  · exact (((Only.refl g w).setCell _).setCell _).ext ((((Ext.refl _).alloc _).drew).drew)
set_option maxHeartbeats 2000000 in
set_option maxRecDepth 100000 in
theorem rcsi_dig8a (w : World) (g : Nat) (i kd rr pp n0 n1 n2 n3 n4 n5 n6 n7 r : Int) (b : Bool) (h : RefPar w g ⟨i, ⟨kd, rr, pp, 0, 8, [n0, n1, n2, n3, n4, n5, n6, n7]⟩, b⟩) (hb0 : 0 ≤ n7) (hb1 : n7 ≤ 9999) (h1 : 48 ≤ r) (h2 : r ≤ 57) (hv : n7 * 10 + (r - 48) ≤ 9999) :
    Calls Tryd.prog 22 #[.pointer (some ⟨g, 0, none⟩), .int .i32 r] w fun e w' => e = .returned (actV .none) ∧ RefPar w' g ⟨i, ⟨kd, rr, pp, 0, 8, [n0, n1, n2, n3, n4, n5, n6, n7 * 10 + (r - 48)]⟩, true⟩ ∧ Only g w w' := by
  obtain ⟨c0, c1, c2, c3, c4, c5, c6, c7, c8, c9, ca, cb, cc, cd, ce⟩ := h.facts
  have z5 := Blk.frozen h 5
  have z14 := Blk.frozen h 14
  have z13 := Blk.frozen h 13
  have hlt := h.lt
  have H := Lib.hid h; clear h
  go_enter Tryd.func22, Tryd.ntmps22
  go_wp2_with fail
  go_region
  go_wp2_with fail
  go_region
  go_wp2
  refine ret_act1 rfl rfl rfl (cs := zero13) ?_ rfl ⟨rfl, ?_, ?_⟩
  · exact Blk.ext (blk_at (by simp [World.setCell]) _) (((Ext.refl _).drew).drew)
  · exact RefPar.ext (show RefPar ((w.setCell ⟨g, 14, none⟩ (.bool true)).setCell ⟨g, 13, none⟩ (.int .i64 (n7 * 10 + (r - 48)))) g ⟨i, ⟨kd, rr, pp, 0, 8, [n0, n1, n2, n3, n4, n5, n6, n7 * 10 + (r - 48)]⟩, true⟩ from Blk.set_ (Blk.set_ (H.out) 14 _) 13 _) ((((Ext.refl _).alloc _).drew).drew)
  · exact (((Only.refl g w).setCell _).setCell _).ext ((((Ext.refl _).alloc _).drew).drew)
set_option maxHeartbeats 2000000 in
set_option maxRecDepth 100000 in
theorem rcsi_dig8b (w : World) (g : Nat) (i kd rr pp n0 n1 n2 n3 n4 n5 n6 n7 r : Int) (b : Bool) (h : RefPar w g ⟨i, ⟨kd, rr, pp, 0, 8, [n0, n1, n2, n3, n4, n5, n6, n7]⟩, b⟩) (hb0 : 0 ≤ n7) (hb1 : n7 ≤ 9999) (h1 : 48 ≤ r) (h2 : r ≤ 57) (hv : 9999 < n7 * 10 + (r - 48)) :
    Calls Tryd.prog 22 #[.pointer (some ⟨g, 0, none⟩), .int .i32 r] w fun e w' => e = .returned (actV .none) ∧ RefPar w' g ⟨i, ⟨kd, rr, pp, 0, 8, [n0, n1, n2, n3, n4, n5, n6, 9999]⟩, true⟩ ∧ Only g w w' := by
  obtain ⟨c0, c1, c2, c3, c4, c5, c6, c7, c8, c9, ca, cb, cc, cd, ce⟩ := h.facts
  have z5 := Blk.frozen h 5
  have z14 := Blk.frozen h 14
  have z13 := Blk.frozen h 13
  have hlt := h.lt
  have H := Lib.hid h; clear h
  go_enter Tryd.func22, Tryd.ntmps22
  go_wp2_with fail
  go_region
  go_wp2_with fail
  go_region
  go_wp2
  refine ret_act1 rfl rfl rfl (cs := zero13) ?_ rfl ⟨rfl, ?_, ?_⟩
  · exact Blk.ext (blk_at (by simp [World.setCell]) _) (((Ext.refl _).drew).drew)
  · exact RefPar.ext (show RefPar ((w.setCell ⟨g, 14, none⟩ (.bool true)).setCell ⟨g, 13, none⟩ (.int .i64 (9999))) g ⟨i, ⟨kd, rr, pp, 0, 8, [n0, n1, n2, n3, n4, n5, n6, 9999]⟩, true⟩ from Blk.set_ (Blk.set_ (H.out) 14 _) 13 _) ((((Ext.refl _).alloc _).drew).drew)
  · exact (((Only.refl g w).setCell _).setCell _).ext ((((Ext.refl _).alloc _).drew).drew)
set_option maxHeartbeats 2000000 in
set_option maxRecDepth 100000 in
theorem rcsi_dig9 (w : World) (g : Nat) (i kd rr pp n0 n1 n2 n3 n4 n5 n6 n7 r : Int) (b : Bool) (h : RefPar w g ⟨i, ⟨kd, rr, pp, 0, 9, [n0, n1, n2, n3, n4, n5, n6, n7]⟩, b⟩) (h1 : 48 ≤ r) (h2 : r ≤ 57) :
    Calls Tryd.prog 22 #[.pointer (some ⟨g, 0, none⟩), .int .i32 r] w fun e w' => e = .returned (actV .none) ∧ RefPar w' g ⟨i, ⟨kd, rr, pp, 0, 9, [n0, n1, n2, n3, n4, n5, n6, n7]⟩, true⟩ ∧ Only g w w' := by
  obtain ⟨c0, c1, c2, c3, c4, c5, c6, c7, c8, c9, ca, cb, cc, cd, ce⟩ := h.facts
  have z14 := Blk.frozen h 14
  have hlt := h.lt
  have H := Lib.hid h; clear h
  have HP : RefPar (w.setCell ⟨g, 14, none⟩ (.bool true)) g ⟨i, ⟨kd, rr, pp, 0, 9, [n0, n1, n2, n3, n4, n5, n6, n7]⟩, true⟩ := Blk.set_ (H.out) 14 _
  have HQ := Lib.hid HP; clear HP
  go_enter Tryd.func22, Tryd.ntmps22
  go_wp2
  exact ret_act1 rfl rfl rfl (blk_at (by simp [World.setCell]) _) rfl ⟨rfl, ref_end HQ.out ((Only.refl g w).setCell _) _⟩
theorem RCsi_of (w : World) (g : Nat) (t : RPar) (r : Int) (h : RefPar w g t) (hok : t.ok) (hr : 32 ≤ r) :
    Calls Tryd.prog 22 #[.pointer (some ⟨g, 0, none⟩), .int .i32 r] w fun e w' => e = .returned (actV (refCsiE t r).2) ∧ RefPar w' g (refCsiE t r).1 ∧ Only g w w' := by
  obtain ⟨n0, n1, n2, n3, n4, n5, n6, n7, e8⟩ := eight _ hok.len
  have hn9 := hok.n
  have hs := hok.nums
  obtain ⟨i, ⟨kd, rr, pp, m, n, ns⟩, b⟩ := t
  simp only at e8 hn9 hs
  subst e8
  clear hok
  simp only [List.mem_cons, List.not_mem_nil, or_false, forall_eq_or_imp, forall_eq] at hs
  obtain ⟨b0, b1, b2, b3, b4, b5, b6, b7⟩ := hs
  unfold refCsiE
  simp only
  by_cases k1 : 48 ≤ r ∧ r ≤ 57
  · by_cases hm : m = 0
    · subst hm
      rw [if_pos ⟨k1.1, k1.2, rfl⟩]
      unfold refDigitE
      have hc : n = 0 ∨ n = 1 ∨ n = 2 ∨ n = 3 ∨ n = 4 ∨ n = 5 ∨ n = 6 ∨ n = 7 ∨ n = 8 ∨ n = 9 := by omega
      rcases hc with rfl | rfl | rfl | rfl | rfl | rfl | rfl | rfl | rfl | rfl
      · by_cases hv : n0 * 10 + (r - 48) ≤ 9999
        · have e : min (n0 * 10 + (r - 48)) 9999 = n0 * 10 + (r - 48) := by omega
          show Calls _ _ _ _ fun e w' => e = .returned (actV .none) ∧ RefPar w' g ⟨i, ⟨kd, rr, pp, 0, 1, [min (n0 * 10 + (r - 48)) 9999, n1, n2, n3, n4, n5, n6, n7]⟩, true⟩ ∧ Only g w w'
          rw [e]
          exact rcsi_dig0a w g i kd rr pp n0 n1 n2 n3 n4 n5 n6 n7 r b h b0.1 b0.2 k1.1 k1.2 hv
        · have e : min (n0 * 10 + (r - 48)) 9999 = 9999 := by omega
          show Calls _ _ _ _ fun e w' => e = .returned (actV .none) ∧ RefPar w' g ⟨i, ⟨kd, rr, pp, 0, 1, [min (n0 * 10 + (r - 48)) 9999, n1, n2, n3, n4, n5, n6, n7]⟩, true⟩ ∧ Only g w w'
          rw [e]
          exact rcsi_dig0b w g i kd rr pp n0 n1 n2 n3 n4 n5 n6 n7 r b h b0.1 b0.2 k1.1 k1.2 (by omega)
      · by_cases hv : n0 * 10 + (r - 48) ≤ 9999
        · have e : min (n0 * 10 + (r - 48)) 9999 = n0 * 10 + (r - 48) := by omega
          show Calls _ _ _ _ fun e w' => e = .returned (actV .none) ∧ RefPar w' g ⟨i, ⟨kd, rr, pp, 0, 1, [min (n0 * 10 + (r - 48)) 9999, n1, n2, n3, n4, n5, n6, n7]⟩, true⟩ ∧ Only g w w'
          rw [e]
          exact rcsi_dig1a w g i kd rr pp n0 n1 n2 n3 n4 n5 n6 n7 r b h b0.1 b0.2 k1.1 k1.2 hv
        · have e : min (n0 * 10 + (r - 48)) 9999 = 9999 := by omega
          show Calls _ _ _ _ fun e w' => e = .returned (actV .none) ∧ RefPar w' g ⟨i, ⟨kd, rr, pp, 0, 1, [min (n0 * 10 + (r - 48)) 9999, n1, n2, n3, n4, n5, n6, n7]⟩, true⟩ ∧ Only g w w'
          rw [e]
          exact rcsi_dig1b w g i kd rr pp n0 n1 n2 n3 n4 n5 n6 n7 r b h b0.1 b0.2 k1.1 k1.2 (by omega)
      · by_cases hv : n1 * 10 + (r - 48) ≤ 9999
        · have e : min (n1 * 10 + (r - 48)) 9999 = n1 * 10 + (r - 48) := by omega
          show Calls _ _ _ _ fun e w' => e = .returned (actV .none) ∧ RefPar w' g ⟨i, ⟨kd, rr, pp, 0, 2, [n0, min (n1 * 10 + (r - 48)) 9999, n2, n3, n4, n5, n6, n7]⟩, true⟩ ∧ Only g w w'
          rw [e]
          exact rcsi_dig2a w g i kd rr pp n0 n1 n2 n3 n4 n5 n6 n7 r b h b1.1 b1.2 k1.1 k1.2 hv
        · have e : min (n1 * 10 + (r - 48)) 9999 = 9999 := by omega
          show Calls _ _ _ _ fun e w' => e = .returned (actV .none) ∧ RefPar w' g ⟨i, ⟨kd, rr, pp, 0, 2, [n0, min (n1 * 10 + (r - 48)) 9999, n2, n3, n4, n5, n6, n7]⟩, true⟩ ∧ Only g w w'
          rw [e]
          exact rcsi_dig2b w g i kd rr pp n0 n1 n2 n3 n4 n5 n6 n7 r b h b1.1 b1.2 k1.1 k1.2 (by omega)
      · by_cases hv : n2 * 10 + (r - 48) ≤ 9999
        · have e : min (n2 * 10 + (r - 48)) 9999 = n2 * 10 + (r - 48) := by omega
          show Calls _ _ _ _ fun e w' => e = .returned (actV .none) ∧ RefPar w' g ⟨i, ⟨kd, rr, pp, 0, 3, [n0, n1, min (n2 * 10 + (r - 48)) 9999, n3, n4, n5, n6, n7]⟩, true⟩ ∧ Only g w w'
          rw [e]
          exact rcsi_dig3a w g i kd rr pp n0 n1 n2 n3 n4 n5 n6 n7 r b h b2.1 b2.2 k1.1 k1.2 hv
        · have e : min (n2 * 10 + (r - 48)) 9999 = 9999 := by omega
          show Calls _ _ _ _ fun e w' => e = .returned (actV .none) ∧ RefPar w' g ⟨i, ⟨kd, rr, pp, 0, 3, [n0, n1, min (n2 * 10 + (r - 48)) 9999, n3, n4, n5, n6, n7]⟩, true⟩ ∧ Only g w w'
          rw [e]
          exact rcsi_dig3b w g i kd rr pp n0 n1 n2 n3 n4 n5 n6 n7 r b h b2.1 b2.2 k1.1 k1.2 (by omega)
      · by_cases hv : n3 * 10 + (r - 48) ≤ 9999
        · have e : min (n3 * 10 + (r - 48)) 9999 = n3 * 10 + (r - 48) := by omega
          show Calls _ _ _ _ fun e w' => e = .returned (actV .none) ∧ RefPar w' g ⟨i, ⟨kd, rr, pp, 0, 4, [n0, n1, n2, min (n3 * 10 + (r - 48)) 9999, n4, n5, n6, n7]⟩, true⟩ ∧ Only g w w'
          rw [e]
          exact rcsi_dig4a w g i kd rr pp n0 n1 n2 n3 n4 n5 n6 n7 r b h b3.1 b3.2 k1.1 k1.2 hv
        · have e : min (n3 * 10 + (r - 48)) 9999 = 9999 := by omega
          show Calls _ _ _ _ fun e w' => e = .returned (actV .none) ∧ RefPar w' g ⟨i, ⟨kd, rr, pp, 0, 4, [n0, n1, n2, min (n3 * 10 + (r - 48)) 9999, n4, n5, n6, n7]⟩, true⟩ ∧ Only g w w'
          rw [e]
          exact rcsi_dig4b w g i kd rr pp n0 n1 n2 n3 n4 n5 n6 n7 r b h b3.1 b3.2 k1.1 k1.2 (by omega)
      · by_cases hv : n4 * 10 + (r - 48) ≤ 9999
        · have e : min (n4 * 10 + (r - 48)) 9999 = n4 * 10 + (r - 48) := by omega
          show Calls _ _ _ _ fun e w' => e = .returned (actV .none) ∧ RefPar w' g ⟨i, ⟨kd, rr, pp, 0, 5, [n0, n1, n2, n3, min (n4 * 10 + (r - 48)) 9999, n5, n6, n7]⟩, true⟩ ∧ Only g w w'
          rw [e]
          exact rcsi_dig5a w g i kd rr pp n0 n1 n2 n3 n4 n5 n6 n7 r b h b4.1 b4.2 k1.1 k1.2 hv
        · have e : min (n4 * 10 + (r - 48)) 9999 = 9999 := by omega
          show Calls _ _ _ _ fun e w' => e = .returned (actV .none) ∧ RefPar w' g ⟨i, ⟨kd, rr, pp, 0, 5, [n0, n1, n2, n3, min (n4 * 10 + (r - 48)) 9999, n5, n6, n7]⟩, true⟩ ∧ Only g w w'
          rw [e]
          exact rcsi_dig5b w g i kd rr pp n0 n1 n2 n3 n4 n5 n6 n7 r b h b4.1 b4.2 k1.1 k1.2 (by omega)
      · by_cases hv : n5 * 10 + (r - 48) ≤ 9999
        · have e : min (n5 * 10 + (r - 48)) 9999 = n5 * 10 + (r - 48) := by omega
          show Calls _ _ _ _ fun e w' => e = .returned (actV .none) ∧ RefPar w' g ⟨i, ⟨kd, rr, pp, 0, 6, [n0, n1, n2, n3, n4, min (n5 * 10 + (r - 48)) 9999, n6, n7]⟩, true⟩ ∧ Only g w w'
          rw [e]
          exact rcsi_dig6a w g i kd rr pp n0 n1 n2 n3 n4 n5 n6 n7 r b h b5.1 b5.2 k1.1 k1.2 hv
        · have e : min (n5 * 10 + (r - 48)) 9999 = 9999 := by omega
          show Calls _ _ _ _ fun e w' => e = .returned (actV .none) ∧ RefPar w' g ⟨i, ⟨kd, rr, pp, 0, 6, [n0, n1, n2, n3, n4, min (n5 * 10 + (r - 48)) 9999, n6, n7]⟩, true⟩ ∧ Only g w w'
          rw [e]
          exact rcsi_dig6b w g i kd rr pp n0 n1 n2 n3 n4 n5 n6 n7 r b h b5.1 b5.2 k1.1 k1.2 (by omega)
      · by_cases hv : n6 * 10 + (r - 48) ≤ 9999
        · have e : min (n6 * 10 + (r - 48)) 9999 = n6 * 10 + (r - 48) := by omega
          show Calls _ _ _ _ fun e w' => e = .returned (actV .none) ∧ RefPar w' g ⟨i, ⟨kd, rr, pp, 0, 7, [n0, n1, n2, n3, n4, n5, min (n6 * 10 + (r - 48)) 9999, n7]⟩, true⟩ ∧ Only g w w'
          rw [e]
          exact rcsi_dig7a w g i kd rr pp n0 n1 n2 n3 n4 n5 n6 n7 r b h b6.1 b6.2 k1.1 k1.2 hv
        · have e : min (n6 * 10 + (r - 48)) 9999 = 9999 := by omega
          show Calls _ _ _ _ fun e w' => e = .returned (actV .none) ∧ RefPar w' g ⟨i, ⟨kd, rr, pp, 0, 7, [n0, n1, n2, n3, n4, n5, min (n6 * 10 + (r - 48)) 9999, n7]⟩, true⟩ ∧ Only g w w'
          rw [e]
          exact rcsi_dig7b w g i kd rr pp n0 n1 n2 n3 n4 n5 n6 n7 r b h b6.1 b6.2 k1.1 k1.2 (by omega)
      · by_cases hv : n7 * 10 + (r - 48) ≤ 9999
        · have e : min (n7 * 10 + (r - 48)) 9999 = n7 * 10 + (r - 48) := by omega
          show Calls _ _ _ _ fun e w' => e = .returned (actV .none) ∧ RefPar w' g ⟨i, ⟨kd, rr, pp, 0, 8, [n0, n1, n2, n3, n4, n5, n6, min (n7 * 10 + (r - 48)) 9999]⟩, true⟩ ∧ Only g w w'
          rw [e]
          exact rcsi_dig8a w g i kd rr pp n0 n1 n2 n3 n4 n5 n6 n7 r b h b7.1 b7.2 k1.1 k1.2 hv
        · have e : min (n7 * 10 + (r - 48)) 9999 = 9999 := by omega
          show Calls _ _ _ _ fun e w' => e = .returned (actV .none) ∧ RefPar w' g ⟨i, ⟨kd, rr, pp, 0, 8, [n0, n1, n2, n3, n4, n5, n6, min (n7 * 10 + (r - 48)) 9999]⟩, true⟩ ∧ Only g w w'
          rw [e]
          exact rcsi_dig8b w g i kd rr pp n0 n1 n2 n3 n4 n5 n6 n7 r b h b7.1 b7.2 k1.1 k1.2 (by omega)
      · exact rcsi_dig9 w g i kd rr pp n0 n1 n2 n3 n4 n5 n6 n7 r b h k1.1 k1.2
    · rw [if_neg (fun c => hm c.2.2), if_neg (fun c => hm c.2), if_neg (by omega), if_neg (fun c => hm c.2), if_neg (by omega)]
      exact rcsi_spoil_a w g i kd rr pp m n0 n1 n2 n3 n4 n5 n6 n7 r n b h (by simpa using hm) k1.1 k1.2
  rw [if_neg (fun c => k1 ⟨c.1, c.2.1⟩)]
  by_cases k2 : r = 58 ∨ r = 59
  · by_cases hm : m = 0
    · subst hm
      rw [if_pos ⟨k2, rfl⟩]
      have hc : n = 0 ∨ n = 9 ∨ 1 ≤ n ∧ n ≤ 8 := by omega
      rcases hc with rfl | rfl | ⟨h1, h8⟩
      · rcases k2 with rfl | rfl
        · exact rcsi_sep0_58 w g i kd rr pp n0 n1 n2 n3 n4 n5 n6 n7 b h
        · exact rcsi_sep0_59 w g i kd rr pp n0 n1 n2 n3 n4 n5 n6 n7 b h
      · rcases k2 with rfl | rfl
        · exact rcsi_sep9_58 w g i kd rr pp n0 n1 n2 n3 n4 n5 n6 n7 b h
        · exact rcsi_sep9_59 w g i kd rr pp n0 n1 n2 n3 n4 n5 n6 n7 b h
      · simp only [show min (max n 1 + 1) 9 = n + 1 by omega]
        rcases k2 with rfl | rfl
        · exact rcsi_sep_58 w g i kd rr pp n0 n1 n2 n3 n4 n5 n6 n7 n b h h1 h8
        · exact rcsi_sep_59 w g i kd rr pp n0 n1 n2 n3 n4 n5 n6 n7 n b h h1 h8
    · rw [if_neg (fun c => hm c.2), if_neg (by omega), if_neg (fun c => hm c.2), if_neg (by omega)]
      rcases k2 with rfl | rfl
      · exact rcsi_spoil_b58 w g i kd rr pp m n0 n1 n2 n3 n4 n5 n6 n7 n b h (by simpa using hm)
      · exact rcsi_spoil_b59 w g i kd rr pp m n0 n1 n2 n3 n4 n5 n6 n7 n b h (by simpa using hm)
  rw [if_neg (fun c => k2 c.1)]
  by_cases k3 : 60 ≤ r ∧ r ≤ 63
  · cases b with
    | false =>
      rw [if_pos ⟨k3.1, k3.2, rfl⟩]
      exact rcsi_priv w g i kd rr pp m n0 n1 n2 n3 n4 n5 n6 n7 r n h k3.1 k3.2
    | true =>
      rw [if_neg (fun c => by cases c.2.2), if_neg (by omega), if_neg (by omega)]
      exact rcsi_spoil_c w g i kd rr pp m n0 n1 n2 n3 n4 n5 n6 n7 r n h k3.1 k3.2
  rw [if_neg (fun c => k3 ⟨c.1, c.2.1⟩)]
  by_cases k4 : r ≤ 47
  · by_cases hm : m = 0
    · subst hm
      rw [if_pos ⟨k4, rfl⟩]
      exact rcsi_mid w g i kd rr pp n0 n1 n2 n3 n4 n5 n6 n7 r n b h hr k4
    · rw [if_neg (fun c => hm c.2), if_neg (by omega)]
      exact rcsi_spoil_d w g i kd rr pp m n0 n1 n2 n3 n4 n5 n6 n7 r n b h (by simpa using hm) hr k4
  rw [if_neg (fun c => k4 c.1)]
  by_cases k5 : 64 ≤ r ∧ r ≤ 126
  · rw [if_pos k5]
    rcases Nat.lt_or_ge 8 n with h8 | h8
    · obtain rfl : n = 9 := by omega
      exact rcsi_end9 w g i kd rr pp m n0 n1 n2 n3 n4 n5 n6 n7 r b h k5.1 k5.2
    · simp only [Nat.min_eq_left h8]
      exact rcsi_end w g i kd rr pp m n0 n1 n2 n3 n4 n5 n6 n7 r n b h h8 k5.1 k5.2
  rw [if_neg k5]
  exact rcsi_spoil_e w g i kd rr pp m n0 n1 n2 n3 n4 n5 n6 n7 r n b h (by omega)
end Go.Proofs.YtgnknliaeoblhabDoor
