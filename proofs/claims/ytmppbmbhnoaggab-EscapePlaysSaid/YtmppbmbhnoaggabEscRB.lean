/- The document's control sequence. -/
import Derived.Test.YtmppbmbhnoaggabEscRA
namespace Go.Proofs.Ytmppbmbhnoaggab
open Go Go.RowKit

set_option maxHeartbeats 2000000 in
set_option maxRecDepth 100000 in
theorem rcsi_spoil_e (w : World) (g : Nat) (i kd rr pp m n0 n1 n2 n3 n4 n5 n6 n7 r : Int) (n : Nat) (b : Bool) (h : RefPar w g ⟨i, ⟨kd, rr, pp, m, n, [n0, n1, n2, n3, n4, n5, n6, n7]⟩, b⟩) (h1 : 126 < r) :
    Calls Try.prog 21 #[.pointer (some ⟨g, 0, none⟩), .int .i32 r] w fun e w' => e = .returned (actV .none) ∧ RefPar w' g ⟨3, ⟨kd, rr, pp, m, n, [n0, n1, n2, n3, n4, n5, n6, n7]⟩, true⟩ ∧ Only g w w' := by
  obtain ⟨c0, c1, c2, c3, c4, c5, c6, c7, c8, c9, ca, cb, cc, cd, ce⟩ := h.facts
  have z0 := Blk.frozen h 0
  have z14 := Blk.frozen h 14
  have hlt := h.lt
  have e58 : (r == 58) = false := by simp; omega
  have e59 : (r == 59) = false := by simp; omega
  have H := Lib.hid h; clear h
  have HP : RefPar ((w.setCell ⟨g, 14, none⟩ (.bool true)).setCell ⟨g, 0, none⟩ (.int .i64 3)) g ⟨3, ⟨kd, rr, pp, m, n, [n0, n1, n2, n3, n4, n5, n6, n7]⟩, true⟩ := Blk.set_ (Blk.set_ (H.out) 14 _) 0 _
  have HQ := Lib.hid HP; clear HP
  go_enter Try.func21, Try.ntmps21
  go_wp2
  exact ret_act1 rfl rfl rfl (blk_at (by simp [World.setCell]) _) rfl ⟨rfl, ref_end HQ.out (((Only.refl g w).setCell _).setCell _) _⟩
set_option maxHeartbeats 2000000 in
set_option maxRecDepth 100000 in
theorem rcsi_spoil_c (w : World) (g : Nat) (i kd rr pp m n0 n1 n2 n3 n4 n5 n6 n7 r : Int) (n : Nat) (h : RefPar w g ⟨i, ⟨kd, rr, pp, m, n, [n0, n1, n2, n3, n4, n5, n6, n7]⟩, true⟩) (h1 : 60 ≤ r) (h2 : r ≤ 63) :
    Calls Try.prog 21 #[.pointer (some ⟨g, 0, none⟩), .int .i32 r] w fun e w' => e = .returned (actV .none) ∧ RefPar w' g ⟨3, ⟨kd, rr, pp, m, n, [n0, n1, n2, n3, n4, n5, n6, n7]⟩, true⟩ ∧ Only g w w' := by
  obtain ⟨c0, c1, c2, c3, c4, c5, c6, c7, c8, c9, ca, cb, cc, cd, ce⟩ := h.facts
  have z0 := Blk.frozen h 0
  have z14 := Blk.frozen h 14
  have hlt := h.lt
  have e58 : (r == 58) = false := by simp; omega
  have e59 : (r == 59) = false := by simp; omega
  have H := Lib.hid h; clear h
  have HP : RefPar ((w.setCell ⟨g, 14, none⟩ (.bool true)).setCell ⟨g, 0, none⟩ (.int .i64 3)) g ⟨3, ⟨kd, rr, pp, m, n, [n0, n1, n2, n3, n4, n5, n6, n7]⟩, true⟩ := Blk.set_ (Blk.set_ (H.out) 14 _) 0 _
  have HQ := Lib.hid HP; clear HP
  go_enter Try.func21, Try.ntmps21
  go_wp2
  exact ret_act1 rfl rfl rfl (blk_at (by simp [World.setCell]) _) rfl ⟨rfl, ref_end HQ.out (((Only.refl g w).setCell _).setCell _) _⟩
set_option maxHeartbeats 2000000 in
set_option maxRecDepth 100000 in
theorem rcsi_spoil_a (w : World) (g : Nat) (i kd rr pp m n0 n1 n2 n3 n4 n5 n6 n7 r : Int) (n : Nat) (b : Bool) (h : RefPar w g ⟨i, ⟨kd, rr, pp, m, n, [n0, n1, n2, n3, n4, n5, n6, n7]⟩, b⟩) (hm : (m == 0) = false) (h1 : 48 ≤ r) (h2 : r ≤ 57) :
    Calls Try.prog 21 #[.pointer (some ⟨g, 0, none⟩), .int .i32 r] w fun e w' => e = .returned (actV .none) ∧ RefPar w' g ⟨3, ⟨kd, rr, pp, m, n, [n0, n1, n2, n3, n4, n5, n6, n7]⟩, true⟩ ∧ Only g w w' := by
  obtain ⟨c0, c1, c2, c3, c4, c5, c6, c7, c8, c9, ca, cb, cc, cd, ce⟩ := h.facts
  have z0 := Blk.frozen h 0
  have z14 := Blk.frozen h 14
  have hlt := h.lt
  have e58 : (r == 58) = false := by simp; omega
  have e59 : (r == 59) = false := by simp; omega
  have H := Lib.hid h; clear h
  have HP : RefPar ((w.setCell ⟨g, 14, none⟩ (.bool true)).setCell ⟨g, 0, none⟩ (.int .i64 3)) g ⟨3, ⟨kd, rr, pp, m, n, [n0, n1, n2, n3, n4, n5, n6, n7]⟩, true⟩ := Blk.set_ (Blk.set_ (H.out) 14 _) 0 _
  have HQ := Lib.hid HP; clear HP
  go_enter Try.func21, Try.ntmps21
  go_wp2
  exact ret_act1 rfl rfl rfl (blk_at (by simp [World.setCell]) _) rfl ⟨rfl, ref_end HQ.out (((Only.refl g w).setCell _).setCell _) _⟩
set_option maxHeartbeats 2000000 in
set_option maxRecDepth 100000 in
theorem rcsi_spoil_b58 (w : World) (g : Nat) (i kd rr pp m n0 n1 n2 n3 n4 n5 n6 n7 : Int) (n : Nat) (b : Bool) (h : RefPar w g ⟨i, ⟨kd, rr, pp, m, n, [n0, n1, n2, n3, n4, n5, n6, n7]⟩, b⟩) (hm : (m == 0) = false) :
    Calls Try.prog 21 #[.pointer (some ⟨g, 0, none⟩), .int .i32 58] w fun e w' => e = .returned (actV .none) ∧ RefPar w' g ⟨3, ⟨kd, rr, pp, m, n, [n0, n1, n2, n3, n4, n5, n6, n7]⟩, true⟩ ∧ Only g w w' := by
  obtain ⟨c0, c1, c2, c3, c4, c5, c6, c7, c8, c9, ca, cb, cc, cd, ce⟩ := h.facts
  have z0 := Blk.frozen h 0
  have z14 := Blk.frozen h 14
  have hlt := h.lt
  have H := Lib.hid h; clear h
  have HP : RefPar ((w.setCell ⟨g, 14, none⟩ (.bool true)).setCell ⟨g, 0, none⟩ (.int .i64 3)) g ⟨3, ⟨kd, rr, pp, m, n, [n0, n1, n2, n3, n4, n5, n6, n7]⟩, true⟩ := Blk.set_ (Blk.set_ (H.out) 14 _) 0 _
  have HQ := Lib.hid HP; clear HP
  go_enter Try.func21, Try.ntmps21
  go_wp2
  exact ret_act1 rfl rfl rfl (blk_at (by simp [World.setCell]) _) rfl ⟨rfl, ref_end HQ.out (((Only.refl g w).setCell _).setCell _) _⟩
set_option maxHeartbeats 2000000 in
set_option maxRecDepth 100000 in
theorem rcsi_spoil_b59 (w : World) (g : Nat) (i kd rr pp m n0 n1 n2 n3 n4 n5 n6 n7 : Int) (n : Nat) (b : Bool) (h : RefPar w g ⟨i, ⟨kd, rr, pp, m, n, [n0, n1, n2, n3, n4, n5, n6, n7]⟩, b⟩) (hm : (m == 0) = false) :
    Calls Try.prog 21 #[.pointer (some ⟨g, 0, none⟩), .int .i32 59] w fun e w' => e = .returned (actV .none) ∧ RefPar w' g ⟨3, ⟨kd, rr, pp, m, n, [n0, n1, n2, n3, n4, n5, n6, n7]⟩, true⟩ ∧ Only g w w' := by
  obtain ⟨c0, c1, c2, c3, c4, c5, c6, c7, c8, c9, ca, cb, cc, cd, ce⟩ := h.facts
  have z0 := Blk.frozen h 0
  have z14 := Blk.frozen h 14
  have hlt := h.lt
  have H := Lib.hid h; clear h
  have HP : RefPar ((w.setCell ⟨g, 14, none⟩ (.bool true)).setCell ⟨g, 0, none⟩ (.int .i64 3)) g ⟨3, ⟨kd, rr, pp, m, n, [n0, n1, n2, n3, n4, n5, n6, n7]⟩, true⟩ := Blk.set_ (Blk.set_ (H.out) 14 _) 0 _
  have HQ := Lib.hid HP; clear HP
  go_enter Try.func21, Try.ntmps21
  go_wp2
  exact ret_act1 rfl rfl rfl (blk_at (by simp [World.setCell]) _) rfl ⟨rfl, ref_end HQ.out (((Only.refl g w).setCell _).setCell _) _⟩
set_option maxHeartbeats 2000000 in
set_option maxRecDepth 100000 in
theorem rcsi_spoil_d (w : World) (g : Nat) (i kd rr pp m n0 n1 n2 n3 n4 n5 n6 n7 r : Int) (n : Nat) (b : Bool) (h : RefPar w g ⟨i, ⟨kd, rr, pp, m, n, [n0, n1, n2, n3, n4, n5, n6, n7]⟩, b⟩) (hm : (m == 0) = false) (h0 : 32 ≤ r) (h1 : r ≤ 47) :
    Calls Try.prog 21 #[.pointer (some ⟨g, 0, none⟩), .int .i32 r] w fun e w' => e = .returned (actV .none) ∧ RefPar w' g ⟨3, ⟨kd, rr, pp, m, n, [n0, n1, n2, n3, n4, n5, n6, n7]⟩, true⟩ ∧ Only g w w' := by
  obtain ⟨c0, c1, c2, c3, c4, c5, c6, c7, c8, c9, ca, cb, cc, cd, ce⟩ := h.facts
  have z0 := Blk.frozen h 0
  have z14 := Blk.frozen h 14
  have hlt := h.lt
  have e58 : (r == 58) = false := by simp; omega
  have e59 : (r == 59) = false := by simp; omega
  have H := Lib.hid h; clear h
  have HP : RefPar ((w.setCell ⟨g, 14, none⟩ (.bool true)).setCell ⟨g, 0, none⟩ (.int .i64 3)) g ⟨3, ⟨kd, rr, pp, m, n, [n0, n1, n2, n3, n4, n5, n6, n7]⟩, true⟩ := Blk.set_ (Blk.set_ (H.out) 14 _) 0 _
  have HQ := Lib.hid HP; clear HP
  go_enter Try.func21, Try.ntmps21
  go_wp2
  exact ret_act1 rfl rfl rfl (blk_at (by simp [World.setCell]) _) rfl ⟨rfl, ref_end HQ.out (((Only.refl g w).setCell _).setCell _) _⟩
set_option maxHeartbeats 2000000 in
set_option maxRecDepth 100000 in
theorem rcsi_priv (w : World) (g : Nat) (i kd rr pp m n0 n1 n2 n3 n4 n5 n6 n7 r : Int) (n : Nat) (h : RefPar w g ⟨i, ⟨kd, rr, pp, m, n, [n0, n1, n2, n3, n4, n5, n6, n7]⟩, false⟩) (h1 : 60 ≤ r) (h2 : r ≤ 63) :
    Calls Try.prog 21 #[.pointer (some ⟨g, 0, none⟩), .int .i32 r] w fun e w' => e = .returned (actV .none) ∧ RefPar w' g ⟨i, ⟨kd, rr, r, m, n, [n0, n1, n2, n3, n4, n5, n6, n7]⟩, true⟩ ∧ Only g w w' := by
  obtain ⟨c0, c1, c2, c3, c4, c5, c6, c7, c8, c9, ca, cb, cc, cd, ce⟩ := h.facts
  have z3 := Blk.frozen h 3
  have z14 := Blk.frozen h 14
  have hlt := h.lt
  have e58 : (r == 58) = false := by simp; omega
  have e59 : (r == 59) = false := by simp; omega
  have hw : r % 256 = r := by omega
  have H := Lib.hid h; clear h
  have HP : RefPar ((w.setCell ⟨g, 14, none⟩ (.bool true)).setCell ⟨g, 3, none⟩ (.int .u8 r)) g ⟨i, ⟨kd, rr, r, m, n, [n0, n1, n2, n3, n4, n5, n6, n7]⟩, true⟩ := Blk.set_ (Blk.set_ (H.out) 14 _) 3 _
  have HQ := Lib.hid HP; clear HP
  go_enter Try.func21, Try.ntmps21
  go_wp2
  exact ret_act1 rfl rfl rfl (blk_at (by simp [World.setCell]) _) rfl ⟨rfl, ref_end HQ.out (((Only.refl g w).setCell _).setCell _) _⟩
set_option maxHeartbeats 2000000 in
set_option maxRecDepth 100000 in
theorem rcsi_mid (w : World) (g : Nat) (i kd rr pp n0 n1 n2 n3 n4 n5 n6 n7 r : Int) (n : Nat) (b : Bool) (h : RefPar w g ⟨i, ⟨kd, rr, pp, 0, n, [n0, n1, n2, n3, n4, n5, n6, n7]⟩, b⟩) (h0 : 32 ≤ r) (h1 : r ≤ 47) :
    Calls Try.prog 21 #[.pointer (some ⟨g, 0, none⟩), .int .i32 r] w fun e w' => e = .returned (actV .none) ∧ RefPar w' g ⟨i, ⟨kd, rr, pp, r, n, [n0, n1, n2, n3, n4, n5, n6, n7]⟩, true⟩ ∧ Only g w w' := by
  obtain ⟨c0, c1, c2, c3, c4, c5, c6, c7, c8, c9, ca, cb, cc, cd, ce⟩ := h.facts
  have z4 := Blk.frozen h 4
  have z14 := Blk.frozen h 14
  have hlt := h.lt
  have e58 : (r == 58) = false := by simp; omega
  have e59 : (r == 59) = false := by simp; omega
  have hw : r % 256 = r := by omega
  have H := Lib.hid h; clear h
  have HP : RefPar ((w.setCell ⟨g, 14, none⟩ (.bool true)).setCell ⟨g, 4, none⟩ (.int .u8 r)) g ⟨i, ⟨kd, rr, pp, r, n, [n0, n1, n2, n3, n4, n5, n6, n7]⟩, true⟩ := Blk.set_ (Blk.set_ (H.out) 14 _) 4 _
  have HQ := Lib.hid HP; clear HP
  go_enter Try.func21, Try.ntmps21
  go_wp2
  exact ret_act1 rfl rfl rfl (blk_at (by simp [World.setCell]) _) rfl ⟨rfl, ref_end HQ.out (((Only.refl g w).setCell _).setCell _) _⟩
set_option maxHeartbeats 2000000 in
set_option maxRecDepth 100000 in
theorem rcsi_sep0_58 (w : World) (g : Nat) (i kd rr pp n0 n1 n2 n3 n4 n5 n6 n7 : Int) (b : Bool) (h : RefPar w g ⟨i, ⟨kd, rr, pp, 0, 0, [n0, n1, n2, n3, n4, n5, n6, n7]⟩, b⟩) :
    Calls Try.prog 21 #[.pointer (some ⟨g, 0, none⟩), .int .i32 58] w fun e w' => e = .returned (actV .none) ∧ RefPar w' g ⟨i, ⟨kd, rr, pp, 0, 2, [n0, n1, n2, n3, n4, n5, n6, n7]⟩, true⟩ ∧ Only g w w' := by
  obtain ⟨c0, c1, c2, c3, c4, c5, c6, c7, c8, c9, ca, cb, cc, cd, ce⟩ := h.facts
  have z5 := Blk.frozen h 5
  have z14 := Blk.frozen h 14
  have hlt := h.lt
  have H := Lib.hid h; clear h
  have HP : RefPar (((w.setCell ⟨g, 14, none⟩ (.bool true)).setCell ⟨g, 5, none⟩ (.int .i64 1)).setCell ⟨g, 5, none⟩ (.int .i64 2)) g ⟨i, ⟨kd, rr, pp, 0, 2, [n0, n1, n2, n3, n4, n5, n6, n7]⟩, true⟩ := Blk.set_ (Blk.set_ (Blk.set_ (H.out) 14 _) 5 _) 5 _
  have HQ := Lib.hid HP; clear HP
  go_enter Try.func21, Try.ntmps21
  go_wp2
  exact ret_act1 rfl rfl rfl (blk_at (by simp [World.setCell]) _) rfl ⟨rfl, ref_end HQ.out ((((Only.refl g w).setCell _).setCell _).setCell _) _⟩
set_option maxHeartbeats 2000000 in
set_option maxRecDepth 100000 in
theorem rcsi_sep9_58 (w : World) (g : Nat) (i kd rr pp n0 n1 n2 n3 n4 n5 n6 n7 : Int) (b : Bool) (h : RefPar w g ⟨i, ⟨kd, rr, pp, 0, 9, [n0, n1, n2, n3, n4, n5, n6, n7]⟩, b⟩) :
    Calls Try.prog 21 #[.pointer (some ⟨g, 0, none⟩), .int .i32 58] w fun e w' => e = .returned (actV .none) ∧ RefPar w' g ⟨i, ⟨kd, rr, pp, 0, 9, [n0, n1, n2, n3, n4, n5, n6, n7]⟩, true⟩ ∧ Only g w w' := by
  obtain ⟨c0, c1, c2, c3, c4, c5, c6, c7, c8, c9, ca, cb, cc, cd, ce⟩ := h.facts
  have z5 := Blk.frozen h 5
  have z14 := Blk.frozen h 14
  have hlt := h.lt
  have H := Lib.hid h; clear h
  have HP : RefPar (w.setCell ⟨g, 14, none⟩ (.bool true)) g ⟨i, ⟨kd, rr, pp, 0, 9, [n0, n1, n2, n3, n4, n5, n6, n7]⟩, true⟩ := Blk.set_ (H.out) 14 _
  have HQ := Lib.hid HP; clear HP
  go_enter Try.func21, Try.ntmps21
  go_wp2
  exact ret_act1 rfl rfl rfl (blk_at (by simp [World.setCell]) _) rfl ⟨rfl, ref_end HQ.out ((Only.refl g w).setCell _) _⟩
set_option maxHeartbeats 2000000 in
set_option maxRecDepth 100000 in
theorem rcsi_sep_58 (w : World) (g : Nat) (i kd rr pp n0 n1 n2 n3 n4 n5 n6 n7 : Int) (n : Nat) (b : Bool) (h : RefPar w g ⟨i, ⟨kd, rr, pp, 0, n, [n0, n1, n2, n3, n4, n5, n6, n7]⟩, b⟩) (hn1 : 1 ≤ n) (hn : n ≤ 8) :
    Calls Try.prog 21 #[.pointer (some ⟨g, 0, none⟩), .int .i32 58] w fun e w' => e = .returned (actV .none) ∧ RefPar w' g ⟨i, ⟨kd, rr, pp, 0, n + 1, [n0, n1, n2, n3, n4, n5, n6, n7]⟩, true⟩ ∧ Only g w w' := by
  obtain ⟨c0, c1, c2, c3, c4, c5, c6, c7, c8, c9, ca, cb, cc, cd, ce⟩ := h.facts
  have z5 := Blk.frozen h 5
  have z14 := Blk.frozen h 14
  have hlt := h.lt
  have hnb : ((n : Int) == 0) = false := by simp; omega
  have H := Lib.hid h; clear h
  have HP : RefPar ((w.setCell ⟨g, 14, none⟩ (.bool true)).setCell ⟨g, 5, none⟩ (.int .i64 ((n + 1 : Nat) : Int))) g ⟨i, ⟨kd, rr, pp, 0, n + 1, [n0, n1, n2, n3, n4, n5, n6, n7]⟩, true⟩ := Blk.set_ (Blk.set_ (H.out) 14 _) 5 _
  have HQ := Lib.hid HP; clear HP
  go_enter Try.func21, Try.ntmps21
  go_wp2
  exact ret_act1 rfl rfl rfl (blk_at (by simp [World.setCell]) _) rfl ⟨rfl, ref_end HQ.out (((Only.refl g w).setCell _).setCell _) _⟩
set_option maxHeartbeats 2000000 in
set_option maxRecDepth 100000 in
theorem rcsi_sep0_59 (w : World) (g : Nat) (i kd rr pp n0 n1 n2 n3 n4 n5 n6 n7 : Int) (b : Bool) (h : RefPar w g ⟨i, ⟨kd, rr, pp, 0, 0, [n0, n1, n2, n3, n4, n5, n6, n7]⟩, b⟩) :
    Calls Try.prog 21 #[.pointer (some ⟨g, 0, none⟩), .int .i32 59] w fun e w' => e = .returned (actV .none) ∧ RefPar w' g ⟨i, ⟨kd, rr, pp, 0, 2, [n0, n1, n2, n3, n4, n5, n6, n7]⟩, true⟩ ∧ Only g w w' := by
  obtain ⟨c0, c1, c2, c3, c4, c5, c6, c7, c8, c9, ca, cb, cc, cd, ce⟩ := h.facts
  have z5 := Blk.frozen h 5
  have z14 := Blk.frozen h 14
  have hlt := h.lt
  have H := Lib.hid h; clear h
  have HP : RefPar (((w.setCell ⟨g, 14, none⟩ (.bool true)).setCell ⟨g, 5, none⟩ (.int .i64 1)).setCell ⟨g, 5, none⟩ (.int .i64 2)) g ⟨i, ⟨kd, rr, pp, 0, 2, [n0, n1, n2, n3, n4, n5, n6, n7]⟩, true⟩ := Blk.set_ (Blk.set_ (Blk.set_ (H.out) 14 _) 5 _) 5 _
  have HQ := Lib.hid HP; clear HP
  go_enter Try.func21, Try.ntmps21
  go_wp2
  exact ret_act1 rfl rfl rfl (blk_at (by simp [World.setCell]) _) rfl ⟨rfl, ref_end HQ.out ((((Only.refl g w).setCell _).setCell _).setCell _) _⟩
set_option maxHeartbeats 2000000 in
set_option maxRecDepth 100000 in
theorem rcsi_sep9_59 (w : World) (g : Nat) (i kd rr pp n0 n1 n2 n3 n4 n5 n6 n7 : Int) (b : Bool) (h : RefPar w g ⟨i, ⟨kd, rr, pp, 0, 9, [n0, n1, n2, n3, n4, n5, n6, n7]⟩, b⟩) :
    Calls Try.prog 21 #[.pointer (some ⟨g, 0, none⟩), .int .i32 59] w fun e w' => e = .returned (actV .none) ∧ RefPar w' g ⟨i, ⟨kd, rr, pp, 0, 9, [n0, n1, n2, n3, n4, n5, n6, n7]⟩, true⟩ ∧ Only g w w' := by
  obtain ⟨c0, c1, c2, c3, c4, c5, c6, c7, c8, c9, ca, cb, cc, cd, ce⟩ := h.facts
  have z5 := Blk.frozen h 5
  have z14 := Blk.frozen h 14
  have hlt := h.lt
  have H := Lib.hid h; clear h
  have HP : RefPar (w.setCell ⟨g, 14, none⟩ (.bool true)) g ⟨i, ⟨kd, rr, pp, 0, 9, [n0, n1, n2, n3, n4, n5, n6, n7]⟩, true⟩ := Blk.set_ (H.out) 14 _
  have HQ := Lib.hid HP; clear HP
  go_enter Try.func21, Try.ntmps21
  go_wp2
  exact ret_act1 rfl rfl rfl (blk_at (by simp [World.setCell]) _) rfl ⟨rfl, ref_end HQ.out ((Only.refl g w).setCell _) _⟩
set_option maxHeartbeats 2000000 in
set_option maxRecDepth 100000 in
theorem rcsi_sep_59 (w : World) (g : Nat) (i kd rr pp n0 n1 n2 n3 n4 n5 n6 n7 : Int) (n : Nat) (b : Bool) (h : RefPar w g ⟨i, ⟨kd, rr, pp, 0, n, [n0, n1, n2, n3, n4, n5, n6, n7]⟩, b⟩) (hn1 : 1 ≤ n) (hn : n ≤ 8) :
    Calls Try.prog 21 #[.pointer (some ⟨g, 0, none⟩), .int .i32 59] w fun e w' => e = .returned (actV .none) ∧ RefPar w' g ⟨i, ⟨kd, rr, pp, 0, n + 1, [n0, n1, n2, n3, n4, n5, n6, n7]⟩, true⟩ ∧ Only g w w' := by
  obtain ⟨c0, c1, c2, c3, c4, c5, c6, c7, c8, c9, ca, cb, cc, cd, ce⟩ := h.facts
  have z5 := Blk.frozen h 5
  have z14 := Blk.frozen h 14
  have hlt := h.lt
  have hnb : ((n : Int) == 0) = false := by simp; omega
  have H := Lib.hid h; clear h
  have HP : RefPar ((w.setCell ⟨g, 14, none⟩ (.bool true)).setCell ⟨g, 5, none⟩ (.int .i64 ((n + 1 : Nat) : Int))) g ⟨i, ⟨kd, rr, pp, 0, n + 1, [n0, n1, n2, n3, n4, n5, n6, n7]⟩, true⟩ := Blk.set_ (Blk.set_ (H.out) 14 _) 5 _
  have HQ := Lib.hid HP; clear HP
  go_enter Try.func21, Try.ntmps21
  go_wp2
  exact ret_act1 rfl rfl rfl (blk_at (by simp [World.setCell]) _) rfl ⟨rfl, ref_end HQ.out (((Only.refl g w).setCell _).setCell _) _⟩
end Go.Proofs.Ytmppbmbhnoaggab
