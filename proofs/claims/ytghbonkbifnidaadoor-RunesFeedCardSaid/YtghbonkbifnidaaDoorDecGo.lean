/- A decoder goes on with a byte: (*runes.Decoder).goOn. -/
import Derived.Test.YtghbonkbifnidaaDoorDec
import Derived.RegionTactic
import Derived.BigRegion
import Derived.Laws.BitsAll
import Derived.Laws.BitsAllLaws
namespace Go.Proofs.YtghbonkbifnidaaDoor
open Go Go.RowKit

theorem wrap_i32_in {n : Int} (h0 : -2147483648 ≤ n) (h1 : n ≤ 2147483647) : IntKind.i32.wrap n = n := by
  rw [IntKind.wrap_i32]; omega
theorem or_i32 (a b : Nat) (ha : a * 64 + b < 2147483648) (hb : b < 64) : bits .or .i32 (((a * 64 : Nat)) : Int) (b : Int) = ((a * 64 + b : Nat) : Int) := by
  have h1 : (BitVec.ofInt 32 ((a * 64 : Nat) : Int)).toNat = a * 64 := by rw [BitVec.toNat_ofInt]; omega
  have h2 : (BitVec.ofInt 32 (b : Int)).toNat = b := by rw [BitVec.toNat_ofInt]; omega
  have key : (BitVec.ofInt 32 ((a * 64 : Nat) : Int) ||| BitVec.ofInt 32 (b : Int)).toNat = a * 64 + b := by
    rw [BitVec.toNat_or, h1, h2]
    have := Nat.two_pow_add_eq_or_of_lt (i := 6) (b := b) (by omega) a
    rw [Nat.mul_comm a 64]
    exact this.symm
  show IntKind.i32.wrap ((BitVec.ofInt 32 ((a * 64 : Nat) : Int) ||| BitVec.ofInt 32 (b : Int)).toNat : Nat) = _
  rw [key, wrap_i32_in (by omega) (by omega)]
theorem andNot_low (b : Nat) (hb : b < 256) : bits .andNot .u8 (b : Int) 128 = ((b % 128 : Nat) : Int) := by
  have := u8_andNot_nat b 128 hb (by decide)
  rw [show (255 - 128 : Nat) = 2 ^ 7 - 1 from rfl, Nat.and_two_pow_sub_one_eq_mod] at this
  exact this
set_option maxHeartbeats 2000000 in
set_option maxRecDepth 100000 in
theorem goOn_yes (w : World) (g : Nat) (s : DecSt) (b : Nat) (h : Dec w g s) (hok : s.ok) (hb : b < 256) (hg : s.goes b) :
    Calls Tryd.prog 27 #[.pointer (some ⟨g, 0, none⟩), .int .u8 b] w fun e w' => e = .returned (.bool true) ∧ Dec w' g (s.more b) ∧ Only g w w' := by
  have hml := more_lt (b := b) hok
  have hlo : 128 ≤ s.lo ∧ s.hi ≤ 191 ∧ 1 ≤ s.l ∧ s.l ≤ 3 ∧ s.k ≤ 3 := by
    rcases hok with rfl | ⟨h1, h2, h3, h4, h5, _⟩
    · exact absurd rfl hg.1
    · exact ⟨h4, h5, h2, by omega, by omega⟩
  obtain ⟨g1, g2, g3⟩ := hg
  clear hok
  have hres : Dec (decSet w g (.int .i64 ((s.k : Int) + 1)) (.int .i64 ((s.l : Int) - 1)) (.int .u8 128) (.int .u8 191) (.int .i32 ((s.r : Int) * 64 + (b : Int) % 128))) g (s.more b) := by
    have h1 := dec_set h (.int .i64 ((s.k : Int) + 1)) (.int .i64 ((s.l : Int) - 1)) (.int .u8 128) (.int .u8 191) (.int .i32 ((s.r : Int) * 64 + (b : Int) % 128))
    unfold Dec
    rw [show decV (s.more b) = #[.int .i64 ((s.k : Int) + 1), .int .i64 ((s.l : Int) - 1), .int .u8 128, .int .u8 191, .int .i32 ((s.r : Int) * 64 + (b : Int) % 128)] from ?_]
    · exact h1
    · unfold decV DecSt.more
      simp only
      rw [show ((s.k + 1 : Nat) : Int) = (s.k : Int) + 1 by omega, show ((s.l - 1 : Nat) : Int) = (s.l : Int) - 1 by omega, show ((s.r * 64 + b % 64 : Nat) : Int) = (s.r : Int) * 64 + (b : Int) % 128 by omega]
      rfl
  have H := Lib.hid (And.intro hres (only_decSet (Only.refl g w) (.int .i64 ((s.k : Int) + 1)) (.int .i64 ((s.l : Int) - 1)) (.int .u8 128) (.int .u8 191) (.int .i32 ((s.r : Int) * 64 + (b : Int) % 128)))); clear hres
  have c0 : w.cell? ⟨g, 0, none⟩ = some (.int .i64 s.k) := h.cell 0
  have c1 : w.cell? ⟨g, 1, none⟩ = some (.int .i64 s.l) := h.cell 1
  have c2 : w.cell? ⟨g, 2, none⟩ = some (.int .u8 s.lo) := h.cell 2
  have c3 : w.cell? ⟨g, 3, none⟩ = some (.int .u8 s.hi) := h.cell 3
  have c4 : w.cell? ⟨g, 4, none⟩ = some (.int .i32 s.r) := h.cell 4
  have z0 := h.frozen 0
  have z1 := h.frozen 1
  have z2 := h.frozen 2
  have z3 := h.frozen 3
  have z4 := h.frozen 4
  clear h
  have hrr : s.r * 64 + b % 64 < 8388608 := hml
  clear hml
  generalize s.k = k at *
  generalize s.l = l at *
  generalize s.lo = lo at *
  generalize s.hi = hi at *
  generalize s.r = r at *
  have hkb : (((k : Nat) : Int) == 0) = false := by simp; omega
  have hand := andNot_low b hb
  go_enter Tryd.func27, Tryd.ntmps27
  go_wp2_with fail
  go_region
  go_wp2
  go_ret
  exact ⟨rfl, Blk.ext H.out.1 (Ext.refl _).drew, H.out.2.drew⟩
set_option maxHeartbeats 2000000 in
set_option maxRecDepth 100000 in
theorem goOn_no (w : World) (g : Nat) (s : DecSt) (b : Nat) (h : Dec w g s) (hg : ¬ s.goes b) :
    Calls Tryd.prog 27 #[.pointer (some ⟨g, 0, none⟩), .int .u8 b] w fun e w' => e = .returned (.bool false) ∧ w' = w := by
  have c0 : w.cell? ⟨g, 0, none⟩ = some (.int .i64 s.k) := h.cell 0
  have c2 : w.cell? ⟨g, 2, none⟩ = some (.int .u8 s.lo) := h.cell 2
  have c3 : w.cell? ⟨g, 3, none⟩ = some (.int .u8 s.hi) := h.cell 3
  have hg' : s.k = 0 ∨ s.k ≠ 0 ∧ b < s.lo ∨ s.k ≠ 0 ∧ s.lo ≤ b ∧ s.hi < b := by
    unfold DecSt.goes at hg; omega
  clear h hg
  generalize s.k = k at *
  generalize s.lo = lo at *
  generalize s.hi = hi at *
  rcases hg' with rfl | ⟨h1, h2⟩ | ⟨h1, h2, h3⟩
  · go_enter Tryd.func27, Tryd.ntmps27
    go_wp2
    go_ret
    exact ⟨rfl, rfl⟩
  · have hkb : (((k : Nat) : Int) == 0) = false := by simp; omega
    go_enter Tryd.func27, Tryd.ntmps27
    go_wp2
    go_ret
    exact ⟨rfl, rfl⟩
  · have hkb : (((k : Nat) : Int) == 0) = false := by simp; omega
    go_enter Tryd.func27, Tryd.ntmps27
    go_wp2
    go_ret
    exact ⟨rfl, rfl⟩

/-! ### A first byte -/
theorem infoDec : (Tryd.prog.info? 36).map (·.size) = some 5 := by kernel_rfl
theorem begun_ret {w : World} {R : Nat} {cs : Array Value} (tmps : Array Value) (h : Blk w R 36 cs) (hz : cs.size = 5) (hp : tmps.getD 4 undef = .pointer (some ⟨R, 0, none⟩)) :
    (results Tryd.f28 tmps).run Tryd.prog w = .ok (.agg cs) w :=
  results_cell_row rfl tmps w R 36 cs (0, 0) _ hp h Tryd.underlying36 rfl (by rw [hz]; exact infoDec)
set_option maxHeartbeats 2000000 in
set_option maxRecDepth 100000 in
theorem begun_1 (w : World) (fr to lo hi b : Int) (h0 : 0 ≤ b) (h1 : b < 256) :
    Calls Tryd.prog 28 #[.agg #[.int .u8 fr, .int .u8 to, .int .i64 1, .int .u8 lo, .int .u8 hi], .int .u8 b] w fun e w' => e = .returned (.agg #[.int .i64 1, .int .i64 1, .int .u8 lo, .int .u8 hi, .int .i32 (b % 64)]) ∧ Ext w w' := by
  go_enter Tryd.func28, Tryd.ntmps28
  go_wp2_with fail
  go_region
  go_wp2
  try simp only [Exit.inBlock, Exit.then]
  refine bodyPost_ret (begun_ret (R := w.heap.size + 1) (cs := #[.int .i64 1, .int .i64 1, .int .u8 lo, .int .u8 hi, .int .i32 (b % 64)]) _ (Go.heap_alloc2_new w _ _) rfl rfl) rfl ?_
  exact ⟨rfl, (((Ext.refl w).alloc _).alloc _).drew⟩
set_option maxHeartbeats 2000000 in
set_option maxRecDepth 100000 in
theorem begun_2 (w : World) (fr to lo hi b : Int) (h0 : 0 ≤ b) (h1 : b < 256) :
    Calls Tryd.prog 28 #[.agg #[.int .u8 fr, .int .u8 to, .int .i64 2, .int .u8 lo, .int .u8 hi], .int .u8 b] w fun e w' => e = .returned (.agg #[.int .i64 1, .int .i64 2, .int .u8 lo, .int .u8 hi, .int .i32 (b % 32)]) ∧ Ext w w' := by
  go_enter Tryd.func28, Tryd.ntmps28
  go_wp2_with fail
  go_region
  go_wp2
  try simp only [Exit.inBlock, Exit.then]
  refine bodyPost_ret (begun_ret (R := w.heap.size + 1) (cs := #[.int .i64 1, .int .i64 2, .int .u8 lo, .int .u8 hi, .int .i32 (b % 32)]) _ (Go.heap_alloc2_new w _ _) rfl rfl) rfl ?_
  exact ⟨rfl, (((Ext.refl w).alloc _).alloc _).drew⟩
set_option maxHeartbeats 2000000 in
set_option maxRecDepth 100000 in
theorem begun_3 (w : World) (fr to lo hi b : Int) (h0 : 0 ≤ b) (h1 : b < 256) :
    Calls Tryd.prog 28 #[.agg #[.int .u8 fr, .int .u8 to, .int .i64 3, .int .u8 lo, .int .u8 hi], .int .u8 b] w fun e w' => e = .returned (.agg #[.int .i64 1, .int .i64 3, .int .u8 lo, .int .u8 hi, .int .i32 (b % 16)]) ∧ Ext w w' := by
  go_enter Tryd.func28, Tryd.ntmps28
  go_wp2_with fail
  go_region
  go_wp2
  try simp only [Exit.inBlock, Exit.then]
  refine bodyPost_ret (begun_ret (R := w.heap.size + 1) (cs := #[.int .i64 1, .int .i64 3, .int .u8 lo, .int .u8 hi, .int .i32 (b % 16)]) _ (Go.heap_alloc2_new w _ _) rfl rfl) rfl ?_
  exact ⟨rfl, (((Ext.refl w).alloc _).alloc _).drew⟩
theorem begun_any (w : World) (fr to : Int) (l lo hi b : Nat) (hb : b < 256) (hl : lead b = (l, lo, hi)) (h0 : l ≠ 0) :
    Calls Tryd.prog 28 #[.agg #[.int .u8 fr, .int .u8 to, .int .i64 l, .int .u8 lo, .int .u8 hi], .int .u8 b] w fun e w' => e = .returned (.agg (decV (.begun b))) ∧ Ext w w' := by
  unfold decV DecSt.begun
  rw [hl]
  simp only
  have h3 : l = 1 ∨ l = 2 ∨ l = 3 := by
    rcases lead_cases b with h | h | h | h
    · rw [hl] at h; simp at h; omega
    all_goals rw [hl] at h; simp at h; omega
  rcases h3 with rfl | rfl | rfl
  · refine (begun_1 w fr to lo hi b (by omega) (by omega)).mono ?_
    rintro e w' ⟨rfl, hx⟩
    exact ⟨rfl, hx⟩
  · refine (begun_2 w fr to lo hi b (by omega) (by omega)).mono ?_
    rintro e w' ⟨rfl, hx⟩
    exact ⟨rfl, hx⟩
  · refine (begun_3 w fr to lo hi b (by omega) (by omega)).mono ?_
    rintro e w' ⟨rfl, hx⟩
    exact ⟨rfl, hx⟩
end Go.Proofs.YtghbonkbifnidaaDoor
