/- The document's bytes of a number, of numbers, of a text. -/
import Derived.Test.YtckdchkegbdiaaaDoorPutAll
namespace Go.Proofs.YtckdchkegbdiaaaDoor
open Go Go.RowKit

theorem convB1 (W : World) (a : Addr) (cap : Nat) (n : Nat) (h : W.cell? a = some (.int .u8 n)) (h1 : n < 256) : (convert 40 9 (.slice (some a) 1 cap)).run Tryd.prog W = .ok (.string ⟨[UInt8.ofNat n].toArray⟩) W :=
  run_convert_bytes_back W _ _ 5 a cap [UInt8.ofNat n] Tryd.underlying40 Tryd.underlying5 Tryd.underlying9 fun j hj => by
    obtain rfl : j = 0 := by simp at hj; omega
    rw [show a.add 0 = a from by unfold Addr.add; simp, h]
    show some (Value.int .u8 (n : Int)) = some (Value.int .u8 ((UInt8.ofNat n).toNat : Int))
    rw [toNat_ofNat8 h1]
set_option maxHeartbeats 1000000 in
set_option maxRecDepth 100000 in
theorem one_fold (n : Int) (w : World) (h0 : -9223372036854775808 ≤ n) (h1 : n ≤ 9223372036854775807) : Calls Tryd.prog 67 #[.int .i64 n] w fun e w' => e = .returned (.string ⟨(encN (foldN n)).toArray⟩) ∧ Ext w w' := by
  have hU := foldN_lt h0 h1
  by_cases hn : 0 ≤ n
  · obtain ⟨m, rfl⟩ := Int.eq_ofNat_of_zero_le hn
    have hm : m ≤ 9223372036854775807 := by omega
    have hf : foldN (m : Int) = 2 * m := by unfold foldN; rw [if_pos (by omega)]; omega
    have hS := Lib.hid (show ((2 * (m : Int)) : Int) = (foldN (m : Int) : Int) by rw [hf]; simp)
    generalize foldN (m : Int) = U at hU hS ⊢
    clear hf h0 h1 hn
    go_enter Tryd.func67, Tryd.ntmps67
    go_wp2
    go_loopg [3, 4] U (fun k u s wr => ∃ l : List UInt8, u = .int .u64 k ∧ s = .string ⟨l.toArray⟩ ∧ Hid (k < 18446744073709551616 ∧ l ++ encN k = encN U ∧ Ext w wr))
    case atStart => exact ⟨[], by rw [hS.out], rfl, hU, rfl, Ext.refl w⟩
    case round =>
      obtain ⟨l, rfl, rfl, hinv⟩ := hrel
      obtain ⟨K, hK⟩ : ∃ K, K = gk := ⟨_, rfl⟩
      subst hK
      have hk := hinv.out.1
      have hx := hinv.out.2.2
      have hls : (⟨l.toArray⟩ : ByteArray).size ≤ 10 := by
        rw [size_mk]
        have h1 := congrArg List.length hinv.out.2.1
        rw [List.length_append] at h1
        have h2 := encN_len10 hU
        omega
      have hos : ∀ x : UInt8, (⟨[x].toArray⟩ : ByteArray).size ≤ 1 := fun x => by rw [size_mk]; simp
      have ho1 := hos (UInt8.ofNat K)
      have ho2 := hos (UInt8.ofNat (K % 128 + 128))
      clear hos
      by_cases h : K < 128
      · have hc := convB1 (wr.alloc (.cells #[.int .u8 K] 5)) ⟨wr.heap.size, 0, none⟩ 1 K (by rw [Lib.cell_of_heap (Go.heap_alloc_new _ _)]; rfl) (by omega)
        have HC := Lib.hid hc; clear hc
        have HX := Lib.hid hx; clear hx
        go_wp2
        rw [HC.out]
        go_wp2
        go_ret
        refine ⟨?_, HX.out.alloc _⟩
        rw [← hinv.out.2.1, encN_small h, ← mk_append]
        rfl
      · have hc := convB1 (wr.alloc (.cells #[.int .u8 ((K % 128 + 128 : Nat) : Int)] 5)) ⟨wr.heap.size, 0, none⟩ 1 (K % 128 + 128) (by rw [Lib.cell_of_heap (Go.heap_alloc_new _ _)]; rfl) (by omega)
        have e : ((K % 128 + 128 : Nat) : Int) = (K : Int) % 128 + 128 := by omega
        rw [e] at hc
        generalize hy : UInt8.ofNat (K % 128 + 128) = y at hc ho2
        have HY := Lib.hid hy; clear hy ho1
        have HC := Lib.hid hc; clear hc e
        have HX := Lib.hid hx; clear hx
        go_wp2
        rw [HC.out]
        go_wp2
        go_roundg (K / 128)
        case measure => omega
        case rel =>
          refine ⟨l ++ [y], by go_num, ?_, by omega, ?_, HX.out.alloc _⟩
          · rw [← mk_append]
          · rw [← hinv.out.2.1, encN_big h, HY.out, List.append_assoc]; rfl
  · obtain ⟨m, hm0⟩ := Int.eq_ofNat_of_zero_le (show 0 ≤ -n - 1 by omega)
    obtain rfl : n = -(m : Int) - 1 := by omega
    have hm : m ≤ 9223372036854775807 := by omega
    have hf : foldN (-(m : Int) - 1) = 2 * m + 1 := by unfold foldN; rw [if_neg (by omega)]; omega
    generalize foldN (-(m : Int) - 1) = U at hU hf ⊢
    have hS := Lib.hid hf
    clear hf h0 h1 hn hm0
    have hneg : decide (-(m : Int) - 1 < 0) = true := by simp; omega
    go_enter Tryd.func67, Tryd.ntmps67
    go_wp2
    go_loopg [3, 4] U (fun k u s wr => ∃ l : List UInt8, u = .int .u64 k ∧ s = .string ⟨l.toArray⟩ ∧ Hid (k < 18446744073709551616 ∧ l ++ encN k = encN U ∧ Ext w wr))
    case atStart =>
      exact ⟨[], by rw [hS.out]; simp, rfl, hU, rfl, Ext.refl w⟩
    case round =>
      obtain ⟨l, rfl, rfl, hinv⟩ := hrel
      obtain ⟨K, hK⟩ : ∃ K, K = gk := ⟨_, rfl⟩
      subst hK
      have hk := hinv.out.1
      have hx := hinv.out.2.2
      have hls : (⟨l.toArray⟩ : ByteArray).size ≤ 10 := by
        rw [size_mk]
        have h1 := congrArg List.length hinv.out.2.1
        rw [List.length_append] at h1
        have h2 := encN_len10 hU
        omega
      have hos : ∀ x : UInt8, (⟨[x].toArray⟩ : ByteArray).size ≤ 1 := fun x => by rw [size_mk]; simp
      have ho1 := hos (UInt8.ofNat K)
      have ho2 := hos (UInt8.ofNat (K % 128 + 128))
      clear hos
      by_cases h : K < 128
      · have hc := convB1 (wr.alloc (.cells #[.int .u8 K] 5)) ⟨wr.heap.size, 0, none⟩ 1 K (by rw [Lib.cell_of_heap (Go.heap_alloc_new _ _)]; rfl) (by omega)
        have HC := Lib.hid hc; clear hc
        have HX := Lib.hid hx; clear hx
        go_wp2
        rw [HC.out]
        go_wp2
        go_ret
        refine ⟨?_, HX.out.alloc _⟩
        rw [← hinv.out.2.1, encN_small h, ← mk_append]
        rfl
      · have hc := convB1 (wr.alloc (.cells #[.int .u8 ((K % 128 + 128 : Nat) : Int)] 5)) ⟨wr.heap.size, 0, none⟩ 1 (K % 128 + 128) (by rw [Lib.cell_of_heap (Go.heap_alloc_new _ _)]; rfl) (by omega)
        have e : ((K % 128 + 128 : Nat) : Int) = (K : Int) % 128 + 128 := by omega
        rw [e] at hc
        generalize hy : UInt8.ofNat (K % 128 + 128) = y at hc ho2
        have HY := Lib.hid hy; clear hy ho1
        have HC := Lib.hid hc; clear hc e
        have HX := Lib.hid hx; clear hx
        go_wp2
        rw [HC.out]
        go_wp2
        go_roundg (K / 128)
        case measure => omega
        case rel =>
          refine ⟨l ++ [y], by go_num, ?_, by omega, ?_, HX.out.alloc _⟩
          · rw [← mk_append]
          · rw [← hinv.out.2.1, encN_big h, HY.out, List.append_assoc]; rfl
end Go.Proofs.YtckdchkegbdiaaaDoor
