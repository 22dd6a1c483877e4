/- The document's bytes of a number, of numbers, of a text. · The document's bytes of a row of numbers, and of a text; the chapter's example; a text cut short. -/
import Derived.Test.YtcmllaeihnmkkaaDoorU13
namespace Go.Proofs.YtcmllaeihnmkkaaDoor
open Go Go.RowKit

theorem convB1 (W : World) (a : Addr) (cap : Nat) (n : Nat) (h : W.cell? a = some (.int .u8 n)) (h1 : n < 256) : (convert 29 9 (.slice (some a) 1 cap)).run Tryd.prog W = .ok (.string ⟨[UInt8.ofNat n].toArray⟩) W :=
  run_convert_bytes_back W _ _ 5 a cap [UInt8.ofNat n] Tryd.underlying29 Tryd.underlying5 Tryd.underlying9 fun j hj => by
    obtain rfl : j = 0 := by simp at hj; omega
    rw [show a.add 0 = a from by unfold Addr.add; simp, h]
    show some (Value.int .u8 (n : Int)) = some (Value.int .u8 ((UInt8.ofNat n).toNat : Int))
    rw [toNat_ofNat8 h1]
set_option maxHeartbeats 1000000 in
set_option maxRecDepth 100000 in
theorem one_fold (n : Int) (w : World) (h0 : -9223372036854775808 ≤ n) (h1 : n ≤ 9223372036854775807) : Calls Tryd.prog 105 #[.int .i64 n] w fun e w' => e = .returned (.string ⟨(encN (foldN n)).toArray⟩) ∧ Ext w w' := by
  have hU := foldN_lt h0 h1
  by_cases hn : 0 ≤ n
  · obtain ⟨m, rfl⟩ := Int.eq_ofNat_of_zero_le hn
    have hm : m ≤ 9223372036854775807 := by omega
    have hf : foldN (m : Int) = 2 * m := by unfold foldN; rw [if_pos (by omega)]; omega
    have hS := Lib.hid (show ((2 * (m : Int)) : Int) = (foldN (m : Int) : Int) by rw [hf]; simp)
    generalize foldN (m : Int) = U at hU hS ⊢
    clear hf h0 h1 hn
    go_enter Tryd.func105, Tryd.ntmps105
    go_wp2
    go_loopg [3, 4] U (fun k u s wr => ∃ l : List UInt8, u = .int .u64 k ∧ s = .string ⟨l.toArray⟩ ∧ Hid (k < 18446744073709551616 ∧ l ++ encN k = encN U ∧ Ext w wr))
    case atStart => exact ⟨[], by rw [hS.out], rfl, hU, rfl, Ext.refl w⟩
    case round =>
      obtain ⟨l, rfl, rfl, hinv⟩ := hrel
      obtain ⟨K, hK⟩ : ∃ K, K = gk := ⟨_, rfl⟩
      subst hK
      have hk := hinv.out.1
      have hx := hinv.out.2.2
      have hls : (⟨l.toArray⟩ : ByteArray).size ≤ 10 := by
        rw [size_mk]
        have h1 := congrArg List.length hinv.out.2.1
        rw [List.length_append] at h1
        have h2 := encN_len10 hU
        omega
      have hos : ∀ x : UInt8, (⟨[x].toArray⟩ : ByteArray).size ≤ 1 := fun x => by rw [size_mk]; simp
      have ho1 := hos (UInt8.ofNat K)
      have ho2 := hos (UInt8.ofNat (K % 128 + 128))
      clear hos
      by_cases h : K < 128
      · have hc := convB1 (wr.alloc (.cells #[.int .u8 K] 5)) ⟨wr.heap.size, 0, none⟩ 1 K (by rw [Lib.cell_of_heap (Go.heap_alloc_new _ _)]; rfl) (by omega)
        have HC := Lib.hid hc; clear hc
        have HX := Lib.hid hx; clear hx
        go_wp2
        rw [HC.out]
        go_wp2
        go_ret
        refine ⟨?_, HX.out.alloc _⟩
        rw [← hinv.out.2.1, encN_small h, ← mk_append]
        rfl
      · have hc := convB1 (wr.alloc (.cells #[.int .u8 ((K % 128 + 128 : Nat) : Int)] 5)) ⟨wr.heap.size, 0, none⟩ 1 (K % 128 + 128) (by rw [Lib.cell_of_heap (Go.heap_alloc_new _ _)]; rfl) (by omega)
        have e : ((K % 128 + 128 : Nat) : Int) = (K : Int) % 128 + 128 := by omega
        rw [e] at hc
        generalize hy : UInt8.ofNat (K % 128 + 128) = y at hc ho2
        have HY := Lib.hid hy; clear hy ho1
        have HC := Lib.hid hc; clear hc e
        have HX := Lib.hid hx; clear hx
        go_wp2
        rw [HC.out]
        go_wp2
        go_roundg (K / 128)
        case measure => omega
        case rel =>
          refine ⟨l ++ [y], by go_num, ?_, by omega, ?_, HX.out.alloc _⟩
          · rw [← mk_append]
          · rw [← hinv.out.2.1, encN_big h, HY.out, List.append_assoc]; rfl
  · obtain ⟨m, hm0⟩ := Int.eq_ofNat_of_zero_le (show 0 ≤ -n - 1 by omega)
    obtain rfl : n = -(m : Int) - 1 := by omega
    have hm : m ≤ 9223372036854775807 := by omega
    have hf : foldN (-(m : Int) - 1) = 2 * m + 1 := by unfold foldN; rw [if_neg (by omega)]; omega
    generalize foldN (-(m : Int) - 1) = U at hU hf ⊢
    have hS := Lib.hid hf
    clear hf h0 h1 hn hm0
    have hneg : decide (-(m : Int) - 1 < 0) = true := by simp; omega
    go_enter Tryd.func105, Tryd.ntmps105
    go_wp2
    go_loopg [3, 4] U (fun k u s wr => ∃ l : List UInt8, u = .int .u64 k ∧ s = .string ⟨l.toArray⟩ ∧ Hid (k < 18446744073709551616 ∧ l ++ encN k = encN U ∧ Ext w wr))
    case atStart =>
      exact ⟨[], by rw [hS.out]; simp, rfl, hU, rfl, Ext.refl w⟩
    case round =>
      obtain ⟨l, rfl, rfl, hinv⟩ := hrel
      obtain ⟨K, hK⟩ : ∃ K, K = gk := ⟨_, rfl⟩
      subst hK
      have hk := hinv.out.1
      have hx := hinv.out.2.2
      have hls : (⟨l.toArray⟩ : ByteArray).size ≤ 10 := by
        rw [size_mk]
        have h1 := congrArg List.length hinv.out.2.1
        rw [List.length_append] at h1
        have h2 := encN_len10 hU
        omega
      have hos : ∀ x : UInt8, (⟨[x].toArray⟩ : ByteArray).size ≤ 1 := fun x => by rw [size_mk]; simp
      have ho1 := hos (UInt8.ofNat K)
      have ho2 := hos (UInt8.ofNat (K % 128 + 128))
      clear hos
      by_cases h : K < 128
      · have hc := convB1 (wr.alloc (.cells #[.int .u8 K] 5)) ⟨wr.heap.size, 0, none⟩ 1 K (by rw [Lib.cell_of_heap (Go.heap_alloc_new _ _)]; rfl) (by omega)
        have HC := Lib.hid hc; clear hc
        have HX := Lib.hid hx; clear hx
        go_wp2
        rw [HC.out]
        go_wp2
        go_ret
        refine ⟨?_, HX.out.alloc _⟩
        rw [← hinv.out.2.1, encN_small h, ← mk_append]
        rfl
      · have hc := convB1 (wr.alloc (.cells #[.int .u8 ((K % 128 + 128 : Nat) : Int)] 5)) ⟨wr.heap.size, 0, none⟩ 1 (K % 128 + 128) (by rw [Lib.cell_of_heap (Go.heap_alloc_new _ _)]; rfl) (by omega)
        have e : ((K % 128 + 128 : Nat) : Int) = (K : Int) % 128 + 128 := by omega
        rw [e] at hc
        generalize hy : UInt8.ofNat (K % 128 + 128) = y at hc ho2
        have HY := Lib.hid hy; clear hy ho1
        have HC := Lib.hid hc; clear hc e
        have HX := Lib.hid hx; clear hx
        go_wp2
        rw [HC.out]
        go_wp2
        go_roundg (K / 128)
        case measure => omega
        case rel =>
          refine ⟨l ++ [y], by go_num, ?_, by omega, ?_, HX.out.alloc _⟩
          · rw [← mk_append]
          · rw [← hinv.out.2.1, encN_big h, HY.out, List.append_assoc]; rfl
end Go.Proofs.YtcmllaeihnmkkaaDoor
namespace Go.Proofs.YtcmllaeihnmkkaaDoor
open Go Go.RowKit

set_option maxHeartbeats 2000000 in
set_option maxRecDepth 100000 in
theorem RefPut_ints (zs : List Int) (v : Value) (w : World) (hv : IsInts w v zs) (hn : zs.length ≤ 1000) :
    Calls Tryd.prog 50 #[v] w fun e w' => e = .returned (.string ⟨(putN zs).toArray⟩) ∧ Ext w w' := by
  have hall := hv.all
  obtain ⟨A, c, rfl, hc, hv⟩ := hv
  have H := Lib.hid (And.intro hv hall); clear hv hall
  go_enter Tryd.func50, Tryd.ntmps50
  go_wp2
  go_loopg [3, 4] zs.length (fun k s j wr => ∃ (i : Nat), Hid (i + k = zs.length) ∧ j = .int .i64 i ∧ s = .string ⟨(putN (zs.take i)).toArray⟩ ∧ Hid (Ext w wr))
  case atStart => exact ⟨0, Nat.zero_add _, rfl, rfl, Ext.refl w⟩
  case round =>
    obtain ⟨i, hi, rfl, rfl, hinv⟩ := hrel
    by_cases hlt : i < zs.length
    · obtain ⟨n, hin⟩ : ∃ n, zs[i]? = some n := ⟨zs[i], List.getElem?_eq_getElem hlt⟩
      obtain ⟨hr, gg, off, rfl, hcell⟩ := H.out.1 i n hin
      have hcell' := hinv.out.cell hcell
      have hlen := putN_len (zs.take i) (fun m hm => H.out.2 m (List.mem_of_mem_take hm))
      rw [List.length_take] at hlen
      have hfl := encN_len10 (foldN_lt hr.1 hr.2)
      have hz1 : (⟨(putN (zs.take i)).toArray⟩ : ByteArray).size ≤ 10000 := by rw [size_mk]; omega
      have hz2 : (⟨(encN (foldN n)).toArray⟩ : ByteArray).size ≤ 10 := by rw [size_mk]; omega
      have hcat : (⟨(putN (zs.take i)).toArray⟩ : ByteArray) ++ ⟨(encN (foldN n)).toArray⟩ = ⟨(putN (zs.take (i + 1))).toArray⟩ := by rw [mk_append, putN_take zs i n hin]
      have HN := Lib.hid (And.intro hr hcat); clear hin hr hcell hfl hlen hcat
      generalize (⟨(putN (zs.take i)).toArray⟩ : ByteArray) = S at hz1 HN ⊢
      go_wp2_with fail
      refine (one_fold n wr HN.out.1.1 HN.out.1.2).mono ?_
      rintro e w2 ⟨rfl, hx2⟩
      have HX := Lib.hid (Ext.trans hinv.out hx2); clear hx2
      go_wp2
      go_roundg (gk - 1)
      case measure => have := hi.out; omega
      case rel =>
        refine ⟨i + 1, ?_, by go_num, by rw [HN.out.2], HX.out⟩
        show i + 1 + (gk - 1) = zs.length
        have := hi.out; omega
    · have hil : i = zs.length := by have := hi.out; omega
      have HI := Lib.hid hil; clear hil
      go_wp2
      go_ret
      exact ⟨by rw [HI.out, List.take_length]; rfl, hinv.out⟩
end Go.Proofs.YtcmllaeihnmkkaaDoor
