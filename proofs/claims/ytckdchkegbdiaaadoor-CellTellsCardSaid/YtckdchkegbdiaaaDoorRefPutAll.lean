/- The document's bytes of a row of numbers, and of a text; the chapter's example; a text cut short. -/
import Derived.Test.YtckdchkegbdiaaaDoorRefPut
namespace Go.Proofs.YtckdchkegbdiaaaDoor
open Go Go.RowKit

set_option maxHeartbeats 2000000 in
set_option maxRecDepth 100000 in
theorem RefPut_ints (zs : List Int) (v : Value) (w : World) (hv : IsInts w v zs) (hn : zs.length ≤ 1000) :
    Calls Tryd.prog 43 #[v] w fun e w' => e = .returned (.string ⟨(putN zs).toArray⟩) ∧ Ext w w' := by
  have hall := hv.all
  obtain ⟨A, c, rfl, hc, hv⟩ := hv
  have H := Lib.hid (And.intro hv hall); clear hv hall
  go_enter Tryd.func43, Tryd.ntmps43
  go_wp2
  go_loopg [3, 4] zs.length (fun k s j wr => ∃ (i : Nat), Hid (i + k = zs.length) ∧ j = .int .i64 i ∧ s = .string ⟨(putN (zs.take i)).toArray⟩ ∧ Hid (Ext w wr))
  case atStart => exact ⟨0, Nat.zero_add _, rfl, rfl, Ext.refl w⟩
  case round =>
    obtain ⟨i, hi, rfl, rfl, hinv⟩ := hrel
    by_cases hlt : i < zs.length
    · obtain ⟨n, hin⟩ : ∃ n, zs[i]? = some n := ⟨zs[i], List.getElem?_eq_getElem hlt⟩
      obtain ⟨hr, gg, off, rfl, hcell⟩ := H.out.1 i n hin
      have hcell' := hinv.out.cell hcell
      have hlen := putN_len (zs.take i) (fun m hm => H.out.2 m (List.mem_of_mem_take hm))
      rw [List.length_take] at hlen
      have hfl := encN_len10 (foldN_lt hr.1 hr.2)
      have hz1 : (⟨(putN (zs.take i)).toArray⟩ : ByteArray).size ≤ 10000 := by rw [size_mk]; omega
      have hz2 : (⟨(encN (foldN n)).toArray⟩ : ByteArray).size ≤ 10 := by rw [size_mk]; omega
      have hcat : (⟨(putN (zs.take i)).toArray⟩ : ByteArray) ++ ⟨(encN (foldN n)).toArray⟩ = ⟨(putN (zs.take (i + 1))).toArray⟩ := by rw [mk_append, putN_take zs i n hin]
      have HN := Lib.hid (And.intro hr hcat); clear hin hr hcell hfl hlen hcat
      generalize (⟨(putN (zs.take i)).toArray⟩ : ByteArray) = S at hz1 HN ⊢
      go_wp2_with fail
      refine (one_fold n wr HN.out.1.1 HN.out.1.2).mono ?_
      rintro e w2 ⟨rfl, hx2⟩
      have HX := Lib.hid (Ext.trans hinv.out hx2); clear hx2
      go_wp2
      go_roundg (gk - 1)
      case measure => have := hi.out; omega
      case rel =>
        refine ⟨i + 1, ?_, by go_num, by rw [HN.out.2], HX.out⟩
        show i + 1 + (gk - 1) = zs.length
        have := hi.out; omega
    · have hil : i = zs.length := by have := hi.out; omega
      have HI := Lib.hid hil; clear hil
      go_wp2
      go_ret
      exact ⟨by rw [HI.out, List.take_length]; rfl, hinv.out⟩
end Go.Proofs.YtckdchkegbdiaaaDoor
