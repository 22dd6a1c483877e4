/- The document's encoding of a row; a text or a row cut short; are two rows the same? -/
import Derived.Test.YtckdchkegbdiaaaDoorRunesEnc
import Derived.RegionTactic
import Derived.BigRegion
namespace Go.Proofs.YtckdchkegbdiaaaDoor
open Go Go.RowKit

theorem encS_nil : encS [] = ⟨#[]⟩ := rfl
theorem encS_take (zs : List Int) (i : Nat) (n : Int) (h : zs[i]? = some n) : encS (zs.take i) ++ Utf8.encode n = encS (zs.take (i + 1)) := by
  apply ba_ext
  rw [bts_append, bts_encS, bts_encS, encL_take zs i n h]
  rfl
theorem encode_size (n : Int) : (Utf8.encode n).size ≤ 4 := by
  rw [← bts_len]; exact (encR_len n).1
set_option maxHeartbeats 2000000 in
set_option maxRecDepth 100000 in
theorem RefEncode_runes (zs : List Int) (v : Value) (w : World) (hv : IsRunes w v zs) (hn : zs.length ≤ 1000) :
    Calls Tryd.prog 33 #[v] w fun e w' => e = .returned (.string (encS zs)) ∧ Ext w w' := by
  obtain ⟨A, c, rfl, hc, hv⟩ := hv
  have H := Lib.hid hv; clear hv
  go_enter Tryd.func33, Tryd.ntmps33
  go_wp2
  go_loopg [3, 4] zs.length (fun k s j wr => ∃ (i : Nat), Hid (i + k = zs.length) ∧ j = .int .i64 i ∧ s = .string (encS (zs.take i)) ∧ Hid (Ext w wr))
  case atStart => exact ⟨0, Nat.zero_add _, rfl, rfl, Ext.refl w⟩
  case round =>
    obtain ⟨i, hi, rfl, rfl, hinv⟩ := hrel
    by_cases hlt : i < zs.length
    · obtain ⟨n, hin⟩ : ∃ n, zs[i]? = some n := ⟨zs[i], List.getElem?_eq_getElem hlt⟩
      obtain ⟨hr, gg, off, rfl, hcell⟩ := H.out i n hin
      have hcell' := hinv.out.cell hcell
      have hz1 : (encS (zs.take i)).size ≤ 4000 := by
        have := encS_size (zs.take i)
        rw [List.length_take] at this
        omega
      have hz2 := encode_size n
      have HN := Lib.hid (encS_take zs i n hin); clear hin hr hcell
      generalize encS (zs.take i) = S at hz1 HN ⊢
      have hone := RefOne_any n wr
      generalize Utf8.encode n = E at hz2 HN hone
      have HO := Lib.hid hone; clear hone
      go_wp2_with fail
      refine (HO.out).mono ?_
      rintro e w2 ⟨rfl, hx2⟩
      have HX := Lib.hid (Ext.trans hinv.out hx2); clear hx2
      go_wp2
      go_roundg (gk - 1)
      case measure => have := hi.out; omega
      case rel =>
        refine ⟨i + 1, ?_, by go_num, by rw [HN.out], HX.out⟩
        show i + 1 + (gk - 1) = zs.length
        have := hi.out; omega
    · have hil : i = zs.length := by have := hi.out; omega
      have HI := Lib.hid hil; clear hil
      go_wp2
      go_ret
      exact ⟨by rw [HI.out, List.take_length]; rfl, hinv.out⟩
end Go.Proofs.YtckdchkegbdiaaaDoor
