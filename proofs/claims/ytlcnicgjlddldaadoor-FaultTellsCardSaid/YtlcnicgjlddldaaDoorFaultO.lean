/- At, In at every fault; the chapter's example. -/
import Derived.Test.YtlcnicgjlddldaaDoorFaultJ
import Derived.Test.YtlcnicgjlddldaaDoorFaultB
namespace Go.Proofs.YtlcnicgjlddldaaDoor
open Go Go.RowKit

theorem At_rep (t : Tr) (v : Value) (p : Int) (w : World) (h : Rep w t v) (h0 : -9223372036854775808 ≤ p) (h1 : p ≤ 9223372036854775807) : Calls Tryd.prog 24 #[v, .int .i64 p] w fun e w' => ∃ v', e = .returned v' ∧ Rep w' (.place p t) v' ∧ Ext w w' := by
  obtain ⟨u, x, rfl⟩ := h.form
  have H := Lib.hid (And.intro h (And.intro h0 h1)); clear h h0 h1
  go_enter Tryd.func24, Tryd.ntmps24
  go_wp2_with (first | (go_at_call 49; refine (strange_rep _ H.out.1).mono ?_; rintro e w' ⟨rfl, hx⟩))
  go_ret
  exact ⟨_, rfl, ⟨u, x, rfl, H.out.2, H.out.1.ext hx⟩, hx⟩
theorem In_rep (t : Tr) (v : Value) (s : ByteArray) (w : World) (h : Rep w t v) : Calls Tryd.prog 23 #[v, .string s] w fun e w' => ∃ v', e = .returned v' ∧ Rep w' (.word s t) v' ∧ Ext w w' := by
  obtain ⟨u, x, rfl⟩ := h.form
  have H := Lib.hid h; clear h
  go_enter Tryd.func23, Tryd.ntmps23
  go_wp2_with (first | (go_at_call 49; refine (strange_rep _ H.out).mono ?_; rintro e w' ⟨rfl, hx⟩))
  go_ret
  exact ⟨_, rfl, ⟨u, x, rfl, H.out.ext hx⟩, hx⟩

theorem awake_text : (Tr.word ⟨#[114, 111, 119]⟩ (.place 3 (.code 10))).text = [114, 111, 119, 58, 32, 97, 116, 32, 51, 58, 32, 108, 121, 99, 101, 117, 109, 58, 32, 101, 114, 114, 111, 114, 32, 49, 48] := by
  have h3 : Lib.itoa 3 = [51] := by
    show Lib.itoa ((3 : Nat) : Int) = _
    rw [Lib.itoa_nonneg, dec_one 3 (by decide)]; rfl
  have h10 : Lib.itoa 10 = [49, 48] := by
    show Lib.itoa ((10 : Nat) : Int) = _
    rw [Lib.itoa_nonneg, dec_step 10 (by decide), dec_one (10 / 10) (by decide)]; rfl
  simp only [Tr.text, codeText, h3, h10]
  rfl

set_option maxRecDepth 100000 in
set_option maxHeartbeats 1000000 in
/-- The chapter's example. -/
theorem awake_true (w : World) (hp : Pow10 w) : Calls Tryd.prog 11 #[] w fun e w' => e = .returned (.bool true) ∧ Ext w w' := by
  have HP := Lib.hid hp; clear hp
  go_enter Tryd.func11, Tryd.ntmps11
  go_wp2_with (go_at_call 26; refine (new_code 10 _ (by decide)).mono ?_; rintro e w1 ⟨rfl, rfl⟩)
  refine (At_rep (.code 10) _ 3 _ ⟨rfl, by decide, by decide, by decide⟩ (by decide) (by decide)).mono ?_
  rintro e w2 ⟨v2, rfl, hr2, hx2⟩
  have HR2 := Lib.hid hr2; clear hr2
  go_wp2_with fail
  refine (In_rep _ _ _ _ HR2.out).mono ?_
  rintro e w3 ⟨v3, rfl, hr3, hx3⟩
  have HR3 := Lib.hid hr3; clear hr3
  go_wp2_with fail
  refine (Text_rep _ _ _ HR3.out (HP.out.ext (hx2.trans hx3)) (by rw [awake_text]; decide)).mono ?_
  rw [awake_text]
  rintro e w4 ⟨rfl, hx4⟩
  go_wp2
  go_ret
  exact ⟨rfl, (hx2.trans hx3).trans hx4⟩
end Go.Proofs.YtlcnicgjlddldaaDoor
