/- The law RunesTell, walked. -/
import Derived.Test.YtghbonkbifnidaaDoorDecode
namespace Go.Proofs.YtghbonkbifnidaaDoor
open Go Go.RowKit

theorem decL_i32 (x : List UInt8) : ∀ n, n ∈ decL x → isI32 n := fun n hn => isI32_rune (decL_all x n hn)
theorem decL_short (s : ByteArray) (n : Nat) : (decL (bts (shortOf s n))).length ≤ n := by
  have h1 := len_decL (bts (shortOf s n))
  have h2 := shortOf_le s n
  rw [bts_len] at h1
  omega
theorem RefWidth_is (r : Int) (w : World) (hr : isI32 r) : Calls Tryd.prog 18 #[.int .i32 r] w fun e w' => e = .returned (.int .i64 (widthL r)) ∧ w' = w := by
  rw [widthL_eq r hr]
  exact RefWidth_any r w hr
theorem bits_i32 (a b : Int) : isI32 (bits .and .i32 a b) := by
  show isI32 (IntKind.i32.wrap ((BitVec.ofInt 32 a &&& BitVec.ofInt 32 b).toNat : Nat))
  rw [IntKind.wrap_i32]
  unfold isI32
  omega
set_option maxHeartbeats 4000000 in
set_option maxRecDepth 100000 in
theorem runesTell_true (s : ByteArray) (zs : List Int) (v : Value) (r : Int) (w : World) (hv : IsRunes w v zs) (hm : zs.length ≤ maxLen) (hr : isI32 r) (hF : Firsts w) (hS : Spans w) :
    Calls Tryd.prog 3 #[.string s, v, .int .i32 r] w fun e w' => e = .returned (.bool true) ∧ Ext w w' := by
  have hs60 := shortOf_le s 60
  have H := Lib.hid (And.intro hv (And.intro hm (And.intro hr (And.intro hF hS)))); clear hv hm hr hF hS
  go_enter Tryd.func3, Tryd.ntmps3
  go_wp2_with fail
  refine (awake_true _ H.out.2.2.2.1).mono ?_
  rintro e w1 ⟨rfl, hx1⟩
  have H1 := Lib.hid hx1; clear hx1
  go_wp2_with fail
  refine (short_of s 60 _ (by decide)).mono ?_
  rintro e w2 ⟨rfl, rfl⟩
  have hdl := decL_short s 60
  generalize shortOf s 60 = x at hs60 hdl ⊢
  have HD := Lib.hid hdl; clear hdl
  go_wp2_with fail
  refine (Decode_any x _ (H.out.2.2.2.1.ext H1.out) (by omega)).mono ?_
  rintro e w3 ⟨v3, rfl, ho3, hx3⟩
  have H3 := Lib.hid (And.intro ho3 (H1.out.trans hx3)); clear ho3 hx3
  go_wp2_with fail
  refine (RefDecode_any x _ (by omega)).mono ?_
  rintro e w4 ⟨v4, rfl, ho4, hx4⟩
  have H4 := Lib.hid (And.intro ((H3.out.1.isRunes (decL_i32 _)).ext hx4) (And.intro (ho4.isRunes (decL_i32 _)) (H3.out.2.trans hx4))); clear ho4 hx4
  go_wp2_with fail
  refine (Same_eq _ v3 v4 _ H4.out.1 H4.out.2.1 (by have := HD.out; omega)).mono ?_
  rintro e w5 ⟨rfl, hx5⟩
  have H5 := Lib.hid (H4.out.2.2.trans hx5); clear hx5
  go_wp2_with fail
  refine (few_of zs v _ (H.out.1.ext H5.out) H.out.2.1).mono ?_
  rintro e w6 ⟨⟨v6, rfl, h6⟩, rfl⟩
  have H6 := Lib.hid h6; clear h6
  go_wp2_with fail
  refine (Encode_runes _ v6 _ H6.out).mono ?_
  rintro e w7 ⟨rfl, rfl⟩
  go_wp2_with fail
  refine (few_of zs v _ (H.out.1.ext H5.out) H.out.2.1).mono ?_
  rintro e w8 ⟨⟨v8, rfl, h8⟩, rfl⟩
  have H8 := Lib.hid h8; clear h8
  go_wp2_with fail
  refine (RefEncode_runes _ v8 _ H8.out (by have := fewL_len zs 20; omega)).mono ?_
  rintro e w9 ⟨rfl, hx9⟩
  have H9 := Lib.hid (H5.out.trans hx9); clear hx9
  go_wp2_with fail
  refine (Width_any r _ (H.out.2.2.2.2.ext H9.out)).mono ?_
  rintro e w10 ⟨rfl, hx10⟩
  have H10 := Lib.hid (H9.out.trans hx10); clear hx10
  go_wp2_with fail
  refine (RefWidth_is r _ H.out.2.2.1).mono ?_
  rintro e w11 ⟨rfl, rfl⟩
  generalize widthL r = V
  go_wp2_with fail
  refine (Width_any _ _ (H.out.2.2.2.2.ext H10.out)).mono ?_
  rintro e w12 ⟨rfl, hx12⟩
  have H12 := Lib.hid (H10.out.trans hx12); clear hx12
  go_wp2_with fail
  refine (RefWidth_is _ _ (bits_i32 _ _)).mono ?_
  rintro e w13 ⟨rfl, rfl⟩
  generalize widthL _ = V2
  go_wp2
  go_ret
  exact ⟨rfl, H12.out⟩
end Go.Proofs.YtghbonkbifnidaaDoor
