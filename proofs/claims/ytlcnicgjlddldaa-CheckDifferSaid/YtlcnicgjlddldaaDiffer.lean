/- The law CheckDiffer, walked. -/
import Derived.Test.YtlcnicgjlddldaaParts
import Derived.Test.YtlcnicgjlddldaaBytes
namespace Go.Proofs.Ytlcnicgjlddldaa
open Go Go.RowKit

attribute [local go_sem] conv_bytes
theorem tmod_bounds (a b : Int) (h : 0 < b) : -b < a.tmod b ∧ a.tmod b < b := by
  have h1 := Int.tmod_lt_of_pos a h
  have h2 := Int.lt_tmod_of_pos a h
  omega
theorem four_size : (⟨#[102, 111, 117, 114]⟩ : ByteArray).size = 4 := rfl
theorem flips_sum {l : List UInt8} {k : Nat} {bf : Nat → Nat} (h : k + 4 ≤ l.length) (hb : ∀ i, bf i < 256) : sumOf (flips l k bf 4) = sumOf l ↔ ∀ j, j < 4 → bf j = 0 := by
  obtain ⟨pre, a, b, c, d, post, rfl, rfl⟩ := four_parts h
  rw [flips_four]
  constructor
  · intro he
    obtain ⟨h0, h1, h2, h3⟩ := sumOf_differ pre post _ _ _ _ _ _ _ _ he
    intro j hj
    match j, hj with
    | 0, _ => exact (xb_same _ _ (hb 0)).1 h0
    | 1, _ => exact (xb_same _ _ (hb 1)).1 h1
    | 2, _ => exact (xb_same _ _ (hb 2)).1 h2
    | 3, _ => exact (xb_same _ _ (hb 3)).1 h3
  · intro he
    rw [(xb_same _ _ (hb 0)).2 (he 0 (by omega)), (xb_same _ _ (hb 1)).2 (he 1 (by omega)), (xb_same _ _ (hb 2)).2 (he 2 (by omega)), (xb_same _ _ (hb 3)).2 (he 3 (by omega))]
set_option maxHeartbeats 4000000 in
set_option maxRecDepth 100000 in
theorem differ_true (s : ByteArray) (at_ : Int) (bf : Nat → Nat) (w : World) (hat : -9223372036854775808 ≤ at_ ∧ at_ ≤ 9223372036854775807) (hbf : ∀ i, bf i < 256) : Calls Try.prog 5 #[.string s, .int .i64 at_, .agg #[.int .u8 (bf 0), .int .u8 (bf 1), .int .u8 (bf 2), .int .u8 (bf 3)]] w fun e w' => e = .returned (.bool true) ∧ Ext w w' := by
  go_enter Try.func5, Try.ntmps5
  go_wp2_with fail
  refine (awake_true _).mono ?_
  rintro e w1 ⟨rfl, hx1⟩
  have hc := shortOf_le s 299
  have hc4 : ¬ 9223372036854775807 < (shortOf s 299).size + 4 := by omega
  go_wp2_with (go_at_call 7; refine (short_of _ 299 _ (by decide)).mono ?_; rintro e w2 ⟨rfl, rfl⟩)
  have hlen : (bts (shortOf s 299 ++ ⟨#[102, 111, 117, 114]⟩)).length = (shortOf s 299).size + 4 := by rw [bts_len, ByteArray.size_append, four_size]
  obtain ⟨hB, hX3⟩ := conv_bytes_at w2 (shortOf s 299 ++ ⟨#[102, 111, 117, 114]⟩)
  generalize Lib.bytesWorld w2 5 (shortOf s 299 ++ ⟨#[102, 111, 117, 114]⟩) = w3 at hB hX3 ⊢
  generalize grownCap w2 ((shortOf s 299).size + 4) 0 5 = cp
  generalize bts (shortOf s 299 ++ ⟨#[102, 111, 117, 114]⟩) = l at hB hlen
  generalize (shortOf s 299).size = n at hc hc4 hlen ⊢
  have hbk := conv_back w3 _ cp l hB
  rw [hlen] at hbk
  rw [hbk]
  go_wp2_with fail
  refine (Sum_text ⟨l.toArray⟩ _ (by rw [size_mk]; omega)).mono ?_
  rintro e w4 ⟨rfl, hx4⟩
  rw [bts_mk]
  have HB := Lib.hid (And.intro (hB.ext hx4) (And.intro hlen (And.intro hbf (And.intro hat (And.intro hX3 (And.intro hx4 hx1)))))); clear hB hlen hbf hat hX3 hx4 hx1 hbk hc4
  obtain ⟨M, hM⟩ : ∃ M, n + 4 = M := ⟨_, rfl⟩
  rw [hM]
  obtain ⟨R, hR, hR0, hR1⟩ : ∃ R : Int, at_.tmod ((M : Int) - 3) = R ∧ -((M : Int) - 3) < R ∧ R < (M : Int) - 3 := ⟨_, rfl, tmod_bounds at_ ((M : Int) - 3) (by omega)⟩
  obtain ⟨k, hk, hk1⟩ : ∃ k : Nat, (R + (M : Int) - 3).tmod ((M : Int) - 3) = (k : Int) ∧ k + 4 ≤ M := by
    refine ⟨((R + (M : Int) - 3).tmod ((M : Int) - 3)).toNat, ?_⟩
    have h1 := tmod_bounds (R + (M : Int) - 3) ((M : Int) - 3) (by omega)
    have h2 := Int.tmod_nonneg ((M : Int) - 3) (show 0 ≤ R + (M : Int) - 3 by omega)
    omega
  have hM1 : 4 ≤ M := by omega
  have hM2 : M ≤ 303 := by omega
  have HM := Lib.hid hM; clear hM hc
  go_upto_region 5 with fail
  clear hR hk hR0 hR1
  have hby : ∀ i, i < 4 → w4.cell? ⟨w.heap.size, i, none⟩ = some (.int .u8 (bf i)) := by
    intro i hi
    refine ((HB.out.2.2.2.2.2.2.trans HB.out.2.2.2.2.1).trans HB.out.2.2.2.2.2.1).cell ?_
    rw [Lib.cell_of_heap (Go.heap_alloc_new _ _)]
    match i, hi with
    | 0, _ => rfl
    | 1, _ => rfl
    | 2, _ => rfl
    | 3, _ => rfl
  have hne : w.heap.size ≠ w2.heap.size := by
    have := HB.out.2.2.2.2.2.2.size
    simp at this
    omega
  have HY := Lib.hid (And.intro hby hne); clear hby hne
  have hml : M = l.length := by have := HM.out; have := HB.out.2.1; omega
  have HL := Lib.hid hml; clear hml
  have hB4 := HB.out.1
  go_wp2
  go_loopg [11, 12] 4 (fun r sm c wq => ∃ (i : Nat) (b : Bool), Hid (i + r = 4) ∧ c = .int .i64 i ∧ sm = .bool b ∧ Hid (b = true ↔ ∀ j, j < i → bf j = 0) ∧ Hid (BytesAt wq w2.heap.size (flips l k bf i) ∧ Only w2.heap.size w4 wq))
  case atStart => exact ⟨0, true, Nat.zero_add _, rfl, rfl, by show _ ↔ _; simp, hB4, Only.refl _ _⟩
  case round =>
    obtain ⟨i, b, hi, rfl, rfl, hb, hinv⟩ := hrel
    by_cases hi4 : i < 4
    · have hkl : k + i < (flips l k bf i).length := by rw [flips_len, ← HL.out]; omega
      have hkM : k + i < M := by omega
      obtain ⟨a, ha⟩ : ∃ a, (flips l k bf i)[k + i]? = some a := ⟨_, List.getElem?_eq_getElem hkl⟩
      have c1 := hinv.out.1.cell _ a ha
      have c2 := hinv.out.1.frozen hkl
      have c3 : wr.cell? ⟨w.heap.size, i, none⟩ = some (.int .u8 (bf i)) := hinv.out.2.cell HY.out.2 (HY.out.1 i hi4)
      obtain ⟨v, hv⟩ : ∃ v : UInt8, v = UInt8.ofNat (a.toNat ^^^ bf i) := ⟨_, rfl⟩
      have hx : bits .xor .u8 ((a.toNat : Nat) : Int) ((bf i : Nat) : Int) = ((v.toNat : Nat) : Int) := by
        rw [hv, UInt8.toNat_ofNat', Nat.mod_eq_of_lt (xor_lt8 a.toNat_lt (HB.out.2.2.1 i))]
        exact u8_xor_nat _ _ a.toNat_lt (HB.out.2.2.1 i)
      have HA := Lib.hid (And.intro ha hkl); clear ha hkl
      have hkw : IntKind.i64.wrap ((k : Int) + (i : Int)) = ((k + i : Nat) : Int) := by
        rw [IntWalk.i64_in _ (by omega)]; omega
      have hs := hinv.out.1.set HA.out.2 v
      have he : (flips l k bf i).set (k + i) v = flips l k bf (i + 1) := by
        rw [flips, List.getD_eq_getElem?_getD, HA.out.1, hv]; rfl
      rw [he] at hs
      have HS := Lib.hid (And.intro hs (hinv.out.2.setCell (i := k + i) (.int .u8 (v.toNat)))); clear hs he hv
      go_wp2
      go_region
      clear c1 c2
      have c4 : ((wr.setCell ⟨w2.heap.size, k + i, none⟩ (.int .u8 (v.toNat))).drew).cell? ⟨w.heap.size, i, none⟩ = some (.int .u8 (bf i)) := HS.out.2.cell HY.out.2 (HY.out.1 i hi4)
      replace HS := Lib.hid (And.intro HS.out.1.drew HS.out.2.drew)
      clear c3 hx hkw
      generalize (wr.setCell ⟨w2.heap.size, k + i, none⟩ (.int .u8 (v.toNat))).drew = wx at c4 HS ⊢
      have hbi : b = true ∧ bf i = 0 ↔ ∀ j, j < i + 1 → bf j = 0 := by
        rw [hb.out]
        constructor
        · rintro ⟨h1, h2⟩ j hj
          rcases Nat.lt_or_ge j i with h | h
          · exact h1 j h
          · rw [show j = i by omega]; exact h2
        · exact fun h => ⟨fun j hj => h j (by omega), h i (by omega)⟩
      have HBI := Lib.hid hbi; clear hbi
      cases b
      · go_wp2
        go_roundg (gk - 1)
        case measure => have := hi.out; omega
        case rel =>
          refine ⟨i + 1, false, ?_, by go_num, rfl, ?_, HS.out⟩
          · show i + 1 + (gk - 1) = 4
            have := hi.out; omega
          · show _ ↔ _
            rw [← HBI.out]; simp
      · by_cases hz : bf i = 0
        · have hzb : (((bf i : Nat) : Int) == 0) = true := by rw [hz]; rfl
          go_wp2
          go_roundg (gk - 1)
          case measure => have := hi.out; omega
          case rel =>
            refine ⟨i + 1, true, ?_, by go_num, rfl, ?_, HS.out⟩
            · show i + 1 + (gk - 1) = 4
              have := hi.out; omega
            · show _ ↔ _
              rw [← HBI.out]; simp [hz]
        · have hzb : (((bf i : Nat) : Int) == 0) = false := by simp; omega
          go_wp2
          go_roundg (gk - 1)
          case measure => have := hi.out; omega
          case rel =>
            refine ⟨i + 1, false, ?_, by go_num, rfl, ?_, HS.out⟩
            · show i + 1 + (gk - 1) = 4
              have := hi.out; omega
            · show _ ↔ _
              rw [← HBI.out]; simp [hz]
    · go_wp2
      have hi4' : i = 4 := by have := hi.out; omega
      subst hi4'
      have hbk := conv_back wr _ cp _ hinv.out.1
      rw [flips_len, ← HL.out] at hbk
      rw [hbk]
      clear hbk
      go_wp2_with fail
      refine (Sum_text ⟨(flips l k bf 4).toArray⟩ _ (by rw [size_mk, flips_len, ← HL.out]; omega)).mono ?_
      rintro e w5 ⟨rfl, hx5⟩
      rw [bts_mk]
      have hs : (sumOf (flips l k bf 4) = sumOf l) ↔ b = true := by
        rw [hb.out]; exact flips_sum (by rw [← HL.out]; exact hk1) HB.out.2.2.1
      have hX : Ext w w5 := by
        have h1 : Ext w w4 := (((Ext.refl w).alloc _).trans (HB.out.2.2.2.2.2.2)).trans (HB.out.2.2.2.2.1.trans HB.out.2.2.2.2.2.1)
        have h2 : Ext w wr := Below.trans h1 (hinv.out.2.below (by have := HB.out.2.2.2.2.2.2.size; simp at this; omega) h1.size)
        exact h2.trans hx5
      have HZ := Lib.hid (And.intro hs hX); clear hs hX hx5
      generalize sumOf (flips l k bf 4) = z1 at HZ ⊢
      generalize sumOf l = z2 at HZ ⊢
      cases b
      · have hzz : (((z1 : Nat) : Int) == ((z2 : Nat) : Int)) = false := by
          have := HZ.out.1
          simp at this ⊢; omega
        go_wp2
        go_ret
        exact ⟨rfl, HZ.out.2⟩
      · have hzz : z1 = z2 := HZ.out.1.2 rfl
        subst hzz
        go_wp2
        go_ret
        exact ⟨rfl, HZ.out.2⟩
end Go.Proofs.Ytlcnicgjlddldaa
