/- The law CheckFinds, walked. -/
import Derived.Test.YtlcnicgjlddldaaDoorBack
namespace Go.Proofs.YtlcnicgjlddldaaDoor
open Go Go.RowKit

theorem flips_zero {l : List UInt8} {k : Nat} {bf : Nat → Nat} (h : k + 4 ≤ l.length) (hb : ∀ i, bf i < 256) (hz : ∀ j, j < 4 → bf j = 0) : flips l k bf 4 = l := by
  obtain ⟨pre, a, b, c, d, post, rfl, rfl⟩ := four_parts h
  rw [flips_four, (xb_same _ _ (hb 0)).2 (hz 0 (by omega)), (xb_same _ _ (hb 1)).2 (hz 1 (by omega)), (xb_same _ _ (hb 2)).2 (hz 2 (by omega)), (xb_same _ _ (hb 3)).2 (hz 3 (by omega))]
theorem flips_eats {l : List UInt8} {k : Nat} {bf : Nat → Nat} (h : k + 4 ≤ l.length) (hb : ∀ i, bf i < 256) (he : eats 4294967295 (flips l k bf 4) = eats 4294967295 l) : ∀ j, j < 4 → bf j = 0 := by
  obtain ⟨pre, a, b, c, d, post, rfl, rfl⟩ := four_parts h
  rw [flips_four] at he
  obtain ⟨h0, h1, h2, h3⟩ := burst 4294967295 (by decide) pre post _ _ _ _ _ _ _ _ he
  intro j hj
  match j, hj with
  | 0, _ => exact (xb_same _ _ (hb 0)).1 h0
  | 1, _ => exact (xb_same _ _ (hb 1)).1 h1
  | 2, _ => exact (xb_same _ _ (hb 2)).1 h2
  | 3, _ => exact (xb_same _ _ (hb 3)).1 h3
/-- What was turned within four bytes beside one another is not opened; what was not turned is. -/
theorem turned (x : ByteArray) (k : Nat) (bf : Nat → Nat) (hk : k + 4 ≤ x.size + 4) (hb : ∀ i, bf i < 256) :
    ∃ a t : ByteArray, a ++ t = ⟨(flips (bts (wrapOf x)) k bf 4).toArray⟩ ∧ a.size = x.size ∧ t.size = 4 ∧ ((∀ j, j < 4 → bf j = 0) → a = x ∧ t = ⟨(le4 (sumOf (bts a))).toArray⟩) ∧ (t = ⟨(le4 (sumOf (bts a))).toArray⟩ → ∀ j, j < 4 → bf j = 0) := by
  have hl : (bts (wrapOf x)).length = x.size + 4 := by rw [bts_len, wrapOf_size]
  have hfl : (flips (bts (wrapOf x)) k bf 4).length = x.size + 4 := by rw [flips_len, hl]
  have hz0 : (∀ j, j < 4 → bf j = 0) → flips (bts (wrapOf x)) k bf 4 = bts x ++ le4 (sumOf (bts x)) := fun hz => by rw [flips_zero (by rw [hl]; omega) hb hz, bts_wrapOf]
  have hbk : eats 4294967295 (flips (bts (wrapOf x)) k bf 4) = dnN 32 4294967295 → ∀ j, j < 4 → bf j = 0 := fun h => flips_eats (l := bts (wrapOf x)) (k := k) (by rw [hl]; omega) hb (by rw [h, bts_wrapOf, eats_wrapped])
  generalize flips (bts (wrapOf x)) k bf 4 = F at hfl hz0 hbk ⊢
  refine ⟨⟨(F.take x.size).toArray⟩, ⟨(F.drop x.size).toArray⟩, ?_, ?_, ?_, ?_, ?_⟩
  · apply ba_ext
    rw [bts_append, bts_mk (F.take _), bts_mk (F.drop _), bts_mk F, List.take_append_drop]
  · rw [size_mk (F.take _), List.length_take, hfl]; omega
  · rw [size_mk (F.drop _), List.length_drop, hfl]; omega
  · intro hz
    rw [hz0 hz]
    have e1 : (bts x ++ le4 (sumOf (bts x))).take x.size = bts x := by rw [← bts_len x, List.take_left']; rfl
    have e2 : (bts x ++ le4 (sumOf (bts x))).drop x.size = le4 (sumOf (bts x)) := by rw [← bts_len x, List.drop_left']; rfl
    rw [e1, e2]
    have e3 : (⟨(bts x).toArray⟩ : ByteArray) = x := ba_ext (bts_mk (bts x))
    rw [e3]
    exact ⟨rfl, rfl⟩
  · intro ht
    refine hbk ?_
    have h1 := congrArg bts ht
    rw [bts_mk (F.take _), bts_mk (F.drop _), bts_mk (le4 _)] at h1
    have h2 : F = F.take x.size ++ le4 (sumOf (F.take x.size)) := by
      rw [← h1, List.take_append_drop]
    rw [h2, eats_wrapped]

attribute [local go_sem] conv_bytes
set_option maxHeartbeats 4000000 in
set_option maxRecDepth 100000 in
theorem finds_true (s : ByteArray) (at_ : Int) (bf : Nat → Nat) (w : World) (hat : -9223372036854775808 ≤ at_ ∧ at_ ≤ 9223372036854775807) (hbf : ∀ i, bf i < 256) (hg : ErrType w) : Calls Tryd.prog 9 #[.string s, .int .i64 at_, .agg #[.int .u8 (bf 0), .int .u8 (bf 1), .int .u8 (bf 2), .int .u8 (bf 3)]] w fun e w' => e = .returned (.bool true) ∧ Ext w w' := by
  have HG := Lib.hid hg; clear hg
  go_enter Tryd.func9, Tryd.ntmps9
  go_wp2_with fail
  refine (awakeC_true _).mono ?_
  rintro e w1 ⟨rfl, hx1⟩
  have hc := shortOf_le s 300
  go_wp2_with (go_at_call 28; refine (short_of _ 300 _ (by decide)).mono ?_; rintro e w2 ⟨rfl, rfl⟩)
  generalize hX : shortOf s 300 = x at hc ⊢
  have HX := Lib.hid hX; clear hX
  refine (Wrap_ok x w2 (by omega)).mono ?_
  rintro e w3 ⟨rfl, hx3⟩
  go_wp2_with fail
  refine (Code_nil _).mono ?_
  rintro e w3b ⟨rfl, hx3b⟩
  have hwz := wrapOf_size x
  obtain ⟨hB, hX3⟩ := conv_bytes_at w3b (wrapOf x)
  have HB0 := Lib.hid (And.intro hbf (And.intro hat (And.intro hx3 (And.intro hx3b hx1)))); clear hbf hat hx3 hx3b hx1
  have hlen : (bts (wrapOf x)).length = x.size + 4 := by rw [bts_len, wrapOf_size]
  go_upto_region 6 with fail
  generalize Lib.bytesWorld w3b 5 (wrapOf x) = w4 at hB hX3 ⊢
  generalize grownCap w3b (x.size + 4) 0 5 = cp
  have HB := Lib.hid (And.intro hB (And.intro hlen (And.intro HB0.out.1 (And.intro HB0.out.2.1 (And.intro (HB0.out.2.2.2.2.trans ((HB0.out.2.2.1.trans HB0.out.2.2.2.1).trans hX3)) (HB0.out.2.2.2.2.trans (HB0.out.2.2.1.trans HB0.out.2.2.2.1))))))); clear hB hlen hX3 HB0
  have hat := HB.out.2.2.2.1
  have HW := Lib.hid hwz; clear hwz
  obtain ⟨l, hl⟩ : ∃ l, l = bts (wrapOf x) := ⟨_, rfl⟩
  rw [← hl] at HB
  have HL0 := Lib.hid hl; clear hl
  obtain ⟨n, hn⟩ : ∃ n, x.size = n := ⟨_, rfl⟩
  rw [hn] at HB
  rw [hn] at hc
  simp only [hn]
  have HN := Lib.hid hn; clear hn
  obtain ⟨M, hM⟩ : ∃ M, n + 4 = M := ⟨_, rfl⟩
  rw [hM]
  obtain ⟨R, hR, hR0, hR1⟩ : ∃ R : Int, at_.tmod ((M : Int) - 3) = R ∧ -((M : Int) - 3) < R ∧ R < (M : Int) - 3 := ⟨_, rfl, tmod_bounds at_ ((M : Int) - 3) (by omega)⟩
  obtain ⟨k, hk, hk1⟩ : ∃ k : Nat, (R + (M : Int) - 3).tmod ((M : Int) - 3) = (k : Int) ∧ k + 4 ≤ M := by
    refine ⟨((R + (M : Int) - 3).tmod ((M : Int) - 3)).toNat, ?_⟩
    have h1 := tmod_bounds (R + (M : Int) - 3) ((M : Int) - 3) (by omega)
    have h2 := Int.tmod_nonneg ((M : Int) - 3) (show 0 ≤ R + (M : Int) - 3 by omega)
    omega
  have hM1 : 4 ≤ M := by omega
  have hM2 : M ≤ 304 := by omega
  have HM := Lib.hid hM; clear hM
  go_upto_region 7 with fail
  clear hR hk hR0 hR1
  have hby : ∀ i, i < 4 → w4.cell? ⟨w.heap.size, i, none⟩ = some (.int .u8 (bf i)) := by
    intro i hi
    refine HB.out.2.2.2.2.1.cell ?_
    rw [Lib.cell_of_heap (Go.heap_alloc_new _ _)]
    match i, hi with
    | 0, _ => rfl
    | 1, _ => rfl
    | 2, _ => rfl
    | 3, _ => rfl
  have hne : w.heap.size ≠ w3b.heap.size := by
    have := HB.out.2.2.2.2.2.size
    simp at this
    omega
  have HY := Lib.hid (And.intro hby hne); clear hby hne
  have hml : M = l.length := by have := HM.out; have := HB.out.2.1; omega
  have HL := Lib.hid hml; clear hml
  have hB4 := HB.out.1
  go_wp2
  go_loopg [12, 13] 4 (fun r sm c wq => ∃ (i : Nat) (b : Bool), Hid (i + r = 4) ∧ c = .int .i64 i ∧ sm = .bool b ∧ Hid (b = true ↔ ∀ j, j < i → bf j = 0) ∧ Hid (BytesAt wq w3b.heap.size (flips l k bf i) ∧ Only w3b.heap.size w4 wq))
  case atStart => exact ⟨0, true, Nat.zero_add _, rfl, rfl, by show _ ↔ _; simp, hB4, Only.refl _ _⟩
  case round =>
    obtain ⟨i, b, hi, rfl, rfl, hb, hinv⟩ := hrel
    by_cases hi4 : i < 4
    · have hkl : k + i < (flips l k bf i).length := by rw [flips_len, ← HL.out]; omega
      have hkM : k + i < M := by omega
      obtain ⟨a, ha⟩ : ∃ a, (flips l k bf i)[k + i]? = some a := ⟨_, List.getElem?_eq_getElem hkl⟩
      have c1 := hinv.out.1.cell _ a ha
      have c2 := hinv.out.1.frozen hkl
      have c3 : wr.cell? ⟨w.heap.size, i, none⟩ = some (.int .u8 (bf i)) := hinv.out.2.cell HY.out.2 (HY.out.1 i hi4)
      obtain ⟨v, hv⟩ : ∃ v : UInt8, v = UInt8.ofNat (a.toNat ^^^ bf i) := ⟨_, rfl⟩
      have hx : bits .xor .u8 ((a.toNat : Nat) : Int) ((bf i : Nat) : Int) = ((v.toNat : Nat) : Int) := by
        rw [hv, UInt8.toNat_ofNat', Nat.mod_eq_of_lt (xor_lt8 a.toNat_lt (HB.out.2.2.1 i))]
        exact u8_xor_nat _ _ a.toNat_lt (HB.out.2.2.1 i)
      have HA := Lib.hid (And.intro ha hkl); clear ha hkl
      have hkw : IntKind.i64.wrap ((k : Int) + (i : Int)) = ((k + i : Nat) : Int) := by
        rw [IntWalk.i64_in _ (by omega)]; omega
      have hs := hinv.out.1.set HA.out.2 v
      have he : (flips l k bf i).set (k + i) v = flips l k bf (i + 1) := by
        rw [flips, List.getD_eq_getElem?_getD, HA.out.1, hv]; rfl
      rw [he] at hs
      have HS := Lib.hid (And.intro hs (hinv.out.2.setCell (i := k + i) (.int .u8 (v.toNat)))); clear hs he hv
      go_wp2
      go_region
      clear c1 c2
      have c4 : ((wr.setCell ⟨w3b.heap.size, k + i, none⟩ (.int .u8 (v.toNat))).drew).cell? ⟨w.heap.size, i, none⟩ = some (.int .u8 (bf i)) := HS.out.2.cell HY.out.2 (HY.out.1 i hi4)
      replace HS := Lib.hid (And.intro HS.out.1.drew HS.out.2.drew)
      clear c3 hx hkw
      generalize (wr.setCell ⟨w3b.heap.size, k + i, none⟩ (.int .u8 (v.toNat))).drew = wx at c4 HS ⊢
      have hbi : b = true ∧ bf i = 0 ↔ ∀ j, j < i + 1 → bf j = 0 := by
        rw [hb.out]
        constructor
        · rintro ⟨h1, h2⟩ j hj
          rcases Nat.lt_or_ge j i with h | h
          · exact h1 j h
          · rw [show j = i by omega]; exact h2
        · exact fun h => ⟨fun j hj => h j (by omega), h i (by omega)⟩
      have HBI := Lib.hid hbi; clear hbi
      cases b
      · go_wp2
        go_roundg (gk - 1)
        case measure => have := hi.out; omega
        case rel =>
          refine ⟨i + 1, false, ?_, by go_num, rfl, ?_, HS.out⟩
          · show i + 1 + (gk - 1) = 4
            have := hi.out; omega
          · show _ ↔ _
            rw [← HBI.out]; simp
      · by_cases hz : bf i = 0
        · have hzb : (((bf i : Nat) : Int) == 0) = true := by rw [hz]; rfl
          go_wp2
          go_roundg (gk - 1)
          case measure => have := hi.out; omega
          case rel =>
            refine ⟨i + 1, true, ?_, by go_num, rfl, ?_, HS.out⟩
            · show i + 1 + (gk - 1) = 4
              have := hi.out; omega
            · show _ ↔ _
              rw [← HBI.out]; simp [hz]
        · have hzb : (((bf i : Nat) : Int) == 0) = false := by simp; omega
          go_wp2
          go_roundg (gk - 1)
          case measure => have := hi.out; omega
          case rel =>
            refine ⟨i + 1, false, ?_, by go_num, rfl, ?_, HS.out⟩
            · show i + 1 + (gk - 1) = 4
              have := hi.out; omega
            · show _ ↔ _
              rw [← HBI.out]; simp [hz]
    · go_wp2
      have hi4' : i = 4 := by have := hi.out; omega
      subst hi4'
      have hbk := conv_back wr _ cp _ hinv.out.1
      rw [flips_len, ← HL.out] at hbk
      rw [hbk]
      clear hbk
      obtain ⟨a, t, hab, ha, ht, hz1, hz2⟩ := turned x k bf (by have := HN.out; have := HM.out; omega) HB.out.2.2.1
      rw [← HL0.out] at hab
      rw [← hab]
      have hX : Ext w wr := by
        have h1 : Ext w w4 := ((Ext.refl w).alloc _).trans HB.out.2.2.2.2.1
        exact Below.trans h1 (hinv.out.2.below (by have := HB.out.2.2.2.2.2.size; simp at this; omega) h1.size)
      have HZ := Lib.hid (And.intro hz1 (And.intro hz2 (And.intro hab hX))); clear hz1 hz2 hab hX
      have ha4 : a.size ≤ 4096 := by have := HN.out; omega
      go_wp2_with fail
      refine (Open_parts a t wr ha4 ht).mono ?_
      rintro e w5 ⟨hy, hno, hx5⟩
      have hx6 := HZ.out.2.2.2.trans hx5
      cases b
      · have hne : t ≠ ⟨(le4 (sumOf (bts a))).toArray⟩ := fun h => by
          have := hb.out.2 (HZ.out.2.1 h)
          cases this
        obtain rfl := hno hne
        have HE := Lib.hid (And.intro hne hx6); clear hne hy hno hx6 hx5
        go_wp2_with fail
        refine (Code_rep (.code 17) _ w5 (HG.out.ext HE.out.2) ⟨rfl, by decide, by decide, by decide⟩).mono ?_
        rintro e w6 ⟨rfl, hx7⟩
        rw [show (Tr.code 17).codeOf = 17 from rfl]
        go_wp2
        go_ret
        exact ⟨rfl, HE.out.2.trans hx7⟩
      · obtain ⟨rfl, ht2⟩ := HZ.out.1 (hb.out.1 rfl)
        obtain rfl := hy ht2
        have HE := Lib.hid (And.intro ht2 hx6); clear ht2 hy hno hx6 hx5
        go_wp2_with fail
        refine (Code_nil _).mono ?_
        rintro e w6 ⟨rfl, hx7⟩
        go_wp2_with fail
        refine (short_of s 300 _ (by decide)).mono ?_
        rintro e w7 ⟨rfl, rfl⟩
        rw [HX.out]
        go_wp2
        go_ret
        exact ⟨rfl, HE.out.2.trans hx7⟩
end Go.Proofs.YtlcnicgjlddldaaDoor
