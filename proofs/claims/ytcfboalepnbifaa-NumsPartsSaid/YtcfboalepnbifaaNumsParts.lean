/- The law NumsParts, walked. -/
import Derived.Test.YtcfboalepnbifaaAwakeN
import Derived.Test.YtcfboalepnbifaaCutInts
import Derived.Test.YtcfboalepnbifaaApp
import Derived.Laws.Bits128
namespace Go.Proofs.Ytcfboalepnbifaa
open Go Go.RowKit

theorem i64_mask (n : Int) (k : Nat) (hk : k ≤ 62) (m : Int) (hm : (BitVec.ofInt 64 m).toNat = 2 ^ k - 1) : bits .and .i64 n m = n % (2 ^ k : Nat) := by
  have key : (BitVec.ofInt 64 n &&& BitVec.ofInt 64 m).toNat = (n % ((2 ^ 64 : Nat) : Int)).toNat % 2 ^ k := by
    rw [BitVec.toNat_and, BitVec.toNat_ofInt, hm, Nat.and_two_pow_sub_one_eq_mod]
  show IntKind.i64.wrap ((BitVec.ofInt 64 n &&& BitVec.ofInt 64 m).toNat : Nat) = _
  rw [key, IntKind.wrap_i64]
  have h1 : (2 ^ k : Nat) ∣ 2 ^ 64 := Nat.pow_dvd_pow 2 (by omega)
  have h2 : (((n % ((2 ^ 64 : Nat) : Int)).toNat : Nat) : Int) = n % ((2 ^ 64 : Nat) : Int) := Int.toNat_of_nonneg (Int.emod_nonneg _ (by decide))
  have h3 : (((n % ((2 ^ 64 : Nat) : Int)).toNat % 2 ^ k : Nat) : Int) = n % (2 ^ k : Nat) := by
    rw [Int.natCast_emod, h2]
    exact Int.emod_emod_of_dvd n (Int.natCast_dvd_natCast.2 h1)
  rw [h3]
  have h4 : (0 : Int) ≤ n % (2 ^ k : Nat) := Int.emod_nonneg _ (by have := Nat.two_pow_pos k; omega)
  have h5 : n % (2 ^ k : Nat) < (2 ^ k : Nat) := Int.emod_lt_of_pos _ (by have := Nat.two_pow_pos k; omega)
  have h6 : (2 ^ k : Nat) ≤ 2 ^ 62 := Nat.pow_le_pow_right (by decide) hk
  generalize n % (2 ^ k : Nat) = r at h4 h5
  generalize (2 ^ k : Nat) = q at h5 h6
  omega
theorem mask62 (n : Int) : ∃ X : Nat, X ≤ 4611686018427387903 ∧ bits .and .i64 n 4611686018427387903 = (X : Int) := by
  refine ⟨(n % 4611686018427387904).toNat, by omega, ?_⟩
  rw [i64_mask n 62 (by omega) 4611686018427387903 (by decide)]
  show n % 4611686018427387904 = _
  omega
theorem ints_of_own {w : World} {base : Nat} {v : Value} {l : List Int} (h : w.ownsRow base 3 1 v l.length (l.map (Value.int .i64))) (hl : ∀ n, n ∈ l → isI64 n) : IsInts w v l := by
  have key : ∀ i n, l[i]? = some n → (l.map (Value.int .i64))[i]? = some (Value.int .i64 n) := fun i n hi => by rw [List.getElem?_map, hi]; rfl
  rcases h.2 with ⟨h1, h2⟩ | ⟨g, cap, cur, h1, _, _, h4, _⟩
  · have h0 : l = [] := List.eq_nil_of_length_eq_zero h2
    subst h0
    exact ⟨none, 0, h1, ⟨Nat.le_refl _, fun _ => rfl⟩, fun i n hi => by cases hi⟩
  · refine ⟨some ⟨g, 0, none⟩, cap, h1, ⟨h4, fun e => by cases e⟩, fun i n hi => ⟨hl n (List.mem_of_getElem? hi), g, 0, rfl, ?_⟩⟩
    have := World.ownsRow.cells h (g := g) (by rw [h1]; rfl) i _ (key i n hi)
    rwa [add_off] at this
theorem ints_news {w : World} {A : Option Addr} {n c : Nat} {l : List Int} (h : IsInts w (.slice A n c) l) : ∀ ad, A = some ad → ∀ j u, (l.map (Value.int .i64))[j]? = some u → w.cell? (ad.add j) = some u := by
  intro ad e j u hu
  rw [List.getElem?_map, Option.map_eq_some_iff] at hu
  obtain ⟨n, hn, rfl⟩ := hu
  obtain ⟨A', c', e1, _, h⟩ := h
  injection e1 with e1 _ _
  subst e1
  obtain ⟨_, g, off, e2, hc⟩ := h j n hn
  rw [e] at e2
  injection e2 with e2
  subst e2
  rw [add_off]; exact hc
theorem infoInt : (Try.prog.info? 3).map (fun i => (i.zero, i.size, i.bytes)) = some (some (.int .i64 0), 1, 8) := by kernel_rfl
theorem fold_nat (X : Nat) : foldN (X : Int) = 2 * X := by unfold foldN; rw [if_pos (by omega)]; omega
theorem fold_neg1 (X : Nat) : foldN (-(X : Int) - 1) = 2 * X + 1 := by unfold foldN; rw [if_neg (by omega)]; omega
theorem len_pair (X : Nat) : (encN (2 * X)).length = (encN (2 * X + 1)).length := by
  by_cases h : 2 * X < 128
  · rw [encN_small h, encN_small (by omega)]; rfl
  · rw [encN_big h, encN_big (show ¬ 2 * X + 1 < 128 by omega), show (2 * X + 1) / 128 = 2 * X / 128 from by omega]; rfl
theorem enc_size (u v : Nat) (h : u ≤ v) : (⟨(encN u).toArray⟩ : ByteArray).size ≤ (⟨(encN v).toArray⟩ : ByteArray).size := by
  have h1 := size_mk (encN u)
  have h2 := size_mk (encN v)
  have h3 := encN_mono v u h
  omega
/-- One number, put. -/
theorem Put_one (n : Int) (w : World) (o : Obj) (ho : o = .cells ([n].map (Value.int .i64)).toArray 3) (h : isI64 n) : Calls Try.prog 7 #[.slice (some ⟨w.heap.size, 0, none⟩) 1 1] (w.alloc o) fun e w' => e = .returned (.string ⟨(encN (foldN n)).toArray⟩) ∧ Ext w w' := by
  subst ho
  refine (Put_ints [n] _ _ (ints_new w [n] 3 (fun m hm => by rw [List.mem_singleton.1 hm]; exact h)) (by simp)).mono ?_
  rintro e w2 ⟨rfl, hx⟩
  rw [putN_one]
  exact ⟨rfl, ((Ext.refl w).alloc _).trans hx⟩
set_option maxHeartbeats 4000000 in
set_option maxRecDepth 100000 in
theorem numsParts_true (ya yb : List Int) (va vb : Value) (p q : Int) (w : World) (hva : IsInts w va ya) (hvb : IsInts w vb yb) (ha : ya.length ≤ maxLen) (hb : yb.length ≤ maxLen) :
    Calls Try.prog 4 #[va, vb, .agg #[.int .i64 p, .int .i64 q]] w fun e w' => e = .returned (.bool true) ∧ Ext w w' := by
  obtain ⟨i0, hi0, hz0, hz1, hz2⟩ := info_parts infoInt
  obtain ⟨A, ca, rfl, hca, hna⟩ := hva.form
  obtain ⟨B, cb, rfl, hcb, hnb⟩ := hvb.form
  obtain ⟨X, hX, hpX⟩ := mask62 p
  obtain ⟨Y, hY, hqY⟩ := mask62 q
  unfold maxLen at ha hb
  by_cases h1 : 8 < ya.length
  · by_cases h2 : 8 < yb.length
    · obtain ⟨ga, offa, rfl⟩ := hva.addr (by omega)
      have hya := hva.cut 8 (by omega)
      have hal : (ya.take 8).length = 8 := by rw [List.length_take]; omega
      generalize ya.take 8 = ys at hya hal
      have hnA : (some (⟨ga, offa, none⟩ : Addr)) = none → 8 = 0 ∧ ca = 0 := fun h => by cases h
      have hcA : (8 : Nat) ≤ ca := by omega
      obtain ⟨gb, offb, rfl⟩ := hvb.addr (by omega)
      have hyb := hvb.cut 8 (by omega)
      have hbl : (yb.take 8).length = 8 := by rw [List.length_take]; omega
      generalize yb.take 8 = zs at hyb hbl
      have hnB : (some (⟨gb, offb, none⟩ : Addr)) = none → 8 = 0 ∧ cb = 0 := fun h => by cases h
      have hcB : (8 : Nat) ≤ cb := by omega
      have hla : ys.length ≤ 8 := by omega
      have hlb : zs.length ≤ 8 := by omega
      have hia := hya.all
      have hib := hyb.all
      have hall : ∀ n, n ∈ ys ++ zs → isI64 n := fun n hn => by rcases List.mem_append.1 hn with h | h; exact hia n h; exact hib n h
      have hLA := putN_len ys hia
      have hLB := putN_len zs hib
      have H := Lib.hid (And.intro hya (And.intro hyb (And.intro hnA (And.intro hnB (And.intro hal hbl))))); clear hya hyb hnA hnB hal hbl hna hnb hva hvb
      have HL := Lib.hid (And.intro hall (And.intro hLA hLB)); clear hia hib hall hLA hLB
      go_enter Try.func4, Try.ntmps4
      go_wp2_with fail
      refine (awakeN_true _).mono ?_
      rintro e w1 ⟨rfl, hx1⟩
      have c0 : w1.cell? ⟨w.heap.size, 0, none⟩ = some (.int .i64 p) := hx1.cell (by simp)
      have c1 : w1.cell? ⟨w.heap.size, 1, none⟩ = some (.int .i64 q) := hx1.cell (by simp)
      have H1 := Lib.hid (((Ext.refl w).alloc (.cells #[.int .i64 p, .int .i64 q] 29)).trans hx1); clear hx1
      have HO := Lib.hid (World.ownsRow_lit (base := w1.heap.size) (e := 3) (size := 1) w1 #[] 0 (Nat.le_refl _) (by unfold maxLen; omega) rfl)
      have H2 := Lib.hid (H1.out.alloc (.cells #[] 3))
      have HB := Lib.hid (show w1.heap.size ≤ (w1.alloc (.cells #[] 3)).heap.size by simp)
      go_wp2_with (at_builtin; refine wpList_append_opt rfl _ _ 22 rfl w1.heap.size 3 i0 _ 1 8 Try.underlying22 hi0 hz0 hz1 hz2 rfl (by omega) _ 0 [] rfl HO.out (some ⟨ga, offa, none⟩) 8 ca (ys.map (Value.int .i64)) rfl H.out.2.2.1 (by rw [List.length_map]; have := H.out.2.2.2.2.1; omega) (ints_news (H.out.1.ext H2.out)) (ints_oneCell .i64 ys) (by unfold maxLen; omega) (by omega) HB.out ?_)
      intro v2 w2 hown2 hg2
      have hx2 : Ext w w2 := H2.out.grown hg2 (by simp; exact Nat.le_trans H1.out.size (Nat.le_succ _)) (fun k hk => Nat.le_trans H1.out.size (HO.out.lt k hk).1)
      have H3 := Lib.hid (And.intro hx2 (show w1.heap.size ≤ w2.heap.size from Nat.le_trans HB.out hg2.size)); clear hx2 hg2
      have HO2 := Lib.hid hown2; clear hown2
      go_wp2_with (at_builtin; refine wpList_append_opt rfl _ _ 22 rfl w1.heap.size 3 i0 _ 1 8 Try.underlying22 hi0 hz0 hz1 hz2 rfl (by omega) _ _ _ rfl HO2.out (some ⟨gb, offb, none⟩) 8 cb (zs.map (Value.int .i64)) rfl H.out.2.2.2.1 (by rw [List.length_map]; have := H.out.2.2.2.2.2; omega) (ints_news (H.out.2.1.ext H3.out.1)) (ints_oneCell .i64 zs) (by unfold maxLen; omega) (by omega) H3.out.2 ?_)
      intro v3 w3 hown3 hg3
      have hx3 : Ext w w3 := H3.out.1.grown hg3 H3.out.1.size (fun k hk => Nat.le_trans H1.out.size (HO2.out.lt k hk).1)
      have hI3 : IsInts w3 v3 (ys ++ zs) := ints_of_own (base := w1.heap.size) (by rw [List.length_append, List.map_append, H.out.2.2.2.2.1, H.out.2.2.2.2.2]; simpa using hown3) HL.out.1
      have H4 := Lib.hid (And.intro hx3 hI3); clear hx3 hI3 hg3 hown3
      go_wp2_with fail
      refine (Put_ints (ys ++ zs) _ _ H4.out.2 (by rw [List.length_append]; omega)).mono ?_
      rintro e w4 ⟨rfl, hx4⟩
      rw [putN_append, ← mk_append]
      have H5 := Lib.hid (H4.out.1.trans hx4); clear hx4
      go_wp2_with fail
      refine (Put_ints ys _ _ (H.out.1.ext H5.out) (by omega)).mono ?_
      rintro e w5 ⟨rfl, hx5⟩
      have H6 := Lib.hid (H5.out.trans hx5); clear hx5
      go_wp2_with fail
      refine (Put_ints zs _ _ (H.out.2.1.ext H6.out) (by omega)).mono ?_
      rintro e w6 ⟨rfl, hx6⟩
      have H7 := Lib.hid (H6.out.trans hx6); clear hx6
      have hSA : (⟨(putN ys).toArray⟩ : ByteArray).size ≤ 100 := by rw [size_mk]; have := HL.out.2.1; omega
      have hSB : (⟨(putN zs).toArray⟩ : ByteArray).size ≤ 100 := by rw [size_mk]; have := HL.out.2.2; omega
      generalize (⟨(putN ys).toArray⟩ : ByteArray) = SA at hSA ⊢
      generalize (⟨(putN zs).toArray⟩ : ByteArray) = SB at hSB ⊢
      by_cases hxy : Y < X
      · obtain ⟨SM, hSM⟩ : ∃ S, S = (⟨(encN (2 * Y)).toArray⟩ : ByteArray) := ⟨_, rfl⟩
        obtain ⟨SN, hSN⟩ : ∃ S, S = (⟨(encN (2 * X)).toArray⟩ : ByteArray) := ⟨_, rfl⟩
        obtain ⟨SX, hSX⟩ : ∃ S, S = (⟨(encN (2 * X)).toArray⟩ : ByteArray) := ⟨_, rfl⟩
        obtain ⟨SY, hSY⟩ : ∃ S, S = (⟨(encN (2 * X + 1)).toArray⟩ : ByteArray) := ⟨_, rfl⟩
        have hsz : SM.size ≤ SN.size := by subst hSM hSN; exact enc_size _ _ (by omega)
        have hpair : SX.size = SY.size := by rw [hSX, hSY, size_mk, size_mk]; exact len_pair X
        have HS := Lib.hid (And.intro hSM (And.intro hSN (And.intro hSX hSY))); clear hSM hSN hSX hSY
        go_wp2_with fail
        refine (Put_one (Y : Int) w6 _ rfl (by unfold isI64; omega)).mono ?_
        rintro e w8 ⟨rfl, hx8⟩
        rw [fold_nat, ← HS.out.1]
        have H8 := Lib.hid (H7.out.trans hx8); clear hx8
        go_wp2_with fail
        refine (Put_one (X : Int) w8 _ rfl (by unfold isI64; omega)).mono ?_
        rintro e w9 ⟨rfl, hx9⟩
        rw [fold_nat, ← HS.out.2.1]
        have H9 := Lib.hid (H8.out.trans hx9); clear hx9
        go_wp2_with fail
        refine (Put_one (X : Int) w9 _ rfl (by unfold isI64; omega)).mono ?_
        rintro e w10 ⟨rfl, hx10⟩
        rw [fold_nat, ← HS.out.2.2.1]
        have H10 := Lib.hid (H9.out.trans hx10); clear hx10
        go_wp2_with fail
        refine (Put_one (-(X : Int) - 1) w10 _ rfl (by unfold isI64; omega)).mono ?_
        rintro e w11 ⟨rfl, hx11⟩
        rw [fold_neg1, ← HS.out.2.2.2]
        have H11 := Lib.hid (H10.out.trans hx11); clear hx11
        go_wp2_with fail
        refine (PutText_any ⟨#[]⟩ w11 (by decide)).mono ?_
        rintro e w12 ⟨rfl, hx12⟩
        rw [show encN (2 * (⟨#[]⟩ : ByteArray).size) ++ bts ⟨#[]⟩ = encN (foldN 0) from List.append_nil _]
        have H12 := Lib.hid (H11.out.trans hx12); clear hx12
        go_wp2_with fail
        refine (Put_one 0 w12 _ rfl (by unfold isI64; omega)).mono ?_
        rintro e w13 ⟨rfl, hx13⟩
        have H13 := Lib.hid (H12.out.trans hx13); clear hx13
        go_wp2
        go_ret
        exact ⟨rfl, H13.out⟩
      · by_cases hyx : X < Y
        · obtain ⟨SM, hSM⟩ : ∃ S, S = (⟨(encN (2 * X)).toArray⟩ : ByteArray) := ⟨_, rfl⟩
          obtain ⟨SN, hSN⟩ : ∃ S, S = (⟨(encN (2 * Y)).toArray⟩ : ByteArray) := ⟨_, rfl⟩
          obtain ⟨SX, hSX⟩ : ∃ S, S = (⟨(encN (2 * X)).toArray⟩ : ByteArray) := ⟨_, rfl⟩
          obtain ⟨SY, hSY⟩ : ∃ S, S = (⟨(encN (2 * X + 1)).toArray⟩ : ByteArray) := ⟨_, rfl⟩
          have hsz : SM.size ≤ SN.size := by subst hSM hSN; exact enc_size _ _ (by omega)
          have hpair : SX.size = SY.size := by rw [hSX, hSY, size_mk, size_mk]; exact len_pair X
          have HS := Lib.hid (And.intro hSM (And.intro hSN (And.intro hSX hSY))); clear hSM hSN hSX hSY
          go_wp2_with fail
          refine (Put_one (X : Int) w6 _ rfl (by unfold isI64; omega)).mono ?_
          rintro e w8 ⟨rfl, hx8⟩
          rw [fold_nat, ← HS.out.1]
          have H8 := Lib.hid (H7.out.trans hx8); clear hx8
          go_wp2_with fail
          refine (Put_one (Y : Int) w8 _ rfl (by unfold isI64; omega)).mono ?_
          rintro e w9 ⟨rfl, hx9⟩
          rw [fold_nat, ← HS.out.2.1]
          have H9 := Lib.hid (H8.out.trans hx9); clear hx9
          go_wp2_with fail
          refine (Put_one (X : Int) w9 _ rfl (by unfold isI64; omega)).mono ?_
          rintro e w10 ⟨rfl, hx10⟩
          rw [fold_nat, ← HS.out.2.2.1]
          have H10 := Lib.hid (H9.out.trans hx10); clear hx10
          go_wp2_with fail
          refine (Put_one (-(X : Int) - 1) w10 _ rfl (by unfold isI64; omega)).mono ?_
          rintro e w11 ⟨rfl, hx11⟩
          rw [fold_neg1, ← HS.out.2.2.2]
          have H11 := Lib.hid (H10.out.trans hx11); clear hx11
          go_wp2_with fail
          refine (PutText_any ⟨#[]⟩ w11 (by decide)).mono ?_
          rintro e w12 ⟨rfl, hx12⟩
          rw [show encN (2 * (⟨#[]⟩ : ByteArray).size) ++ bts ⟨#[]⟩ = encN (foldN 0) from List.append_nil _]
          have H12 := Lib.hid (H11.out.trans hx12); clear hx12
          go_wp2_with fail
          refine (Put_one 0 w12 _ rfl (by unfold isI64; omega)).mono ?_
          rintro e w13 ⟨rfl, hx13⟩
          have H13 := Lib.hid (H12.out.trans hx13); clear hx13
          go_wp2
          go_ret
          exact ⟨rfl, H13.out⟩
        · obtain ⟨SM, hSM⟩ : ∃ S, S = (⟨(encN (2 * X)).toArray⟩ : ByteArray) := ⟨_, rfl⟩
          obtain ⟨SN, hSN⟩ : ∃ S, S = (⟨(encN (2 * X)).toArray⟩ : ByteArray) := ⟨_, rfl⟩
          obtain ⟨SX, hSX⟩ : ∃ S, S = (⟨(encN (2 * X)).toArray⟩ : ByteArray) := ⟨_, rfl⟩
          obtain ⟨SY, hSY⟩ : ∃ S, S = (⟨(encN (2 * X + 1)).toArray⟩ : ByteArray) := ⟨_, rfl⟩
          have hsz : SM.size ≤ SN.size := by subst hSM hSN; exact enc_size _ _ (by omega)
          have hpair : SX.size = SY.size := by rw [hSX, hSY, size_mk, size_mk]; exact len_pair X
          have HS := Lib.hid (And.intro hSM (And.intro hSN (And.intro hSX hSY))); clear hSM hSN hSX hSY
          go_wp2_with fail
          refine (Put_one (X : Int) w6 _ rfl (by unfold isI64; omega)).mono ?_
          rintro e w8 ⟨rfl, hx8⟩
          rw [fold_nat, ← HS.out.1]
          have H8 := Lib.hid (H7.out.trans hx8); clear hx8
          go_wp2_with fail
          refine (Put_one (X : Int) w8 _ rfl (by unfold isI64; omega)).mono ?_
          rintro e w9 ⟨rfl, hx9⟩
          rw [fold_nat, ← HS.out.2.1]
          have H9 := Lib.hid (H8.out.trans hx9); clear hx9
          go_wp2_with fail
          refine (Put_one (X : Int) w9 _ rfl (by unfold isI64; omega)).mono ?_
          rintro e w10 ⟨rfl, hx10⟩
          rw [fold_nat, ← HS.out.2.2.1]
          have H10 := Lib.hid (H9.out.trans hx10); clear hx10
          go_wp2_with fail
          refine (Put_one (-(X : Int) - 1) w10 _ rfl (by unfold isI64; omega)).mono ?_
          rintro e w11 ⟨rfl, hx11⟩
          rw [fold_neg1, ← HS.out.2.2.2]
          have H11 := Lib.hid (H10.out.trans hx11); clear hx11
          go_wp2_with fail
          refine (PutText_any ⟨#[]⟩ w11 (by decide)).mono ?_
          rintro e w12 ⟨rfl, hx12⟩
          rw [show encN (2 * (⟨#[]⟩ : ByteArray).size) ++ bts ⟨#[]⟩ = encN (foldN 0) from List.append_nil _]
          have H12 := Lib.hid (H11.out.trans hx12); clear hx12
          go_wp2_with fail
          refine (Put_one 0 w12 _ rfl (by unfold isI64; omega)).mono ?_
          rintro e w13 ⟨rfl, hx13⟩
          have H13 := Lib.hid (H12.out.trans hx13); clear hx13
          go_wp2
          go_ret
          exact ⟨rfl, H13.out⟩
    · obtain ⟨ga, offa, rfl⟩ := hva.addr (by omega)
      have hya := hva.cut 8 (by omega)
      have hal : (ya.take 8).length = 8 := by rw [List.length_take]; omega
      generalize ya.take 8 = ys at hya hal
      have hnA : (some (⟨ga, offa, none⟩ : Addr)) = none → 8 = 0 ∧ ca = 0 := fun h => by cases h
      have hcA : (8 : Nat) ≤ ca := by omega
      have hyb := hvb
      obtain ⟨zs, hyz⟩ : ∃ zs, zs = yb := ⟨_, rfl⟩
      subst hyz
      have hbl : zs.length = zs.length := rfl
      have hnB : B = none → zs.length = 0 ∧ cb = 0 := fun h => by have := hnb h; omega
      have hla : ys.length ≤ 8 := by omega
      have hlb : zs.length ≤ 8 := by omega
      have hia := hya.all
      have hib := hyb.all
      have hall : ∀ n, n ∈ ys ++ zs → isI64 n := fun n hn => by rcases List.mem_append.1 hn with h | h; exact hia n h; exact hib n h
      have hLA := putN_len ys hia
      have hLB := putN_len zs hib
      have H := Lib.hid (And.intro hya (And.intro hyb (And.intro hnA (And.intro hnB (And.intro hal hbl))))); clear hya hyb hnA hnB hal hbl hna hnb hva hvb
      have HL := Lib.hid (And.intro hall (And.intro hLA hLB)); clear hia hib hall hLA hLB
      go_enter Try.func4, Try.ntmps4
      go_wp2_with fail
      refine (awakeN_true _).mono ?_
      rintro e w1 ⟨rfl, hx1⟩
      have c0 : w1.cell? ⟨w.heap.size, 0, none⟩ = some (.int .i64 p) := hx1.cell (by simp)
      have c1 : w1.cell? ⟨w.heap.size, 1, none⟩ = some (.int .i64 q) := hx1.cell (by simp)
      have H1 := Lib.hid (((Ext.refl w).alloc (.cells #[.int .i64 p, .int .i64 q] 29)).trans hx1); clear hx1
      have HO := Lib.hid (World.ownsRow_lit (base := w1.heap.size) (e := 3) (size := 1) w1 #[] 0 (Nat.le_refl _) (by unfold maxLen; omega) rfl)
      have H2 := Lib.hid (H1.out.alloc (.cells #[] 3))
      have HB := Lib.hid (show w1.heap.size ≤ (w1.alloc (.cells #[] 3)).heap.size by simp)
      go_wp2_with (at_builtin; refine wpList_append_opt rfl _ _ 22 rfl w1.heap.size 3 i0 _ 1 8 Try.underlying22 hi0 hz0 hz1 hz2 rfl (by omega) _ 0 [] rfl HO.out (some ⟨ga, offa, none⟩) 8 ca (ys.map (Value.int .i64)) rfl H.out.2.2.1 (by rw [List.length_map]; have := H.out.2.2.2.2.1; omega) (ints_news (H.out.1.ext H2.out)) (ints_oneCell .i64 ys) (by unfold maxLen; omega) (by omega) HB.out ?_)
      intro v2 w2 hown2 hg2
      have hx2 : Ext w w2 := H2.out.grown hg2 (by simp; exact Nat.le_trans H1.out.size (Nat.le_succ _)) (fun k hk => Nat.le_trans H1.out.size (HO.out.lt k hk).1)
      have H3 := Lib.hid (And.intro hx2 (show w1.heap.size ≤ w2.heap.size from Nat.le_trans HB.out hg2.size)); clear hx2 hg2
      have HO2 := Lib.hid hown2; clear hown2
      go_wp2_with (at_builtin; refine wpList_append_opt rfl _ _ 22 rfl w1.heap.size 3 i0 _ 1 8 Try.underlying22 hi0 hz0 hz1 hz2 rfl (by omega) _ _ _ rfl HO2.out B zs.length cb (zs.map (Value.int .i64)) rfl H.out.2.2.2.1 (by rw [List.length_map]; have := H.out.2.2.2.2.2; omega) (ints_news (H.out.2.1.ext H3.out.1)) (ints_oneCell .i64 zs) (by unfold maxLen; omega) (by omega) H3.out.2 ?_)
      intro v3 w3 hown3 hg3
      have hx3 : Ext w w3 := H3.out.1.grown hg3 H3.out.1.size (fun k hk => Nat.le_trans H1.out.size (HO2.out.lt k hk).1)
      have hI3 : IsInts w3 v3 (ys ++ zs) := ints_of_own (base := w1.heap.size) (by rw [List.length_append, List.map_append, H.out.2.2.2.2.1]; simpa using hown3) HL.out.1
      have H4 := Lib.hid (And.intro hx3 hI3); clear hx3 hI3 hg3 hown3
      go_wp2_with fail
      refine (Put_ints (ys ++ zs) _ _ H4.out.2 (by rw [List.length_append]; omega)).mono ?_
      rintro e w4 ⟨rfl, hx4⟩
      rw [putN_append, ← mk_append]
      have H5 := Lib.hid (H4.out.1.trans hx4); clear hx4
      go_wp2_with fail
      refine (Put_ints ys _ _ (H.out.1.ext H5.out) (by omega)).mono ?_
      rintro e w5 ⟨rfl, hx5⟩
      have H6 := Lib.hid (H5.out.trans hx5); clear hx5
      go_wp2_with fail
      refine (Put_ints zs _ _ (H.out.2.1.ext H6.out) (by omega)).mono ?_
      rintro e w6 ⟨rfl, hx6⟩
      have H7 := Lib.hid (H6.out.trans hx6); clear hx6
      have hSA : (⟨(putN ys).toArray⟩ : ByteArray).size ≤ 100 := by rw [size_mk]; have := HL.out.2.1; omega
      have hSB : (⟨(putN zs).toArray⟩ : ByteArray).size ≤ 100 := by rw [size_mk]; have := HL.out.2.2; omega
      generalize (⟨(putN ys).toArray⟩ : ByteArray) = SA at hSA ⊢
      generalize (⟨(putN zs).toArray⟩ : ByteArray) = SB at hSB ⊢
      by_cases hxy : Y < X
      · obtain ⟨SM, hSM⟩ : ∃ S, S = (⟨(encN (2 * Y)).toArray⟩ : ByteArray) := ⟨_, rfl⟩
        obtain ⟨SN, hSN⟩ : ∃ S, S = (⟨(encN (2 * X)).toArray⟩ : ByteArray) := ⟨_, rfl⟩
        obtain ⟨SX, hSX⟩ : ∃ S, S = (⟨(encN (2 * X)).toArray⟩ : ByteArray) := ⟨_, rfl⟩
        obtain ⟨SY, hSY⟩ : ∃ S, S = (⟨(encN (2 * X + 1)).toArray⟩ : ByteArray) := ⟨_, rfl⟩
        have hsz : SM.size ≤ SN.size := by subst hSM hSN; exact enc_size _ _ (by omega)
        have hpair : SX.size = SY.size := by rw [hSX, hSY, size_mk, size_mk]; exact len_pair X
        have HS := Lib.hid (And.intro hSM (And.intro hSN (And.intro hSX hSY))); clear hSM hSN hSX hSY
        go_wp2_with fail
        refine (Put_one (Y : Int) w6 _ rfl (by unfold isI64; omega)).mono ?_
        rintro e w8 ⟨rfl, hx8⟩
        rw [fold_nat, ← HS.out.1]
        have H8 := Lib.hid (H7.out.trans hx8); clear hx8
        go_wp2_with fail
        refine (Put_one (X : Int) w8 _ rfl (by unfold isI64; omega)).mono ?_
        rintro e w9 ⟨rfl, hx9⟩
        rw [fold_nat, ← HS.out.2.1]
        have H9 := Lib.hid (H8.out.trans hx9); clear hx9
        go_wp2_with fail
        refine (Put_one (X : Int) w9 _ rfl (by unfold isI64; omega)).mono ?_
        rintro e w10 ⟨rfl, hx10⟩
        rw [fold_nat, ← HS.out.2.2.1]
        have H10 := Lib.hid (H9.out.trans hx10); clear hx10
        go_wp2_with fail
        refine (Put_one (-(X : Int) - 1) w10 _ rfl (by unfold isI64; omega)).mono ?_
        rintro e w11 ⟨rfl, hx11⟩
        rw [fold_neg1, ← HS.out.2.2.2]
        have H11 := Lib.hid (H10.out.trans hx11); clear hx11
        go_wp2_with fail
        refine (PutText_any ⟨#[]⟩ w11 (by decide)).mono ?_
        rintro e w12 ⟨rfl, hx12⟩
        rw [show encN (2 * (⟨#[]⟩ : ByteArray).size) ++ bts ⟨#[]⟩ = encN (foldN 0) from List.append_nil _]
        have H12 := Lib.hid (H11.out.trans hx12); clear hx12
        go_wp2_with fail
        refine (Put_one 0 w12 _ rfl (by unfold isI64; omega)).mono ?_
        rintro e w13 ⟨rfl, hx13⟩
        have H13 := Lib.hid (H12.out.trans hx13); clear hx13
        go_wp2
        go_ret
        exact ⟨rfl, H13.out⟩
      · by_cases hyx : X < Y
        · obtain ⟨SM, hSM⟩ : ∃ S, S = (⟨(encN (2 * X)).toArray⟩ : ByteArray) := ⟨_, rfl⟩
          obtain ⟨SN, hSN⟩ : ∃ S, S = (⟨(encN (2 * Y)).toArray⟩ : ByteArray) := ⟨_, rfl⟩
          obtain ⟨SX, hSX⟩ : ∃ S, S = (⟨(encN (2 * X)).toArray⟩ : ByteArray) := ⟨_, rfl⟩
          obtain ⟨SY, hSY⟩ : ∃ S, S = (⟨(encN (2 * X + 1)).toArray⟩ : ByteArray) := ⟨_, rfl⟩
          have hsz : SM.size ≤ SN.size := by subst hSM hSN; exact enc_size _ _ (by omega)
          have hpair : SX.size = SY.size := by rw [hSX, hSY, size_mk, size_mk]; exact len_pair X
          have HS := Lib.hid (And.intro hSM (And.intro hSN (And.intro hSX hSY))); clear hSM hSN hSX hSY
          go_wp2_with fail
          refine (Put_one (X : Int) w6 _ rfl (by unfold isI64; omega)).mono ?_
          rintro e w8 ⟨rfl, hx8⟩
          rw [fold_nat, ← HS.out.1]
          have H8 := Lib.hid (H7.out.trans hx8); clear hx8
          go_wp2_with fail
          refine (Put_one (Y : Int) w8 _ rfl (by unfold isI64; omega)).mono ?_
          rintro e w9 ⟨rfl, hx9⟩
          rw [fold_nat, ← HS.out.2.1]
          have H9 := Lib.hid (H8.out.trans hx9); clear hx9
          go_wp2_with fail
          refine (Put_one (X : Int) w9 _ rfl (by unfold isI64; omega)).mono ?_
          rintro e w10 ⟨rfl, hx10⟩
          rw [fold_nat, ← HS.out.2.2.1]
          have H10 := Lib.hid (H9.out.trans hx10); clear hx10
          go_wp2_with fail
          refine (Put_one (-(X : Int) - 1) w10 _ rfl (by unfold isI64; omega)).mono ?_
          rintro e w11 ⟨rfl, hx11⟩
          rw [fold_neg1, ← HS.out.2.2.2]
          have H11 := Lib.hid (H10.out.trans hx11); clear hx11
          go_wp2_with fail
          refine (PutText_any ⟨#[]⟩ w11 (by decide)).mono ?_
          rintro e w12 ⟨rfl, hx12⟩
          rw [show encN (2 * (⟨#[]⟩ : ByteArray).size) ++ bts ⟨#[]⟩ = encN (foldN 0) from List.append_nil _]
          have H12 := Lib.hid (H11.out.trans hx12); clear hx12
          go_wp2_with fail
          refine (Put_one 0 w12 _ rfl (by unfold isI64; omega)).mono ?_
          rintro e w13 ⟨rfl, hx13⟩
          have H13 := Lib.hid (H12.out.trans hx13); clear hx13
          go_wp2
          go_ret
          exact ⟨rfl, H13.out⟩
        · obtain ⟨SM, hSM⟩ : ∃ S, S = (⟨(encN (2 * X)).toArray⟩ : ByteArray) := ⟨_, rfl⟩
          obtain ⟨SN, hSN⟩ : ∃ S, S = (⟨(encN (2 * X)).toArray⟩ : ByteArray) := ⟨_, rfl⟩
          obtain ⟨SX, hSX⟩ : ∃ S, S = (⟨(encN (2 * X)).toArray⟩ : ByteArray) := ⟨_, rfl⟩
          obtain ⟨SY, hSY⟩ : ∃ S, S = (⟨(encN (2 * X + 1)).toArray⟩ : ByteArray) := ⟨_, rfl⟩
          have hsz : SM.size ≤ SN.size := by subst hSM hSN; exact enc_size _ _ (by omega)
          have hpair : SX.size = SY.size := by rw [hSX, hSY, size_mk, size_mk]; exact len_pair X
          have HS := Lib.hid (And.intro hSM (And.intro hSN (And.intro hSX hSY))); clear hSM hSN hSX hSY
          go_wp2_with fail
          refine (Put_one (X : Int) w6 _ rfl (by unfold isI64; omega)).mono ?_
          rintro e w8 ⟨rfl, hx8⟩
          rw [fold_nat, ← HS.out.1]
          have H8 := Lib.hid (H7.out.trans hx8); clear hx8
          go_wp2_with fail
          refine (Put_one (X : Int) w8 _ rfl (by unfold isI64; omega)).mono ?_
          rintro e w9 ⟨rfl, hx9⟩
          rw [fold_nat, ← HS.out.2.1]
          have H9 := Lib.hid (H8.out.trans hx9); clear hx9
          go_wp2_with fail
          refine (Put_one (X : Int) w9 _ rfl (by unfold isI64; omega)).mono ?_
          rintro e w10 ⟨rfl, hx10⟩
          rw [fold_nat, ← HS.out.2.2.1]
          have H10 := Lib.hid (H9.out.trans hx10); clear hx10
          go_wp2_with fail
          refine (Put_one (-(X : Int) - 1) w10 _ rfl (by unfold isI64; omega)).mono ?_
          rintro e w11 ⟨rfl, hx11⟩
          rw [fold_neg1, ← HS.out.2.2.2]
          have H11 := Lib.hid (H10.out.trans hx11); clear hx11
          go_wp2_with fail
          refine (PutText_any ⟨#[]⟩ w11 (by decide)).mono ?_
          rintro e w12 ⟨rfl, hx12⟩
          rw [show encN (2 * (⟨#[]⟩ : ByteArray).size) ++ bts ⟨#[]⟩ = encN (foldN 0) from List.append_nil _]
          have H12 := Lib.hid (H11.out.trans hx12); clear hx12
          go_wp2_with fail
          refine (Put_one 0 w12 _ rfl (by unfold isI64; omega)).mono ?_
          rintro e w13 ⟨rfl, hx13⟩
          have H13 := Lib.hid (H12.out.trans hx13); clear hx13
          go_wp2
          go_ret
          exact ⟨rfl, H13.out⟩
  · by_cases h2 : 8 < yb.length
    · have hya := hva
      obtain ⟨ys, hyz⟩ : ∃ ys, ys = ya := ⟨_, rfl⟩
      subst hyz
      have hal : ys.length = ys.length := rfl
      have hnA : A = none → ys.length = 0 ∧ ca = 0 := fun h => by have := hna h; omega
      obtain ⟨gb, offb, rfl⟩ := hvb.addr (by omega)
      have hyb := hvb.cut 8 (by omega)
      have hbl : (yb.take 8).length = 8 := by rw [List.length_take]; omega
      generalize yb.take 8 = zs at hyb hbl
      have hnB : (some (⟨gb, offb, none⟩ : Addr)) = none → 8 = 0 ∧ cb = 0 := fun h => by cases h
      have hcB : (8 : Nat) ≤ cb := by omega
      have hla : ys.length ≤ 8 := by omega
      have hlb : zs.length ≤ 8 := by omega
      have hia := hya.all
      have hib := hyb.all
      have hall : ∀ n, n ∈ ys ++ zs → isI64 n := fun n hn => by rcases List.mem_append.1 hn with h | h; exact hia n h; exact hib n h
      have hLA := putN_len ys hia
      have hLB := putN_len zs hib
      have H := Lib.hid (And.intro hya (And.intro hyb (And.intro hnA (And.intro hnB (And.intro hal hbl))))); clear hya hyb hnA hnB hal hbl hna hnb hva hvb
      have HL := Lib.hid (And.intro hall (And.intro hLA hLB)); clear hia hib hall hLA hLB
      go_enter Try.func4, Try.ntmps4
      go_wp2_with fail
      refine (awakeN_true _).mono ?_
      rintro e w1 ⟨rfl, hx1⟩
      have c0 : w1.cell? ⟨w.heap.size, 0, none⟩ = some (.int .i64 p) := hx1.cell (by simp)
      have c1 : w1.cell? ⟨w.heap.size, 1, none⟩ = some (.int .i64 q) := hx1.cell (by simp)
      have H1 := Lib.hid (((Ext.refl w).alloc (.cells #[.int .i64 p, .int .i64 q] 29)).trans hx1); clear hx1
      have HO := Lib.hid (World.ownsRow_lit (base := w1.heap.size) (e := 3) (size := 1) w1 #[] 0 (Nat.le_refl _) (by unfold maxLen; omega) rfl)
      have H2 := Lib.hid (H1.out.alloc (.cells #[] 3))
      have HB := Lib.hid (show w1.heap.size ≤ (w1.alloc (.cells #[] 3)).heap.size by simp)
      go_wp2_with (at_builtin; refine wpList_append_opt rfl _ _ 22 rfl w1.heap.size 3 i0 _ 1 8 Try.underlying22 hi0 hz0 hz1 hz2 rfl (by omega) _ 0 [] rfl HO.out A ys.length ca (ys.map (Value.int .i64)) rfl H.out.2.2.1 (by rw [List.length_map]; have := H.out.2.2.2.2.1; omega) (ints_news (H.out.1.ext H2.out)) (ints_oneCell .i64 ys) (by unfold maxLen; omega) (by omega) HB.out ?_)
      intro v2 w2 hown2 hg2
      have hx2 : Ext w w2 := H2.out.grown hg2 (by simp; exact Nat.le_trans H1.out.size (Nat.le_succ _)) (fun k hk => Nat.le_trans H1.out.size (HO.out.lt k hk).1)
      have H3 := Lib.hid (And.intro hx2 (show w1.heap.size ≤ w2.heap.size from Nat.le_trans HB.out hg2.size)); clear hx2 hg2
      have HO2 := Lib.hid hown2; clear hown2
      go_wp2_with (at_builtin; refine wpList_append_opt rfl _ _ 22 rfl w1.heap.size 3 i0 _ 1 8 Try.underlying22 hi0 hz0 hz1 hz2 rfl (by omega) _ _ _ rfl HO2.out (some ⟨gb, offb, none⟩) 8 cb (zs.map (Value.int .i64)) rfl H.out.2.2.2.1 (by rw [List.length_map]; have := H.out.2.2.2.2.2; omega) (ints_news (H.out.2.1.ext H3.out.1)) (ints_oneCell .i64 zs) (by unfold maxLen; omega) (by omega) H3.out.2 ?_)
      intro v3 w3 hown3 hg3
      have hx3 : Ext w w3 := H3.out.1.grown hg3 H3.out.1.size (fun k hk => Nat.le_trans H1.out.size (HO2.out.lt k hk).1)
      have hI3 : IsInts w3 v3 (ys ++ zs) := ints_of_own (base := w1.heap.size) (by rw [List.length_append, List.map_append, H.out.2.2.2.2.2]; simpa using hown3) HL.out.1
      have H4 := Lib.hid (And.intro hx3 hI3); clear hx3 hI3 hg3 hown3
      go_wp2_with fail
      refine (Put_ints (ys ++ zs) _ _ H4.out.2 (by rw [List.length_append]; omega)).mono ?_
      rintro e w4 ⟨rfl, hx4⟩
      rw [putN_append, ← mk_append]
      have H5 := Lib.hid (H4.out.1.trans hx4); clear hx4
      go_wp2_with fail
      refine (Put_ints ys _ _ (H.out.1.ext H5.out) (by omega)).mono ?_
      rintro e w5 ⟨rfl, hx5⟩
      have H6 := Lib.hid (H5.out.trans hx5); clear hx5
      go_wp2_with fail
      refine (Put_ints zs _ _ (H.out.2.1.ext H6.out) (by omega)).mono ?_
      rintro e w6 ⟨rfl, hx6⟩
      have H7 := Lib.hid (H6.out.trans hx6); clear hx6
      have hSA : (⟨(putN ys).toArray⟩ : ByteArray).size ≤ 100 := by rw [size_mk]; have := HL.out.2.1; omega
      have hSB : (⟨(putN zs).toArray⟩ : ByteArray).size ≤ 100 := by rw [size_mk]; have := HL.out.2.2; omega
      generalize (⟨(putN ys).toArray⟩ : ByteArray) = SA at hSA ⊢
      generalize (⟨(putN zs).toArray⟩ : ByteArray) = SB at hSB ⊢
      by_cases hxy : Y < X
      · obtain ⟨SM, hSM⟩ : ∃ S, S = (⟨(encN (2 * Y)).toArray⟩ : ByteArray) := ⟨_, rfl⟩
        obtain ⟨SN, hSN⟩ : ∃ S, S = (⟨(encN (2 * X)).toArray⟩ : ByteArray) := ⟨_, rfl⟩
        obtain ⟨SX, hSX⟩ : ∃ S, S = (⟨(encN (2 * X)).toArray⟩ : ByteArray) := ⟨_, rfl⟩
        obtain ⟨SY, hSY⟩ : ∃ S, S = (⟨(encN (2 * X + 1)).toArray⟩ : ByteArray) := ⟨_, rfl⟩
        have hsz : SM.size ≤ SN.size := by subst hSM hSN; exact enc_size _ _ (by omega)
        have hpair : SX.size = SY.size := by rw [hSX, hSY, size_mk, size_mk]; exact len_pair X
        have HS := Lib.hid (And.intro hSM (And.intro hSN (And.intro hSX hSY))); clear hSM hSN hSX hSY
        go_wp2_with fail
        refine (Put_one (Y : Int) w6 _ rfl (by unfold isI64; omega)).mono ?_
        rintro e w8 ⟨rfl, hx8⟩
        rw [fold_nat, ← HS.out.1]
        have H8 := Lib.hid (H7.out.trans hx8); clear hx8
        go_wp2_with fail
        refine (Put_one (X : Int) w8 _ rfl (by unfold isI64; omega)).mono ?_
        rintro e w9 ⟨rfl, hx9⟩
        rw [fold_nat, ← HS.out.2.1]
        have H9 := Lib.hid (H8.out.trans hx9); clear hx9
        go_wp2_with fail
        refine (Put_one (X : Int) w9 _ rfl (by unfold isI64; omega)).mono ?_
        rintro e w10 ⟨rfl, hx10⟩
        rw [fold_nat, ← HS.out.2.2.1]
        have H10 := Lib.hid (H9.out.trans hx10); clear hx10
        go_wp2_with fail
        refine (Put_one (-(X : Int) - 1) w10 _ rfl (by unfold isI64; omega)).mono ?_
        rintro e w11 ⟨rfl, hx11⟩
        rw [fold_neg1, ← HS.out.2.2.2]
        have H11 := Lib.hid (H10.out.trans hx11); clear hx11
        go_wp2_with fail
        refine (PutText_any ⟨#[]⟩ w11 (by decide)).mono ?_
        rintro e w12 ⟨rfl, hx12⟩
        rw [show encN (2 * (⟨#[]⟩ : ByteArray).size) ++ bts ⟨#[]⟩ = encN (foldN 0) from List.append_nil _]
        have H12 := Lib.hid (H11.out.trans hx12); clear hx12
        go_wp2_with fail
        refine (Put_one 0 w12 _ rfl (by unfold isI64; omega)).mono ?_
        rintro e w13 ⟨rfl, hx13⟩
        have H13 := Lib.hid (H12.out.trans hx13); clear hx13
        go_wp2
        go_ret
        exact ⟨rfl, H13.out⟩
      · by_cases hyx : X < Y
        · obtain ⟨SM, hSM⟩ : ∃ S, S = (⟨(encN (2 * X)).toArray⟩ : ByteArray) := ⟨_, rfl⟩
          obtain ⟨SN, hSN⟩ : ∃ S, S = (⟨(encN (2 * Y)).toArray⟩ : ByteArray) := ⟨_, rfl⟩
          obtain ⟨SX, hSX⟩ : ∃ S, S = (⟨(encN (2 * X)).toArray⟩ : ByteArray) := ⟨_, rfl⟩
          obtain ⟨SY, hSY⟩ : ∃ S, S = (⟨(encN (2 * X + 1)).toArray⟩ : ByteArray) := ⟨_, rfl⟩
          have hsz : SM.size ≤ SN.size := by subst hSM hSN; exact enc_size _ _ (by omega)
          have hpair : SX.size = SY.size := by rw [hSX, hSY, size_mk, size_mk]; exact len_pair X
          have HS := Lib.hid (And.intro hSM (And.intro hSN (And.intro hSX hSY))); clear hSM hSN hSX hSY
          go_wp2_with fail
          refine (Put_one (X : Int) w6 _ rfl (by unfold isI64; omega)).mono ?_
          rintro e w8 ⟨rfl, hx8⟩
          rw [fold_nat, ← HS.out.1]
          have H8 := Lib.hid (H7.out.trans hx8); clear hx8
          go_wp2_with fail
          refine (Put_one (Y : Int) w8 _ rfl (by unfold isI64; omega)).mono ?_
          rintro e w9 ⟨rfl, hx9⟩
          rw [fold_nat, ← HS.out.2.1]
          have H9 := Lib.hid (H8.out.trans hx9); clear hx9
          go_wp2_with fail
          refine (Put_one (X : Int) w9 _ rfl (by unfold isI64; omega)).mono ?_
          rintro e w10 ⟨rfl, hx10⟩
          rw [fold_nat, ← HS.out.2.2.1]
          have H10 := Lib.hid (H9.out.trans hx10); clear hx10
          go_wp2_with fail
          refine (Put_one (-(X : Int) - 1) w10 _ rfl (by unfold isI64; omega)).mono ?_
          rintro e w11 ⟨rfl, hx11⟩
          rw [fold_neg1, ← HS.out.2.2.2]
          have H11 := Lib.hid (H10.out.trans hx11); clear hx11
          go_wp2_with fail
          refine (PutText_any ⟨#[]⟩ w11 (by decide)).mono ?_
          rintro e w12 ⟨rfl, hx12⟩
          rw [show encN (2 * (⟨#[]⟩ : ByteArray).size) ++ bts ⟨#[]⟩ = encN (foldN 0) from List.append_nil _]
          have H12 := Lib.hid (H11.out.trans hx12); clear hx12
          go_wp2_with fail
          refine (Put_one 0 w12 _ rfl (by unfold isI64; omega)).mono ?_
          rintro e w13 ⟨rfl, hx13⟩
          have H13 := Lib.hid (H12.out.trans hx13); clear hx13
          go_wp2
          go_ret
          exact ⟨rfl, H13.out⟩
        · obtain ⟨SM, hSM⟩ : ∃ S, S = (⟨(encN (2 * X)).toArray⟩ : ByteArray) := ⟨_, rfl⟩
          obtain ⟨SN, hSN⟩ : ∃ S, S = (⟨(encN (2 * X)).toArray⟩ : ByteArray) := ⟨_, rfl⟩
          obtain ⟨SX, hSX⟩ : ∃ S, S = (⟨(encN (2 * X)).toArray⟩ : ByteArray) := ⟨_, rfl⟩
          obtain ⟨SY, hSY⟩ : ∃ S, S = (⟨(encN (2 * X + 1)).toArray⟩ : ByteArray) := ⟨_, rfl⟩
          have hsz : SM.size ≤ SN.size := by subst hSM hSN; exact enc_size _ _ (by omega)
          have hpair : SX.size = SY.size := by rw [hSX, hSY, size_mk, size_mk]; exact len_pair X
          have HS := Lib.hid (And.intro hSM (And.intro hSN (And.intro hSX hSY))); clear hSM hSN hSX hSY
          go_wp2_with fail
          refine (Put_one (X : Int) w6 _ rfl (by unfold isI64; omega)).mono ?_
          rintro e w8 ⟨rfl, hx8⟩
          rw [fold_nat, ← HS.out.1]
          have H8 := Lib.hid (H7.out.trans hx8); clear hx8
          go_wp2_with fail
          refine (Put_one (X : Int) w8 _ rfl (by unfold isI64; omega)).mono ?_
          rintro e w9 ⟨rfl, hx9⟩
          rw [fold_nat, ← HS.out.2.1]
          have H9 := Lib.hid (H8.out.trans hx9); clear hx9
          go_wp2_with fail
          refine (Put_one (X : Int) w9 _ rfl (by unfold isI64; omega)).mono ?_
          rintro e w10 ⟨rfl, hx10⟩
          rw [fold_nat, ← HS.out.2.2.1]
          have H10 := Lib.hid (H9.out.trans hx10); clear hx10
          go_wp2_with fail
          refine (Put_one (-(X : Int) - 1) w10 _ rfl (by unfold isI64; omega)).mono ?_
          rintro e w11 ⟨rfl, hx11⟩
          rw [fold_neg1, ← HS.out.2.2.2]
          have H11 := Lib.hid (H10.out.trans hx11); clear hx11
          go_wp2_with fail
          refine (PutText_any ⟨#[]⟩ w11 (by decide)).mono ?_
          rintro e w12 ⟨rfl, hx12⟩
          rw [show encN (2 * (⟨#[]⟩ : ByteArray).size) ++ bts ⟨#[]⟩ = encN (foldN 0) from List.append_nil _]
          have H12 := Lib.hid (H11.out.trans hx12); clear hx12
          go_wp2_with fail
          refine (Put_one 0 w12 _ rfl (by unfold isI64; omega)).mono ?_
          rintro e w13 ⟨rfl, hx13⟩
          have H13 := Lib.hid (H12.out.trans hx13); clear hx13
          go_wp2
          go_ret
          exact ⟨rfl, H13.out⟩
    · have hya := hva
      obtain ⟨ys, hyz⟩ : ∃ ys, ys = ya := ⟨_, rfl⟩
      subst hyz
      have hal : ys.length = ys.length := rfl
      have hnA : A = none → ys.length = 0 ∧ ca = 0 := fun h => by have := hna h; omega
      have hyb := hvb
      obtain ⟨zs, hyz⟩ : ∃ zs, zs = yb := ⟨_, rfl⟩
      subst hyz
      have hbl : zs.length = zs.length := rfl
      have hnB : B = none → zs.length = 0 ∧ cb = 0 := fun h => by have := hnb h; omega
      have hla : ys.length ≤ 8 := by omega
      have hlb : zs.length ≤ 8 := by omega
      have hia := hya.all
      have hib := hyb.all
      have hall : ∀ n, n ∈ ys ++ zs → isI64 n := fun n hn => by rcases List.mem_append.1 hn with h | h; exact hia n h; exact hib n h
      have hLA := putN_len ys hia
      have hLB := putN_len zs hib
      have H := Lib.hid (And.intro hya (And.intro hyb (And.intro hnA (And.intro hnB (And.intro hal hbl))))); clear hya hyb hnA hnB hal hbl hna hnb hva hvb
      have HL := Lib.hid (And.intro hall (And.intro hLA hLB)); clear hia hib hall hLA hLB
      go_enter Try.func4, Try.ntmps4
      go_wp2_with fail
      refine (awakeN_true _).mono ?_
      rintro e w1 ⟨rfl, hx1⟩
      have c0 : w1.cell? ⟨w.heap.size, 0, none⟩ = some (.int .i64 p) := hx1.cell (by simp)
      have c1 : w1.cell? ⟨w.heap.size, 1, none⟩ = some (.int .i64 q) := hx1.cell (by simp)
      have H1 := Lib.hid (((Ext.refl w).alloc (.cells #[.int .i64 p, .int .i64 q] 29)).trans hx1); clear hx1
      have HO := Lib.hid (World.ownsRow_lit (base := w1.heap.size) (e := 3) (size := 1) w1 #[] 0 (Nat.le_refl _) (by unfold maxLen; omega) rfl)
      have H2 := Lib.hid (H1.out.alloc (.cells #[] 3))
      have HB := Lib.hid (show w1.heap.size ≤ (w1.alloc (.cells #[] 3)).heap.size by simp)
      go_wp2_with (at_builtin; refine wpList_append_opt rfl _ _ 22 rfl w1.heap.size 3 i0 _ 1 8 Try.underlying22 hi0 hz0 hz1 hz2 rfl (by omega) _ 0 [] rfl HO.out A ys.length ca (ys.map (Value.int .i64)) rfl H.out.2.2.1 (by rw [List.length_map]; have := H.out.2.2.2.2.1; omega) (ints_news (H.out.1.ext H2.out)) (ints_oneCell .i64 ys) (by unfold maxLen; omega) (by omega) HB.out ?_)
      intro v2 w2 hown2 hg2
      have hx2 : Ext w w2 := H2.out.grown hg2 (by simp; exact Nat.le_trans H1.out.size (Nat.le_succ _)) (fun k hk => Nat.le_trans H1.out.size (HO.out.lt k hk).1)
      have H3 := Lib.hid (And.intro hx2 (show w1.heap.size ≤ w2.heap.size from Nat.le_trans HB.out hg2.size)); clear hx2 hg2
      have HO2 := Lib.hid hown2; clear hown2
      go_wp2_with (at_builtin; refine wpList_append_opt rfl _ _ 22 rfl w1.heap.size 3 i0 _ 1 8 Try.underlying22 hi0 hz0 hz1 hz2 rfl (by omega) _ _ _ rfl HO2.out B zs.length cb (zs.map (Value.int .i64)) rfl H.out.2.2.2.1 (by rw [List.length_map]; have := H.out.2.2.2.2.2; omega) (ints_news (H.out.2.1.ext H3.out.1)) (ints_oneCell .i64 zs) (by unfold maxLen; omega) (by omega) H3.out.2 ?_)
      intro v3 w3 hown3 hg3
      have hx3 : Ext w w3 := H3.out.1.grown hg3 H3.out.1.size (fun k hk => Nat.le_trans H1.out.size (HO2.out.lt k hk).1)
      have hI3 : IsInts w3 v3 (ys ++ zs) := ints_of_own (base := w1.heap.size) (by rw [List.length_append, List.map_append]; simpa using hown3) HL.out.1
      have H4 := Lib.hid (And.intro hx3 hI3); clear hx3 hI3 hg3 hown3
      go_wp2_with fail
      refine (Put_ints (ys ++ zs) _ _ H4.out.2 (by rw [List.length_append]; omega)).mono ?_
      rintro e w4 ⟨rfl, hx4⟩
      rw [putN_append, ← mk_append]
      have H5 := Lib.hid (H4.out.1.trans hx4); clear hx4
      go_wp2_with fail
      refine (Put_ints ys _ _ (H.out.1.ext H5.out) (by omega)).mono ?_
      rintro e w5 ⟨rfl, hx5⟩
      have H6 := Lib.hid (H5.out.trans hx5); clear hx5
      go_wp2_with fail
      refine (Put_ints zs _ _ (H.out.2.1.ext H6.out) (by omega)).mono ?_
      rintro e w6 ⟨rfl, hx6⟩
      have H7 := Lib.hid (H6.out.trans hx6); clear hx6
      have hSA : (⟨(putN ys).toArray⟩ : ByteArray).size ≤ 100 := by rw [size_mk]; have := HL.out.2.1; omega
      have hSB : (⟨(putN zs).toArray⟩ : ByteArray).size ≤ 100 := by rw [size_mk]; have := HL.out.2.2; omega
      generalize (⟨(putN ys).toArray⟩ : ByteArray) = SA at hSA ⊢
      generalize (⟨(putN zs).toArray⟩ : ByteArray) = SB at hSB ⊢
      by_cases hxy : Y < X
      · obtain ⟨SM, hSM⟩ : ∃ S, S = (⟨(encN (2 * Y)).toArray⟩ : ByteArray) := ⟨_, rfl⟩
        obtain ⟨SN, hSN⟩ : ∃ S, S = (⟨(encN (2 * X)).toArray⟩ : ByteArray) := ⟨_, rfl⟩
        obtain ⟨SX, hSX⟩ : ∃ S, S = (⟨(encN (2 * X)).toArray⟩ : ByteArray) := ⟨_, rfl⟩
        obtain ⟨SY, hSY⟩ : ∃ S, S = (⟨(encN (2 * X + 1)).toArray⟩ : ByteArray) := ⟨_, rfl⟩
        have hsz : SM.size ≤ SN.size := by subst hSM hSN; exact enc_size _ _ (by omega)
        have hpair : SX.size = SY.size := by rw [hSX, hSY, size_mk, size_mk]; exact len_pair X
        have HS := Lib.hid (And.intro hSM (And.intro hSN (And.intro hSX hSY))); clear hSM hSN hSX hSY
        go_wp2_with fail
        refine (Put_one (Y : Int) w6 _ rfl (by unfold isI64; omega)).mono ?_
        rintro e w8 ⟨rfl, hx8⟩
        rw [fold_nat, ← HS.out.1]
        have H8 := Lib.hid (H7.out.trans hx8); clear hx8
        go_wp2_with fail
        refine (Put_one (X : Int) w8 _ rfl (by unfold isI64; omega)).mono ?_
        rintro e w9 ⟨rfl, hx9⟩
        rw [fold_nat, ← HS.out.2.1]
        have H9 := Lib.hid (H8.out.trans hx9); clear hx9
        go_wp2_with fail
        refine (Put_one (X : Int) w9 _ rfl (by unfold isI64; omega)).mono ?_
        rintro e w10 ⟨rfl, hx10⟩
        rw [fold_nat, ← HS.out.2.2.1]
        have H10 := Lib.hid (H9.out.trans hx10); clear hx10
        go_wp2_with fail
        refine (Put_one (-(X : Int) - 1) w10 _ rfl (by unfold isI64; omega)).mono ?_
        rintro e w11 ⟨rfl, hx11⟩
        rw [fold_neg1, ← HS.out.2.2.2]
        have H11 := Lib.hid (H10.out.trans hx11); clear hx11
        go_wp2_with fail
        refine (PutText_any ⟨#[]⟩ w11 (by decide)).mono ?_
        rintro e w12 ⟨rfl, hx12⟩
        rw [show encN (2 * (⟨#[]⟩ : ByteArray).size) ++ bts ⟨#[]⟩ = encN (foldN 0) from List.append_nil _]
        have H12 := Lib.hid (H11.out.trans hx12); clear hx12
        go_wp2_with fail
        refine (Put_one 0 w12 _ rfl (by unfold isI64; omega)).mono ?_
        rintro e w13 ⟨rfl, hx13⟩
        have H13 := Lib.hid (H12.out.trans hx13); clear hx13
        go_wp2
        go_ret
        exact ⟨rfl, H13.out⟩
      · by_cases hyx : X < Y
        · obtain ⟨SM, hSM⟩ : ∃ S, S = (⟨(encN (2 * X)).toArray⟩ : ByteArray) := ⟨_, rfl⟩
          obtain ⟨SN, hSN⟩ : ∃ S, S = (⟨(encN (2 * Y)).toArray⟩ : ByteArray) := ⟨_, rfl⟩
          obtain ⟨SX, hSX⟩ : ∃ S, S = (⟨(encN (2 * X)).toArray⟩ : ByteArray) := ⟨_, rfl⟩
          obtain ⟨SY, hSY⟩ : ∃ S, S = (⟨(encN (2 * X + 1)).toArray⟩ : ByteArray) := ⟨_, rfl⟩
          have hsz : SM.size ≤ SN.size := by subst hSM hSN; exact enc_size _ _ (by omega)
          have hpair : SX.size = SY.size := by rw [hSX, hSY, size_mk, size_mk]; exact len_pair X
          have HS := Lib.hid (And.intro hSM (And.intro hSN (And.intro hSX hSY))); clear hSM hSN hSX hSY
          go_wp2_with fail
          refine (Put_one (X : Int) w6 _ rfl (by unfold isI64; omega)).mono ?_
          rintro e w8 ⟨rfl, hx8⟩
          rw [fold_nat, ← HS.out.1]
          have H8 := Lib.hid (H7.out.trans hx8); clear hx8
          go_wp2_with fail
          refine (Put_one (Y : Int) w8 _ rfl (by unfold isI64; omega)).mono ?_
          rintro e w9 ⟨rfl, hx9⟩
          rw [fold_nat, ← HS.out.2.1]
          have H9 := Lib.hid (H8.out.trans hx9); clear hx9
          go_wp2_with fail
          refine (Put_one (X : Int) w9 _ rfl (by unfold isI64; omega)).mono ?_
          rintro e w10 ⟨rfl, hx10⟩
          rw [fold_nat, ← HS.out.2.2.1]
          have H10 := Lib.hid (H9.out.trans hx10); clear hx10
          go_wp2_with fail
          refine (Put_one (-(X : Int) - 1) w10 _ rfl (by unfold isI64; omega)).mono ?_
          rintro e w11 ⟨rfl, hx11⟩
          rw [fold_neg1, ← HS.out.2.2.2]
          have H11 := Lib.hid (H10.out.trans hx11); clear hx11
          go_wp2_with fail
          refine (PutText_any ⟨#[]⟩ w11 (by decide)).mono ?_
          rintro e w12 ⟨rfl, hx12⟩
          rw [show encN (2 * (⟨#[]⟩ : ByteArray).size) ++ bts ⟨#[]⟩ = encN (foldN 0) from List.append_nil _]
          have H12 := Lib.hid (H11.out.trans hx12); clear hx12
          go_wp2_with fail
          refine (Put_one 0 w12 _ rfl (by unfold isI64; omega)).mono ?_
          rintro e w13 ⟨rfl, hx13⟩
          have H13 := Lib.hid (H12.out.trans hx13); clear hx13
          go_wp2
          go_ret
          exact ⟨rfl, H13.out⟩
        · obtain ⟨SM, hSM⟩ : ∃ S, S = (⟨(encN (2 * X)).toArray⟩ : ByteArray) := ⟨_, rfl⟩
          obtain ⟨SN, hSN⟩ : ∃ S, S = (⟨(encN (2 * X)).toArray⟩ : ByteArray) := ⟨_, rfl⟩
          obtain ⟨SX, hSX⟩ : ∃ S, S = (⟨(encN (2 * X)).toArray⟩ : ByteArray) := ⟨_, rfl⟩
          obtain ⟨SY, hSY⟩ : ∃ S, S = (⟨(encN (2 * X + 1)).toArray⟩ : ByteArray) := ⟨_, rfl⟩
          have hsz : SM.size ≤ SN.size := by subst hSM hSN; exact enc_size _ _ (by omega)
          have hpair : SX.size = SY.size := by rw [hSX, hSY, size_mk, size_mk]; exact len_pair X
          have HS := Lib.hid (And.intro hSM (And.intro hSN (And.intro hSX hSY))); clear hSM hSN hSX hSY
          go_wp2_with fail
          refine (Put_one (X : Int) w6 _ rfl (by unfold isI64; omega)).mono ?_
          rintro e w8 ⟨rfl, hx8⟩
          rw [fold_nat, ← HS.out.1]
          have H8 := Lib.hid (H7.out.trans hx8); clear hx8
          go_wp2_with fail
          refine (Put_one (X : Int) w8 _ rfl (by unfold isI64; omega)).mono ?_
          rintro e w9 ⟨rfl, hx9⟩
          rw [fold_nat, ← HS.out.2.1]
          have H9 := Lib.hid (H8.out.trans hx9); clear hx9
          go_wp2_with fail
          refine (Put_one (X : Int) w9 _ rfl (by unfold isI64; omega)).mono ?_
          rintro e w10 ⟨rfl, hx10⟩
          rw [fold_nat, ← HS.out.2.2.1]
          have H10 := Lib.hid (H9.out.trans hx10); clear hx10
          go_wp2_with fail
          refine (Put_one (-(X : Int) - 1) w10 _ rfl (by unfold isI64; omega)).mono ?_
          rintro e w11 ⟨rfl, hx11⟩
          rw [fold_neg1, ← HS.out.2.2.2]
          have H11 := Lib.hid (H10.out.trans hx11); clear hx11
          go_wp2_with fail
          refine (PutText_any ⟨#[]⟩ w11 (by decide)).mono ?_
          rintro e w12 ⟨rfl, hx12⟩
          rw [show encN (2 * (⟨#[]⟩ : ByteArray).size) ++ bts ⟨#[]⟩ = encN (foldN 0) from List.append_nil _]
          have H12 := Lib.hid (H11.out.trans hx12); clear hx12
          go_wp2_with fail
          refine (Put_one 0 w12 _ rfl (by unfold isI64; omega)).mono ?_
          rintro e w13 ⟨rfl, hx13⟩
          have H13 := Lib.hid (H12.out.trans hx13); clear hx13
          go_wp2
          go_ret
          exact ⟨rfl, H13.out⟩
end Go.Proofs.Ytcfboalepnbifaa
