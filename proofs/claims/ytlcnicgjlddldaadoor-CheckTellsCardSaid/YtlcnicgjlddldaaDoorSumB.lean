/- The summer's table is filled. -/
import Derived.Test.YtlcnicgjlddldaaDoorSumA
namespace Go.Proofs.YtlcnicgjlddldaaDoor
open Go Go.RowKit

/-- Only block g may have turned. -/
structure Only (g : Nat) (w w' : World) : Prop where
  os : w'.os = w.os
  tape : w'.tape = w.tape
  output : w'.output = w.output
  size : w.heap.size ≤ w'.heap.size
  block : ∀ k, k ≠ g → k < w.heap.size → w'.heap[k]? = w.heap[k]?
theorem Only.refl (g : Nat) (w : World) : Only g w w := ⟨rfl, rfl, rfl, Nat.le_refl _, fun _ _ _ => rfl⟩
theorem Only.trans {g : Nat} {a b c : World} (h : Only g a b) (k : Only g b c) : Only g a c :=
  ⟨k.os.trans h.os, k.tape.trans h.tape, k.output.trans h.output, Nat.le_trans h.size k.size, fun i hi hl => (k.block i hi (Nat.lt_of_lt_of_le hl h.size)).trans (h.block i hi hl)⟩
theorem Only.drew {g : Nat} {a b : World} (h : Only g a b) : Only g a b.drew := ⟨h.os, h.tape, h.output, h.size, h.block⟩
theorem Only.setCell {g i : Nat} {a b : World} (h : Only g a b) (v : Value) : Only g a (b.setCell ⟨g, i, none⟩ v) :=
  ⟨h.os, h.tape, h.output, by simpa [World.setCell] using h.size, fun k hk hl => (heap_setCell_other _ _ _ _ hk).trans (h.block k hk hl)⟩
theorem Only.below {g B : Nat} {w w' : World} (h : Only g w w') (hB : B ≤ g) (hs : B ≤ w.heap.size) : Below B w w' :=
  ⟨h.os, h.tape, h.output, h.size, fun k hk => h.block k (by omega) (by omega)⟩
theorem Only.cell {g : Nat} {w w' : World} (h : Only g w w') {p : Addr} {v : Value} (hp : p.block ≠ g) (hc : w.cell? p = some v) : w'.cell? p = some v := by
  have := h.block p.block hp (lt_of_cell hc)
  simp only [World.cell?, this] at hc ⊢
  exact hc
def Ready (w : World) (g s : Nat) : Prop := ∃ tab, SumAt w g s tab ∧ ((∀ i, i < 256 → tab i = 0) ∨ ∀ i, i < 256 → tab i = dnN 8 i)
theorem table_one : dnN 8 1 ≠ 0 := by decide +kernel
theorem addr_ne {g i j : Nat} (h : i ≠ j) : (⟨g, i, none⟩ : Addr) ≠ ⟨g, j, none⟩ := fun e => h (by injection e)
theorem SumAt.setTab {w : World} {g s : Nat} {tab : Nat → Nat} (h : SumAt w g s tab) {i v : Nat} (hi : i < 256) (hv : v < 4294967296) : SumAt (w.setCell ⟨g, 1 + i, none⟩ (.int .u32 v)) g s (fun j => if j = i then v else tab j) := by
  obtain ⟨⟨arr, hb, hz⟩, h1, h2, h3⟩ := h
  refine ⟨⟨_, heap_setCell_same w g (1 + i) arr _ _ hb, by simp [hz]⟩, ?_, h2, fun j hj => ?_⟩
  · rw [World.cell?_setCell_other _ _ _ _ (addr_ne (by omega))]; exact h1
  · by_cases he : j = i
    · subst he
      rw [if_pos rfl]
      exact ⟨World.cell?_setCell_same _ _ _ (h3 j hj).1, hv⟩
    · rw [if_neg he, World.cell?_setCell_other _ _ _ _ (addr_ne (by omega))]
      exact h3 j hj
theorem SumAt.setSum {w : World} {g s : Nat} {tab : Nat → Nat} (h : SumAt w g s tab) {v : Nat} (hv : v < 4294967296) : SumAt (w.setCell ⟨g, 0, none⟩ (.int .u32 v)) g v tab := by
  obtain ⟨⟨arr, hb, hz⟩, h1, h2, h3⟩ := h
  refine ⟨⟨_, heap_setCell_same w g 0 arr _ _ hb, by simp [hz]⟩, World.cell?_setCell_same _ _ _ h1, hv, fun j hj => ?_⟩
  rw [World.cell?_setCell_other _ _ _ _ (addr_ne (by omega))]
  exact h3 j hj
theorem SumAt.below {w w' : World} {g s B : Nat} {tab : Nat → Nat} (h : SumAt w g s tab) (hb : Below B w w') (hg : g < B) : SumAt w' g s tab := by
  obtain ⟨⟨arr, hb1, hz⟩, h1, h2, h3⟩ := h
  exact ⟨⟨arr, (hb.block g hg).trans hb1, hz⟩, (hb.cell hg).trans h1, h2, fun i hi => ⟨(hb.cell hg).trans (h3 i hi).1, (h3 i hi).2⟩⟩
theorem SumAt.drew {w : World} {g s : Nat} {tab : Nat → Nat} (h : SumAt w g s tab) : SumAt w.drew g s tab := ⟨h.blk, h.sum, h.small, h.tab⟩
theorem SumAt.drewN {w : World} {g s : Nat} {tab : Nat → Nat} (h : SumAt w g s tab) (n : Nat) : SumAt (w.drewN n) g s tab := ⟨h.blk, h.sum, h.small, h.tab⟩
theorem SumAt.ext {w w' : World} {g s : Nat} {tab : Nat → Nat} (h : SumAt w g s tab) (hb : Ext w w') : SumAt w' g s tab := by
  obtain ⟨arr, hb1, _⟩ := h.blk
  refine h.below hb ?_
  exact (Array.getElem?_eq_some_iff.1 hb1).1
/-- What the table holds behind so many steps. -/
def Upto (tab : Nat → Nat) (d : Nat) : Prop := ∀ i, i < 256 → d ∣ i → tab i = dnN 8 i
def Below_ (tab : Nat → Nat) (d L : Nat) : Prop := ∀ i, i < 256 → i < L → d ∣ i → tab i = dnN 8 i
theorem SumAt.congr {w : World} {g s : Nat} {tab tab' : Nat → Nat} (h : SumAt w g s tab) (he : ∀ i, i < 256 → tab i = tab' i) : SumAt w g s tab' :=
  ⟨h.blk, h.sum, h.small, fun i hi => by rw [← he i hi]; exact h.tab i hi⟩
theorem bit_of (st : Nat) (h : st < 8) : ∃ b : Nat, (128 / 2 ^ st : Int) = (b : Int) ∧ b = 2 ^ (7 - st) ∧ b ≤ 128 ∧ 0 < b ∧ 2 * b = 2 ^ (8 - st) ∧ b * 2 ^ st = 128 := by
  refine ⟨2 ^ (7 - st), ?_⟩
  revert st; decide +kernel
theorem bit_down {st b : Nat} (hst : st < 8) (hb : b = 2 ^ (7 - st)) : dn (dnN st 1) = dnN 8 b := by
  rw [← dnN_succ, hb, show dnN 8 (2 ^ (7 - st)) = dnN ((7 - st) + (st + 1)) (1 * 2 ^ (7 - st)) from by rw [Nat.one_mul, show (7 - st) + (st + 1) = 8 from by omega], dnN_add (7 - st) (st + 1), dnN_pow]
theorem start_tab {tb : Nat → Nat} {b : Nat} (h : Upto tb (2 * b)) : Below_ tb b b := by
  intro i hi hlt ⟨q, hq⟩
  have h0 : q = 0 := by
    rcases Nat.eq_zero_or_pos q with h | h
    · exact h
    · have := Nat.le_mul_of_pos_right b h
      omega
  subst h0
  rw [Nat.mul_zero] at hq
  subst hq
  exact h 0 hi ⟨0, rfl⟩
theorem step_tab {tc : Nat → Nat} {b st m L P : Nat} (hst : st < 8) (hb : b = 2 ^ (7 - st)) (hb0 : 0 < b) (hL : L = b * (2 * m + 1)) (hP : P = L - b) (hP8 : P < 256) (hu : Upto tc (2 * b)) (hl : Below_ tc b L) (v : Nat) (hv : v = tc P ^^^ dn (dnN st 1)) :
    Upto (fun j => if j = L then v else tc j) (2 * b) ∧ Below_ (fun j => if j = L then v else tc j) b (b * (2 * (m + 1) + 1)) := by
  have hLe : L = 2 * (b * m) + b := by rw [hL, Nat.mul_add, Nat.mul_one, Nat.mul_left_comm]
  have hodd : ∀ i, 2 * b ∣ i → i ≠ L := by
    intro i ⟨q, hq⟩ he
    rw [he, hLe, Nat.mul_assoc] at hq
    rcases Nat.lt_trichotomy q m with h | h | h
    · have := Nat.mul_le_mul_left b (show q + 1 ≤ m from h)
      rw [Nat.mul_add] at this
      omega
    · subst h; omega
    · have := Nat.mul_le_mul_left b (show m + 1 ≤ q from h)
      rw [Nat.mul_add] at this
      omega
  have hPe : P = 2 * (b * m) := by omega
  refine ⟨fun i hi hd => ?_, fun i hi hlt hd => ?_⟩
  · show (if i = L then v else tc i) = _
    rw [if_neg (hodd i hd)]
    exact hu i hi hd
  · show (if i = L then v else tc i) = _
    by_cases he : i = L
    · rw [if_pos he, hv, bit_down hst hb, hu P hP8 ⟨m, by rw [hPe, Nat.mul_assoc]⟩, ← dnN_xor, he]
      congr 1
      have := low_high (8 - st) b m (by rw [hb]; exact Nat.pow_lt_pow_right (by decide) (by omega))
      rw [show m * 2 ^ (8 - st) = P from by rw [hPe, hb, show 8 - st = (7 - st) + 1 from by omega, Nat.pow_succ]; generalize 2 ^ (7 - st) = z; rw [Nat.mul_comm m, Nat.mul_assoc, Nat.mul_left_comm]] at this
      rw [Nat.xor_comm, this]; omega
    · rw [if_neg he]
      rcases Nat.lt_or_ge i L with h | h
      · exact hl i hi h hd
      · obtain ⟨q, hq⟩ := hd
        refine hu i hi ⟨m + 1, ?_⟩
        have h1 : q = 2 * (m + 1) := by
          have h2 : q < 2 * (m + 1) + 1 := Nat.lt_of_mul_lt_mul_left (a := b) (by rw [← hq]; exact hlt)
          have h3 : 2 * m + 1 ≤ q := by
            refine Nat.le_of_mul_le_mul_left ?_ hb0
            rw [← hq, ← hL]; exact h
          have h4 : q ≠ 2 * m + 1 := fun e => he (by rw [hq, e, hL])
          omega
        rw [hq, h1, Nat.mul_left_comm, Nat.mul_assoc]
theorem full_tab {tb : Nat → Nat} {b L : Nat} (hL : 256 ≤ L) (h : Below_ tb b L) : Upto tb b := fun i hi hd => h i hi (by omega) hd
theorem mult_low {b m L : Nat} (hL : L = b * (2 * m + 1)) : b ≤ L := by
  rw [hL]; exact Nat.le_mul_of_pos_right b (by omega)
theorem mult_high {b st m k L : Nat} (hb : b * 2 ^ st = 128) (hm : m + k = 2 ^ st) (hL : L = b * (2 * m + 1)) (hL8 : L < 256) : 0 < k ∧ L + 2 * b = b * (2 * (m + 1) + 1) := by
  have e : L = 2 * (b * m) + b := by rw [hL, Nat.mul_add, Nat.mul_one, Nat.mul_left_comm]
  refine ⟨?_, by rw [Nat.mul_add, Nat.mul_one, Nat.mul_left_comm, Nat.mul_add]; omega⟩
  rcases Nat.eq_zero_or_pos k with h | h
  · subst h
    rw [Nat.add_zero] at hm
    rw [hm, hb] at e
    omega
  · exact h
set_option maxHeartbeats 2000000 in
set_option maxRecDepth 100000 in
theorem fill_at (g s : Nat) (w : World) (h : Ready w g s) : Calls Tryd.prog 70 #[.pointer (some ⟨g, 0, none⟩)] w fun e w' => e = .returned (.tuple #[]) ∧ SumAt w' g s (fun i => dnN 8 i) ∧ Only g w w' := by
  obtain ⟨tab, hs, ht⟩ := h
  have h1 := (hs.tab 1 (by omega)).1
  rcases ht with ht | ht
  · rw [ht 1 (by omega)] at h1
    have h0 : Upto tab 256 := fun i hi hd => by
      obtain rfl : i = 0 := by omega
      rw [ht 0 hi, dnN_zero]
    have HS := Lib.hid (And.intro hs h0); clear hs ht h0
    go_enter Tryd.func70, Tryd.ntmps70
    go_wp2
    clear h1
    go_loopg [2, 12] 8 (fun k r c wr => ∃ (st : Nat) (tab : Nat → Nat), st + k = 8 ∧ r = .int .u32 (dnN st 1) ∧ c = .int .i64 st ∧ Hid (SumAt wr g s tab ∧ Upto tab (2 ^ (8 - st)) ∧ Only g w wr))
    case atStart => exact ⟨0, tab, rfl, rfl, rfl, HS.out.1, HS.out.2, Only.refl _ _⟩
    case round =>
      obtain ⟨st, tb, hst, rfl, rfl, hinv⟩ := hrel
      obtain ⟨G, rfl⟩ : ∃ G, G = gk := ⟨_, rfl⟩
      have HT := Lib.hid hst; clear hst
      have hs8 : st ≤ 8 := by have := HT.out; omega
      have hr := dnN_lt st (r := 1) (by decide)
      generalize hR : dnN st 1 = R at hr
      have HR := Lib.hid hR; clear hR
      by_cases hlt : st < 8
      · go_wp2_with (go_at_call 79; refine (down_dn _ _ hr).mono ?_; rintro e w2 ⟨rfl, rfl⟩)
        obtain ⟨b, hb1, hb2, hb3, hb4, hb5, hb6⟩ := bit_of st hlt
        rw [hb1]
        have HB := Lib.hid (And.intro hb2 (And.intro hb5 hb6)); clear hb1 hb2 hb5 hb6
        have hdr := dn_lt hr
        go_loopg [5] (2 ^ st) (fun k l wq => ∃ (m L : Nat) (tab : Nat → Nat), Hid (m + k = 2 ^ st) ∧ l = .int .i64 L ∧ Hid (L = b * (2 * m + 1)) ∧ Hid (SumAt wq g s tab ∧ Upto tab (2 * b) ∧ Below_ tab b L ∧ Only g w wq))
        case atStart =>
          have h2 : Upto tb (2 * b) := by have := hinv.out.2.1; rwa [← HB.out.2.1] at this
          exact ⟨0, b, tb, Nat.zero_add _, rfl, by show b = b * 1; omega, hinv.out.1, h2, start_tab h2, hinv.out.2.2⟩
        case round =>
          obtain ⟨m, L, tc, hm, rfl, hL, hinv2⟩ := hrel
          by_cases hL8 : L < 256
          · have hbL : b ≤ L := mult_low hL.out
            obtain ⟨P, hP⟩ : ∃ P : Nat, P = L - b := ⟨_, rfl⟩
            have hPi : (L : Int) - (b : Int) = (P : Int) := by omega
            have hP8 : P < 256 := by omega
            have hPw : IntKind.i64.wrap ((L : Int) - (b : Int)) = (P : Int) := by rw [hPi]; exact IntWalk.i64_in _ (by omega)
            have c1 := (hinv2.out.1.tab P hP8).1
            have c2 := (hinv2.out.1.tab L hL8).1
            have c3 := (hinv2.out.1.tab P hP8).2
            have f1 := hinv2.out.1.frozen (1 + L)
            have hxo : bits .xor .u32 ((tc P : Nat) : Int) ((dn R : Nat) : Int) = ((tc P ^^^ dn R : Nat) : Int) := u32_xor_nat _ _ c3 hdr
            have HP := Lib.hid hP; clear hP hPi
            go_wp2
            go_region
            go_wp2
            go_roundg (gk - 1)
            case measure => have := (mult_high HB.out.2.2 hm.out hL.out hL8).1; omega
            case rel =>
              have h1 := mult_high HB.out.2.2 hm.out hL.out hL8
              have h2 := step_tab hlt HB.out.1 hb4 hL.out HP.out hP8 hinv2.out.2.1 hinv2.out.2.2.1 (tc P ^^^ dn R) (by rw [HR.out])
              refine ⟨m + 1, L + 2 * b, _, ?_, by go_num, ?_, ?_, h2.1, ?_, ?_⟩
              · show m + 1 + (gk - 1) = 2 ^ st
                have := hm.out; omega
              · show L + 2 * b = b * (2 * (m + 1) + 1)
                exact h1.2
              · exact (hinv2.out.1.setTab hL8 (xor_lt32 c3 hdr)).drew
              · rw [h1.2]; exact h2.2
              · exact (hinv2.out.2.2.2.setCell _).drew
          · go_wp2
            go_roundg (G - 1)
            case measure => have := HT.out; omega
            case rel =>
              refine ⟨st + 1, tc, ?_, ?_, by go_num, hinv2.out.1, ?_, hinv2.out.2.2.2⟩
              · have := HT.out; omega
              · rw [dnN_succ, HR.out]
              · have h3 := full_tab (by omega) hinv2.out.2.2.1
                rwa [HB.out.1, show 7 - st = 8 - (st + 1) from by omega] at h3
      · go_wp2
        have h8 : st = 8 := by omega
        refine bodyPost_end (by simp [results, Tryd.results70, go_sem]) rfl ⟨rfl, hinv.out.1.congr fun i hi => hinv.out.2.1 i hi ?_, hinv.out.2.2⟩
        subst h8
        exact Nat.one_dvd i
  · rw [ht 1 (by omega)] at h1
    have hne : ((dnN 8 1 : Nat) : Int) ≠ 0 := by have := table_one; omega
    generalize dnN 8 1 = z at h1 hne
    have HS := Lib.hid (And.intro hs ht); clear hs ht
    go_enter Tryd.func70, Tryd.ntmps70
    go_wp2
    exact bodyPost_ret (by simp [results, Tryd.results70, go_sem]) rfl ⟨rfl, HS.out.1.congr HS.out.2, Only.refl _ _⟩
end Go.Proofs.YtlcnicgjlddldaaDoor
