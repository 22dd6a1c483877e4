/- What was put is read: words of no program. · Words of no program: a right row's bytes are read as that row (chapter 5). · The law CellBack, walked. -/
import Derived.Test.YtcmllaeihnmkkaaDoorU4
import Derived.Test.YtcmllaeihnmkkaaDoorU11
import Derived.Test.YtcmllaeihnmkkaaDoorU12
import Derived.Test.YtcmllaeihnmkkaaDoorU13
import Derived.Test.YtcmllaeihnmkkaaDoorU14
import Derived.Test.YtcmllaeihnmkkaaDoorU15
import Derived.Test.YtcmllaeihnmkkaaDoorU22
namespace Go.Proofs.YtcmllaeihnmkkaaDoor
open Go Go.RowKit

theorem numAt_enc (s : ByteArray) (p : Nat) (lo hi n : Int) (rest : List UInt8) (hd : (bts s).drop p = encN (foldN n) ++ rest) (hn : isI64 n) (h1 : lo ≤ n) (h2 : n ≤ hi) : numAt s p lo hi = (n, (encN (foldN n)).length, 0) := by
  unfold numAt
  rw [hd, rd_enc0 _ _ (foldN_lt hn.1 hn.2)]
  unfold numGot
  dsimp only
  rw [unfold_fold, if_neg (by omega)]
theorem fold_len (m : Nat) : foldN (m : Int) = 2 * m := by unfold foldN; rw [if_pos (by omega)]; omega
theorem textAt_enc (s : ByteArray) (p : Nat) (hi : Int) (m rest : List UInt8) (hd : (bts s).drop p = encN (2 * m.length) ++ (m ++ rest)) (hm : m.length ≤ 1000000) (h : (m.length : Int) ≤ hi) :
    textAt s p hi = (⟨m.toArray⟩, p + (encN (2 * m.length)).length + m.length, 0) := by
  have hl := congrArg List.length hd
  have hp := encN_pos (2 * m.length)
  rw [List.length_drop, bts_len, List.length_append, List.length_append] at hl
  have e := numAt_enc s p 0 hi m.length (m ++ rest) (by rw [fold_len]; exact hd) (by unfold isI64; omega) (by omega) h
  rw [fold_len] at e
  unfold textAt
  rw [e]
  dsimp only
  rw [if_neg (by omega), Int.toNat_natCast]
  have hb : s.extract (p + (encN (2 * m.length)).length) (p + (encN (2 * m.length)).length + m.length) = ⟨m.toArray⟩ := by
    apply ba_ext
    rw [bts_mk m, bts_extract, List.drop_take, Nat.add_sub_cancel_left, ← List.drop_drop, hd, List.drop_left, List.take_left]
  rw [hb]
/-- The bytes of a text, numbers, a text. -/
def packed (a : List UInt8) (ys : List Int) (b : List UInt8) : List UInt8 := (encN (2 * a.length) ++ a) ++ putN ys ++ (encN (2 * b.length) ++ b)
def packP (a : List UInt8) (ys : List Int) (i : Nat) : Nat := (encN (2 * a.length)).length + a.length + (putN (ys.take i)).length
theorem packed_drop (a : List UInt8) (ys : List Int) (b : List UInt8) (i : Nat) : (packed a ys b).drop (packP a ys i) = putN (ys.drop i) ++ (encN (2 * b.length) ++ b) := by
  unfold packed packP
  have e : putN ys = putN (ys.take i) ++ putN (ys.drop i) := by rw [← putN_append, List.take_append_drop]
  rw [e]
  generalize encN (2 * b.length) ++ b = T
  rw [show (encN (2 * a.length)).length + a.length + (putN (ys.take i)).length = (encN (2 * a.length) ++ a ++ putN (ys.take i)).length from by simp only [List.length_append],
    show encN (2 * a.length) ++ a ++ (putN (ys.take i) ++ putN (ys.drop i)) ++ T = (encN (2 * a.length) ++ a ++ putN (ys.take i)) ++ (putN (ys.drop i) ++ T) from by simp [List.append_assoc]]
  exact List.drop_left
theorem packed_len (a : List UInt8) (ys : List Int) (b : List UInt8) : (packed a ys b).length = packP a ys ys.length + ((encN (2 * b.length)).length + b.length) := by
  unfold packed packP
  rw [List.length_append, List.length_append, List.length_append, List.length_append, List.take_length]
theorem packP_step (a : List UInt8) (ys : List Int) (i : Nat) (n : Int) (h : ys[i]? = some n) : packP a ys i + (encN (foldN n)).length = packP a ys (i + 1) := by
  unfold packP
  rw [putN_take ys i n h, List.length_append]
  omega
theorem packP_le (a : List UInt8) (ys : List Int) (i : Nat) : packP a ys i ≤ packP a ys ys.length := by
  unfold packP
  rw [List.take_length]
  have e : putN ys = putN (ys.take i) ++ putN (ys.drop i) := by rw [← putN_append, List.take_append_drop]
  have h := congrArg List.length e
  rw [List.length_append] at h
  omega
theorem pack_first (a : List UInt8) (ys : List Int) (b : List UInt8) (B : ByteArray) (hB : bts B = packed a ys b) (ha : a.length ≤ 100) : textAt B 0 100 = (⟨a.toArray⟩, packP a ys 0, 0) := by
  rw [textAt_enc B 0 100 a (putN ys ++ (encN (2 * b.length) ++ b)) (by rw [hB]; unfold packed; simp [List.append_assoc]) (by omega) (by omega)]
  unfold packP
  simp [putN]
theorem pack_num (a : List UInt8) (ys : List Int) (b : List UInt8) (B : ByteArray) (hB : bts B = packed a ys b) (i : Nat) (n : Int) (h : ys[i]? = some n) (hn : isI64 n) : numAt B (packP a ys i) n n = (n, (encN (foldN n)).length, 0) := by
  refine numAt_enc B _ n n n (putN (ys.drop (i + 1)) ++ (encN (2 * b.length) ++ b)) ?_ hn (Int.le_refl _) (Int.le_refl _)
  rw [hB, packed_drop]
  have hl := (List.getElem?_eq_some_iff.1 h).1
  have hd : ys.drop i = n :: ys.drop (i + 1) := by
    rw [List.drop_eq_getElem_cons hl]
    congr 1
    exact (List.getElem?_eq_some_iff.1 h).2
  rw [hd, show n :: ys.drop (i + 1) = [n] ++ ys.drop (i + 1) from rfl, putN_append, putN_one, List.append_assoc]
theorem pack_last (a : List UInt8) (ys : List Int) (b : List UInt8) (B : ByteArray) (hB : bts B = packed a ys b) (hb : b.length ≤ 100) : textAt B (packP a ys ys.length) b.length = (⟨b.toArray⟩, (packed a ys b).length, 0) := by
  rw [textAt_enc B _ b.length b [] (by rw [hB, packed_drop, List.drop_length]; simp [putN]) (by omega) (Int.le_refl _), packed_len]
  rw [Nat.add_assoc]
end Go.Proofs.YtcmllaeihnmkkaaDoor
namespace Go.Proofs.YtcmllaeihnmkkaaDoor
open Go Go.RowKit

theorem putN_cons (x : Int) (xs : List Int) : putN (x :: xs) = encN (foldN x) ++ putN xs := rfl
theorem numF_put {s : ByteArray} {p : Nat} {x hi : Int} {xs : List Int} {rest : List UInt8} (hd : (bts s).drop p = putN (x :: xs) ++ rest) (hx : isI64 x) (h0 : 0 ≤ x) (h1 : x ≤ hi) :
    ∃ q, numF s p 0 0 hi = (x, q, 0) ∧ q = p + (encN (foldN x)).length ∧ (bts s).drop q = putN xs ++ rest := by
  refine ⟨_, ?_, rfl, ?_⟩
  · unfold numF
    rw [if_pos rfl, numAt_enc s p 0 hi x (putN xs ++ rest) (by rw [hd, putN_cons, List.append_assoc]) hx h0 h1]
  · rw [← List.drop_drop, hd, putN_cons, List.append_assoc, List.drop_left]
theorem runAt_put {s : ByteArray} {p : Nat} {k : Int} {c : Cel} {rest : List UInt8} (hd : (bts s).drop p = putN [k, c.r, c.f, c.b, c.a] ++ rest) (hk : 0 ≤ k ∧ k ≤ 4095) (hc : c.ok) (hr : 0 ≤ c.r ∧ c.r ≤ 1114111) :
    runAt s p 0 = ⟨k, c, p + (putN [k, c.r, c.f, c.b, c.a]).length, 0⟩ := by
  obtain ⟨h1, h2, h3, h4⟩ := hc
  unfold isI32 at h1
  unfold isU8 at h2 h3 h4
  obtain ⟨q1, e1, l1, d1⟩ := numF_put (hi := 4095) hd (by unfold isI64; omega) hk.1 hk.2
  obtain ⟨q2, e2, l2, d2⟩ := numF_put (hi := 1114111) d1 (by unfold isI64; omega) hr.1 hr.2
  obtain ⟨q3, e3, l3, d3⟩ := numF_put (hi := 255) d2 (by unfold isI64; omega) h2.1 (by omega)
  obtain ⟨q4, e4, l4, d4⟩ := numF_put (hi := 255) d3 (by unfold isI64; omega) h3.1 (by omega)
  obtain ⟨q5, e5, l5, _⟩ := numF_put (hi := 255) d4 (by unfold isI64; omega) h4.1 (by omega)
  unfold runAt
  simp only [e1, e2, e3, e4, e5]
  congr 1
  simp only [putN_cons, List.length_append]
  rw [show putN [] = [] from rfl, List.length_nil]
  omega
theorem take_run (c : Cel) (l : List Cel) (hr : rightL l = true) : ∀ (n : Nat), (∀ j, j < n → l[j * c.step]? = some c) → l.take (n * c.step) = timesL n (bothL c)
  | 0, _ => by rw [Nat.zero_mul, timesL_zero]; rfl
  | n + 1, h => by
    have ih := take_run c l hr n (fun j hj => h j (by omega))
    obtain ⟨h1, h2⟩ := right_run c l hr n (fun j hj => h j (by omega))
    have h3 := h n (Nat.lt_succ_self n)
    have h4 : l.drop (n * c.step) = c :: l.drop (n * c.step + 1) := by
      rw [List.drop_eq_getElem_cons (List.getElem?_eq_some_iff.1 h3).1]
      rw [(List.getElem?_eq_some_iff.1 h3).2]
    have h5 : (l.drop (n * c.step)).take c.step = bothL c := by
      rw [h4] at h2 ⊢
      generalize l.drop (n * c.step + 1) = t at h2 ⊢
      have hw := right_whole h2
      rw [wholeL_cons] at hw
      unfold bothL Cel.step at *
      cases hwd : c.wide with
      | false => simp
      | true =>
        simp only [hwd, if_true] at hw ⊢
        have h6 := hw.1
        have hpl : c.plain = false := by unfold Cel.plain; rw [hwd]; simp
        rw [hpl] at h6
        simp only [Bool.false_eq_true, if_false] at h6
        split at h6
        · rename_i h7
          simp only [Bool.and_eq_true, decide_eq_true_eq] at h7
          cases t with
          | nil => simp at h7
          | cons d t =>
            have := h7.2
            simp only [List.head?_cons, Option.some.injEq] at this
            rw [this]; rfl
        · omega
    rw [Nat.add_mul, Nat.one_mul, List.take_add, ih, h5, timesL_succ]
theorem right_check {c : Cel} {l : List Cel} (h : rightL (c :: l) = true) : c.check = true ∧ c.tl = false := by
  rcases (right_whole h).2.2.2 with h | h
  · unfold Cel.plain at h; simp only [Bool.and_eq_true, Bool.not_eq_true'] at h; exact ⟨h.1.1, h.2⟩
  · have h2 := Cel.opens_tl h
    unfold Cel.opens at h; simp only [Bool.and_eq_true] at h; exact ⟨h.1, h2⟩
theorem width_range {r : Int} (hr : isI32 r) (hw : widthL r ≠ 0) : 0 ≤ r ∧ r ≤ 1114111 := by
  unfold isI32 at hr
  rw [widthL_is] at hw
  repeat' (split at hw)
  all_goals omega
theorem check_range {c : Cel} (h : c.check = true) (ht : c.tl = false) (hc : c.ok) : 0 ≤ c.r ∧ c.r ≤ 1114111 := by
  have hw : widthL c.r ≠ 0 := by
    unfold Cel.check at h
    rw [ht] at h
    simp only [Bool.false_eq_true, if_false] at h
    split at h <;> (have := of_decide_eq_true h; omega)
  exact width_range hc.1 hw
/-- What is read of a right row's bytes is that row. -/
theorem readGo_back (s : ByteArray) (n : Nat) (rest : List UInt8) (hn : n ≤ 4096) : ∀ (fu : Nat) (l out : List Cel) (ah : Cel) (p : Nat), rightL l = true → (∀ c, c ∈ l → c.ok) → out.length + l.length = n → l.length ≤ fu → (bts s).drop p = runsB (runsL l) ++ rest → l.head? ≠ some ah →
    readGo s n fu out ah p = (out ++ l, p + (runsB (runsL l)).length, 0)
  | fu, [], out, ah, p, _, _, hl, _, _, _ => by
    rw [readGo_done _ _ _ _ _ _ (by simp at hl; omega), runsL_nil]
    simp [runsB]
  | 0, c :: t, out, ah, p, _, _, _, hf, _, _ => by simp at hf
  | fu + 1, c :: t, out, ah, p, hr, ho, hl, hf, hd, hh => by
    have hrun := runN_is c c.step (c :: t) c.step_pos
    have hpos := runN_pos c c.step t c.step_pos
    obtain ⟨hle, hrr⟩ := right_run c (c :: t) hr _ hrun.1
    have htake := take_run c (c :: t) hr _ hrun.1
    obtain ⟨hck, htl⟩ := right_check hr
    have hco := ho c (List.mem_cons_self ..)
    have hcr := check_range hck htl hco
    have hrc := runsL_cons c t
    generalize runN c c.step (c :: t) = m at hrun hpos hle hrr htake hrc
    rw [hrc, runsB_cons] at hd ⊢
    have hmk : m ≤ m * c.step := Nat.le_mul_of_pos_right m c.step_pos
    have hat := runAt_put (c := c) (k := (m : Int) - 1) (rest := runsB (runsL ((c :: t).drop (m * c.step))) ++ rest) (s := s) (p := p) (by rw [hd]; unfold runB; rw [List.append_assoc]) (by omega) hco hcr
    have hne : ¬ c = ah := fun e => hh (by rw [e]; rfl)
    rw [readGo_step s n fu out ah p (by simp at hl; omega) (by rw [hat]) (by
      rw [hat]
      unfold badRun
      rw [hck, htl, decide_eq_false hne, decide_eq_false (show ¬ (n : Int) < out.length + ((m : Int) - 1 + 1) * c.step by
        have : ((m * c.step : Nat) : Int) = (m : Int) * (c.step : Int) := by simp
        rw [show (m : Int) - 1 + 1 = m by omega, ← this]; omega)]
      rfl), hat]
    simp only
    rw [show ((m : Int) - 1 + 1).toNat = m by omega, ← htake]
    have hdl : ((c :: t).drop (m * c.step)).length = (c :: t).length - m * c.step := by rw [List.length_drop]
    rw [readGo_back s n rest hn fu ((c :: t).drop (m * c.step)) (out ++ (c :: t).take (m * c.step)) c _ hrr (fun x hx => ho x (List.mem_of_mem_drop hx)) ?_ ?_ ?_ ?_]
    · rw [List.append_assoc, List.take_append_drop, List.length_append]
      unfold runB
      simp only [Nat.add_assoc]
    · rw [List.length_append, List.length_take, hdl]; omega
    · rw [hdl]; simp only [List.length_cons] at *; omega
    · rw [← List.drop_drop, hd, List.append_assoc]
      unfold runB
      rw [List.drop_left]
    · intro e
      rw [List.head?_drop] at e
      exact hrun.2 e
  termination_by fu => fu
theorem readC_back (s : ByteArray) (l : List Cel) (rest : List UInt8) (hn : l.length ≤ 4096) (hr : rightL l = true) (ho : ∀ c, c ∈ l → c.ok) (hd : bts s = bytesL l ++ rest) : readC s l.length = (l, (bytesL l).length, 0) := by
  have hb : bytesL l = runsB (runsL l) := by unfold bytesL; rw [hr]; rfl
  unfold readC
  rw [if_neg (by omega), Int.toNat_natCast, readGo_back s l.length rest hn l.length l [] Cel.zero 0 hr ho (by simp) (Nat.le_refl _) (by rw [← hb]; simpa using hd) ?_, hb]
  · simp
  · intro e
    cases l with
    | nil => cases e
    | cons c t =>
      have := (right_check hr).1
      simp only [List.head?_cons, Option.some.injEq] at e
      rw [e, zero_check] at this
      cases this
end Go.Proofs.YtcmllaeihnmkkaaDoor
namespace Go.Proofs.YtcmllaeihnmkkaaDoor
open Go Go.RowKit

set_option maxHeartbeats 8000000 in
set_option maxRecDepth 100000 in
theorem cellBack_true (zs : List Int) (vl : Value) (s : ByteArray) (w : World) (hl : IsInts w vl zs) (hml : zs.length ≤ maxLen) (hS : Spans w) (hE : ErrType w) :
    Calls Tryd.prog 4 #[vl, .string s] w fun e w' => e = .returned (.bool true) ∧ Ext w w' := by
  have H := Lib.hid (And.intro hl (And.intro hml (And.intro hS hE))); clear hl hml hS hE
  go_enter Tryd.func4, Tryd.ntmps4
  go_wp2_with fail
  refine (awakeC_true _ H.out.2.2.1).mono ?_
  rintro e w1 ⟨rfl, hx1⟩
  have H1 := Lib.hid hx1; clear hx1
  go_wp2_with fail
  refine (RowC_of zs vl _ (H.out.1.ext H1.out) H.out.2.1).mono ?_
  rintro e w3 ⟨vy, rfl, ho3, hx3⟩
  have HY := Lib.hid (And.intro (row_ok zs) (And.intro (row_len zs) (row_right zs)))
  have H3 := Lib.hid (And.intro (ho3.isCells (row_ok zs)) (H1.out.trans hx3)); clear ho3 hx3
  have hbk := fun (S : ByteArray) (rest : List UInt8) (hd : bts S = bytesL (rowL zs) ++ rest) => readC_back S (rowL zs) rest (by have := HY.out.2.1; omega) HY.out.2.2 HY.out.1 hd
  have htl : (bytesL (rowL zs)).length ≤ 4000 := bytes_small HY.out.1 HY.out.2.1
  generalize rowL zs = X at HY H3 hbk htl
  have HBK := Lib.hid hbk; clear hbk
  obtain ⟨A3, c3, rfl, _⟩ := H3.out.1.form
  go_wp2_with fail
  refine (BytesC_of X _ _ H3.out.1 (H.out.2.2.1.ext H3.out.2) (by have := HY.out.2.1; omega)).mono ?_
  rintro e w4 ⟨rfl, hx4⟩
  obtain ⟨B, hB⟩ : ∃ B : ByteArray, (⟨(bytesL X).toArray⟩ : ByteArray) = B := ⟨_, rfl⟩
  have hBs : B.size = (bytesL X).length := by rw [← hB, size_mk]
  have hBb : bts B = bytesL X := by rw [← hB, bts_mk]
  rw [hB]
  have hBz : B.size ≤ 4000 := by omega
  have H4 := Lib.hid (And.intro (H3.out.2.trans hx4) (And.intro (H3.out.1.ext hx4) (And.intro hBs hBb))); clear hx4 hB hBs hBb htl
  go_wp2_with fail
  refine (shortC_of s 20 _ (by decide)).mono ?_
  rintro e w2 ⟨rfl, rfl⟩
  have hs0 : (shortOf s 20).size ≤ 20 := shortOf_le s 20
  generalize shortOf s 20 = s0 at hs0 ⊢
  go_wp2_with fail
  have hSz : (B ++ s0).size ≤ 10000 := by rw [ByteArray.size_append]; omega
  have hbk := HBK.out (B ++ s0) (bts s0) (by rw [bts_append, H4.out.2.2.2])
  rw [← H4.out.2.2.1] at hbk
  generalize B ++ s0 = S at hSz hbk ⊢
  have HR := Lib.hid hbk; clear hbk
  refine (Of_any S _ (by omega)).mono ?_
  rintro e w6 ⟨g, rfl, hr6, hx6, hg6⟩
  have H6 := Lib.hid (And.intro hr6 (And.intro hx6 hg6)); clear hr6 hx6 hg6
  go_wp2_with fail
  refine (Read_all w2 w6 g S X.length (by omega) H6.out.1 H6.out.2.1 H6.out.2.2 (H.out.2.2.1.ext H4.out.1)).mono ?_
  rintro e w7 ⟨v7, rfl, hn7, hr7, ho7⟩
  rw [HR.out] at hn7 hr7
  have hx7 : Ext w2 w7 := Below.trans H6.out.2.1 (ho7.below H6.out.2.2 H6.out.2.1.size)
  have H7 := Lib.hid (And.intro hn7 (And.intro hr7 (H4.out.1.trans hx7)))
  have hi7 := H4.out.2.1.ext hx7
  have HI7 := Lib.hid hi7; clear hn7 hr7 ho7 hx7 hi7
  go_wp2_with fail
  refine (SameC_of X X _ v7 w7 HI7.out H7.out.1.isCells (Nat.le_trans HY.out.2.1 (by decide))).mono ?_
  rintro e w9 ⟨rfl, hx9⟩
  rw [decide_eq_true (rfl : X = X)]
  have hE9 : ErrType w9 := H.out.2.2.2.ext (H7.out.2.2.trans hx9)
  have H9 := Lib.hid (And.intro (Blk.ext H7.out.2.1 hx9) (And.intro (H7.out.1.isCells.ext hx9) (And.intro hE9 (H7.out.2.2.trans hx9)))); clear hE9 hx9
  have hR9 := fun (W : World) (hW : Ext w9 W) => Right_of X v7 W (H9.out.2.1.ext hW) (H.out.2.2.1.ext (H9.out.2.2.2.trans hW)) (Nat.le_trans HY.out.2.1 (by decide))
  rw [HY.out.2.2] at hR9
  have HR9 := Lib.hid hR9; clear hR9
  go_wp2_with fail
  refine (At_row w9 g S B.size 0 H9.out.1).mono ?_
  rintro e wa ⟨rfl, rfl⟩
  go_wp2_with fail
  refine (Err_ok wa g S B.size H9.out.1).mono ?_
  rintro e wb ⟨rfl, xb⟩
  have HB := Lib.hid xb; clear xb
  go_wp2_with fail
  refine (Code_nil wb).mono ?_
  rintro e wd ⟨rfl, xd⟩
  have HD := Lib.hid (HB.out.trans xd); clear xd
  go_wp2_with fail
  refine (HR9.out wd HD.out).mono ?_
  rintro e we ⟨rfl, xe⟩
  have HE := Lib.hid (HD.out.trans xe); clear xe
  go_wp2_with fail
  go_ret
  exact ⟨rfl, H9.out.2.2.2.trans HE.out⟩
end Go.Proofs.YtcmllaeihnmkkaaDoor
