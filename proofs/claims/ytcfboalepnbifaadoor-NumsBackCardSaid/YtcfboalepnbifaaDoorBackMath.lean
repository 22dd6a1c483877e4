/- What was put is read: words of no program. -/
import Derived.Test.YtcfboalepnbifaaDoorText
import Derived.Test.YtcfboalepnbifaaDoorPutAll
namespace Go.Proofs.YtcfboalepnbifaaDoor
open Go Go.RowKit

theorem numAt_enc (s : ByteArray) (p : Nat) (lo hi n : Int) (rest : List UInt8) (hd : (bts s).drop p = encN (foldN n) ++ rest) (hn : isI64 n) (h1 : lo ≤ n) (h2 : n ≤ hi) : numAt s p lo hi = (n, (encN (foldN n)).length, 0) := by
  unfold numAt
  rw [hd, rd_enc0 _ _ (foldN_lt hn.1 hn.2)]
  unfold numR
  dsimp only
  rw [unfold_fold, if_neg (by omega)]
theorem fold_len (m : Nat) : foldN (m : Int) = 2 * m := by unfold foldN; rw [if_pos (by omega)]; omega
theorem textAt_enc (s : ByteArray) (p : Nat) (hi : Int) (m rest : List UInt8) (hd : (bts s).drop p = encN (2 * m.length) ++ (m ++ rest)) (hm : m.length ≤ 1000000) (h : (m.length : Int) ≤ hi) :
    textAt s p hi = (⟨m.toArray⟩, p + (encN (2 * m.length)).length + m.length, 0) := by
  have hl := congrArg List.length hd
  have hp := encN_pos (2 * m.length)
  rw [List.length_drop, bts_len, List.length_append, List.length_append] at hl
  have e := numAt_enc s p 0 hi m.length (m ++ rest) (by rw [fold_len]; exact hd) (by unfold isI64; omega) (by omega) h
  rw [fold_len] at e
  unfold textAt
  rw [e]
  dsimp only
  rw [if_neg (by omega), Int.toNat_natCast]
  have hb : s.extract (p + (encN (2 * m.length)).length) (p + (encN (2 * m.length)).length + m.length) = ⟨m.toArray⟩ := by
    apply ba_ext
    rw [bts_mk m, bts_extract, List.drop_take, Nat.add_sub_cancel_left, ← List.drop_drop, hd, List.drop_left, List.take_left]
  rw [hb]
/-- The bytes of a text, numbers, a text. -/
def packed (a : List UInt8) (ys : List Int) (b : List UInt8) : List UInt8 := (encN (2 * a.length) ++ a) ++ putN ys ++ (encN (2 * b.length) ++ b)
def packP (a : List UInt8) (ys : List Int) (i : Nat) : Nat := (encN (2 * a.length)).length + a.length + (putN (ys.take i)).length
theorem packed_drop (a : List UInt8) (ys : List Int) (b : List UInt8) (i : Nat) : (packed a ys b).drop (packP a ys i) = putN (ys.drop i) ++ (encN (2 * b.length) ++ b) := by
  unfold packed packP
  have e : putN ys = putN (ys.take i) ++ putN (ys.drop i) := by rw [← putN_append, List.take_append_drop]
  rw [e]
  generalize encN (2 * b.length) ++ b = T
  rw [show (encN (2 * a.length)).length + a.length + (putN (ys.take i)).length = (encN (2 * a.length) ++ a ++ putN (ys.take i)).length from by simp only [List.length_append],
    show encN (2 * a.length) ++ a ++ (putN (ys.take i) ++ putN (ys.drop i)) ++ T = (encN (2 * a.length) ++ a ++ putN (ys.take i)) ++ (putN (ys.drop i) ++ T) from by simp [List.append_assoc]]
  exact List.drop_left
theorem packed_len (a : List UInt8) (ys : List Int) (b : List UInt8) : (packed a ys b).length = packP a ys ys.length + ((encN (2 * b.length)).length + b.length) := by
  unfold packed packP
  rw [List.length_append, List.length_append, List.length_append, List.length_append, List.take_length]
theorem packP_step (a : List UInt8) (ys : List Int) (i : Nat) (n : Int) (h : ys[i]? = some n) : packP a ys i + (encN (foldN n)).length = packP a ys (i + 1) := by
  unfold packP
  rw [putN_take ys i n h, List.length_append]
  omega
theorem packP_le (a : List UInt8) (ys : List Int) (i : Nat) : packP a ys i ≤ packP a ys ys.length := by
  unfold packP
  rw [List.take_length]
  have e : putN ys = putN (ys.take i) ++ putN (ys.drop i) := by rw [← putN_append, List.take_append_drop]
  have h := congrArg List.length e
  rw [List.length_append] at h
  omega
theorem pack_first (a : List UInt8) (ys : List Int) (b : List UInt8) (B : ByteArray) (hB : bts B = packed a ys b) (ha : a.length ≤ 100) : textAt B 0 100 = (⟨a.toArray⟩, packP a ys 0, 0) := by
  rw [textAt_enc B 0 100 a (putN ys ++ (encN (2 * b.length) ++ b)) (by rw [hB]; unfold packed; simp [List.append_assoc]) (by omega) (by omega)]
  unfold packP
  simp [putN]
theorem pack_num (a : List UInt8) (ys : List Int) (b : List UInt8) (B : ByteArray) (hB : bts B = packed a ys b) (i : Nat) (n : Int) (h : ys[i]? = some n) (hn : isI64 n) : numAt B (packP a ys i) n n = (n, (encN (foldN n)).length, 0) := by
  refine numAt_enc B _ n n n (putN (ys.drop (i + 1)) ++ (encN (2 * b.length) ++ b)) ?_ hn (Int.le_refl _) (Int.le_refl _)
  rw [hB, packed_drop]
  have hl := (List.getElem?_eq_some_iff.1 h).1
  have hd : ys.drop i = n :: ys.drop (i + 1) := by
    rw [List.drop_eq_getElem_cons hl]
    congr 1
    exact (List.getElem?_eq_some_iff.1 h).2
  rw [hd, show n :: ys.drop (i + 1) = [n] ++ ys.drop (i + 1) from rfl, putN_append, putN_one, List.append_assoc]
theorem pack_last (a : List UInt8) (ys : List Int) (b : List UInt8) (B : ByteArray) (hB : bts B = packed a ys b) (hb : b.length ≤ 100) : textAt B (packP a ys ys.length) b.length = (⟨b.toArray⟩, (packed a ys b).length, 0) := by
  rw [textAt_enc B _ b.length b [] (by rw [hB, packed_drop, List.drop_length]; simp [putN]) (by omega) (Int.le_refl _), packed_len]
  rw [Nat.add_assoc]
end Go.Proofs.YtcfboalepnbifaaDoor
