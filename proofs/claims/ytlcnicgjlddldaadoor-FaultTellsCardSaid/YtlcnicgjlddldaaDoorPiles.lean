/- Two piles of faults, the program's and the document's, in rows of their own. -/
import Derived.Test.YtlcnicgjlddldaaDoorRefB
namespace Go.Proofs.YtlcnicgjlddldaaDoor
open Go Go.RowKit

def Own (a b : Value) (k : Nat) : Prop := a.ownBlock = some k ∨ b.ownBlock = some k
def RepsA (S : Nat → Prop) (w : World) (us : List (Option Tr)) (vs : List Value) : Prop := ∀ (j : Nat) t, us[j]? = some t → ∃ v, vs[j]? = some v ∧ RepOS S w t v
def RepsB (S : Nat → Prop) (w : World) (us : List (Option Tr)) (cs : List Value) : Prop := ∀ (j : Nat) t, us[j]? = some t → ∃ ds, ds.length = 5 ∧ (∀ q, q < 5 → cs[j * 5 + q]? = ds[q]?) ∧ RefO S w t ds
theorem RepsA.kept {S T : Nat → Prop} {w w' : World} (hx : ExtBut S w w') (hT : ∀ k, T k → S k ∨ w.heap.size ≤ k) {us : List (Option Tr)} {vs : List Value} (h : RepsA S w us vs) : RepsA T w' us vs := fun j t hj =>
  let ⟨v, h1, h2⟩ := h j t hj
  ⟨v, h1, RepOS.kept hx hT h2⟩
theorem RepsB.kept {S T : Nat → Prop} {w w' : World} (hx : ExtBut S w w') (hT : ∀ k, T k → S k ∨ w.heap.size ≤ k) {us : List (Option Tr)} {vs : List Value} (h : RepsB S w us vs) : RepsB T w' us vs := fun j t hj =>
  let ⟨v, h1, h2, h3⟩ := h j t hj
  ⟨v, h1, h2, RefO.kept hx hT h3⟩
theorem RepsA.snoc {S : Nat → Prop} {w : World} {us : List (Option Tr)} {vs : List Value} (hl : vs.length = us.length) (h : RepsA S w us vs) {t : Option Tr} {v : Value} (hv : RepOS S w t v) : RepsA S w (us ++ [t]) (vs ++ [v]) := by
  intro j t' hj
  by_cases hlt : j < us.length
  · rw [List.getElem?_append_left hlt] at hj
    obtain ⟨v', h1, h2⟩ := h j t' hj
    exact ⟨v', by rw [List.getElem?_append_left (by omega)]; exact h1, h2⟩
  · rw [List.getElem?_append_right (by omega)] at hj
    have hj0 : j - us.length = 0 := by
      have := (List.getElem?_eq_some_iff.1 hj).1
      simp at this; omega
    rw [hj0] at hj
    obtain rfl : t = t' := by simpa using hj
    exact ⟨v, by rw [List.getElem?_append_right (by omega), hl, hj0]; rfl, hv⟩
theorem RepsB.snoc {S : Nat → Prop} {w : World} {us : List (Option Tr)} {cs : List Value} (hl : cs.length = us.length * 5) (h : RepsB S w us cs) {t : Option Tr} {ds : List Value} (hd : ds.length = 5) (hv : RefO S w t ds) : RepsB S w (us ++ [t]) (cs ++ ds) := by
  intro j t' hj
  by_cases hlt : j < us.length
  · rw [List.getElem?_append_left hlt] at hj
    obtain ⟨v', h1, h2, h3⟩ := h j t' hj
    exact ⟨v', h1, fun q hq => by rw [List.getElem?_append_left (by omega)]; exact h2 q hq, h3⟩
  · rw [List.getElem?_append_right (by omega)] at hj
    have hj0 : j - us.length = 0 := by
      have := (List.getElem?_eq_some_iff.1 hj).1
      simp at this; omega
    rw [hj0] at hj
    obtain rfl : t = t' := by simpa using hj
    exact ⟨ds, hd, fun q hq => by rw [List.getElem?_append_right (by omega)]; congr 1; omega, hv⟩
theorem RepsA.take {S : Nat → Prop} {w : World} {us : List (Option Tr)} {vs : List Value} (h : RepsA S w us vs) (k : Nat) : RepsA S w (us.take k) (vs.take k) := by
  intro j t hj
  have hjk : j < k := by have := (List.getElem?_eq_some_iff.1 hj).1; rw [List.length_take] at this; omega
  rw [List.getElem?_take, if_pos hjk] at hj
  obtain ⟨v, h1, h2⟩ := h j t hj
  exact ⟨v, by rw [List.getElem?_take, if_pos hjk]; exact h1, h2⟩
theorem RepsB.take {S : Nat → Prop} {w : World} {us : List (Option Tr)} {cs : List Value} (h : RepsB S w us cs) (k : Nat) : RepsB S w (us.take k) (cs.take (k * 5)) := by
  intro j t hj
  have hjk : j < k := by have := (List.getElem?_eq_some_iff.1 hj).1; rw [List.length_take] at this; omega
  rw [List.getElem?_take, if_pos hjk] at hj
  obtain ⟨v, h1, h2, h3⟩ := h j t hj
  exact ⟨v, h1, fun q hq => by rw [List.getElem?_take, if_pos (by omega)]; exact h2 q hq, h3⟩
theorem RepsA.set {S : Nat → Prop} {w : World} {us : List (Option Tr)} {vs : List Value} (h : RepsA S w us vs) (hl : vs.length = us.length) (n : Nat) {t : Option Tr} {v : Value} (hv : RepOS S w t v) : RepsA S w (us.set n t) (vs.set n v) := by
  intro j t' hj
  rw [List.getElem?_set] at hj ⊢
  by_cases hjn : n = j
  · subst hjn
    rw [if_pos rfl] at hj ⊢
    by_cases hlt : n < us.length
    · rw [if_pos hlt] at hj
      obtain rfl : t = t' := by simpa using hj
      exact ⟨v, by rw [if_pos (by omega)], hv⟩
    · rw [if_neg hlt] at hj; cases hj
  · rw [if_neg hjn] at hj ⊢
    exact h j t' hj
def set5 (cs : List Value) (o : Nat) (x0 x1 x2 x3 x4 : Value) : List Value := ((((cs.set o x0).set (o + 1) x1).set (o + 2) x2).set (o + 3) x3).set (o + 4) x4
theorem set5_length (cs : List Value) (o : Nat) (x0 x1 x2 x3 x4 : Value) : (set5 cs o x0 x1 x2 x3 x4).length = cs.length := by simp [set5]
theorem RepsB.set {S : Nat → Prop} {w : World} {us : List (Option Tr)} {cs : List Value} (h : RepsB S w us cs) (hl : cs.length = us.length * 5) (n : Nat) {t : Option Tr} {x0 x1 x2 x3 x4 : Value} (hv : RefO S w t [x0, x1, x2, x3, x4]) : RepsB S w (us.set n t) (set5 cs (n * 5) x0 x1 x2 x3 x4) := by
  intro j t' hj
  have hjl : j < us.length := by have := (List.getElem?_eq_some_iff.1 hj).1; simpa using this
  rw [List.getElem?_set] at hj
  by_cases hjn : n = j
  · subst hjn
    rw [if_pos rfl, if_pos hjl] at hj
    obtain rfl : t = t' := by simpa using hj
    refine ⟨[x0, x1, x2, x3, x4], rfl, fun q hq => ?_, hv⟩
    unfold set5
    match q, hq with
    | 0, _ => rw [List.getElem?_set, if_neg (by omega), List.getElem?_set, if_neg (by omega), List.getElem?_set, if_neg (by omega), List.getElem?_set, if_neg (by omega), List.getElem?_set, if_pos (by omega), if_pos (by omega)]; rfl
    | 1, _ => rw [List.getElem?_set, if_neg (by omega), List.getElem?_set, if_neg (by omega), List.getElem?_set, if_neg (by omega), List.getElem?_set, if_pos (by omega), if_pos (by simp only [List.length_set]; omega)]; rfl
    | 2, _ => rw [List.getElem?_set, if_neg (by omega), List.getElem?_set, if_neg (by omega), List.getElem?_set, if_pos (by omega), if_pos (by simp only [List.length_set]; omega)]; rfl
    | 3, _ => rw [List.getElem?_set, if_neg (by omega), List.getElem?_set, if_pos (by omega), if_pos (by simp only [List.length_set]; omega)]; rfl
    | 4, _ => rw [List.getElem?_set, if_pos (by omega), if_pos (by simp only [List.length_set]; omega)]; rfl
  · rw [if_neg hjn] at hj
    obtain ⟨v', h1, h2, h3⟩ := h j t' hj
    refine ⟨v', h1, fun q hq => ?_, h3⟩
    rw [← h2 q hq]
    unfold set5
    rw [List.getElem?_set, if_neg (by omega), List.getElem?_set, if_neg (by omega), List.getElem?_set, if_neg (by omega), List.getElem?_set, if_neg (by omega), List.getElem?_set, if_neg (by omega)]

/-- The piles of the program and of the document, as they stand. -/
structure Piles (w wr : World) (a b : Value) (ua ub : List (Option Tr)) (vs cs : List Value) : Prop where
  below : Below w.heap.size w wr
  owna : wr.ownsRow w.heap.size 31 1 a ua.length vs
  ownb : wr.ownsRow w.heap.size 37 5 b ub.length cs
  ne : ∀ k, a.ownBlock = some k → b.ownBlock ≠ some k
  repa : RepsA (Own a b) wr ua vs
  repb : RepsB (Own a b) wr ub cs
theorem Piles.lt {w wr : World} {a b : Value} {ua ub : List (Option Tr)} {vs cs : List Value} (h : Piles w wr a b ua ub vs cs) : ∀ k, Own a b k → w.heap.size ≤ k ∧ k < wr.heap.size := by
  intro k hk
  rcases hk with hk | hk
  · exact h.owna.lt k hk
  · exact h.ownb.lt k hk
theorem Piles.ext {w wr w' : World} {a b : Value} {ua ub : List (Option Tr)} {vs cs : List Value} (h : Piles w wr a b ua ub vs cs) (hx : Ext wr w') : Piles w w' a b ua ub vs cs :=
  ⟨Below.trans h.below (Below.mono hx h.below.size), ownsRow_ext hx h.owna, ownsRow_ext hx h.ownb, h.ne, h.repa.kept (hx.but _) (fun _ h => .inl h), h.repb.kept (hx.but _) (fun _ h => .inl h)⟩
theorem Piles.setA {w wr : World} {g n ca : Nat} {b : Value} {ua ub : List (Option Tr)} {vs cs : List Value} (h : Piles w wr (.slice (some ⟨g, 0, none⟩) ua.length ca) b ua ub vs cs) {t : Option Tr} {v : Value}
    (hv : RepOS (Own (.slice (some ⟨g, 0, none⟩) ua.length ca) b) wr t v) : Piles w (wr.setCell ⟨g, n, none⟩ v) (.slice (some ⟨g, 0, none⟩) ua.length ca) b (ua.set n t) ub (vs.set n v) cs := by
  have hS : Own (.slice (some ⟨g, 0, none⟩) ua.length ca) b g := .inl rfl
  have hx := ExtBut.setCell (S := Own (.slice (some ⟨g, 0, none⟩) ua.length ca) b) wr ⟨g, n, none⟩ v hS
  refine ⟨h.below.setCell (p := ⟨g, n, none⟩) (h.lt g hS).1 v, ?_, ownsRow_setCell_other h.ownb (h.ne g rfl) v, h.ne, ?_, h.repb.kept hx (fun _ h => .inl h)⟩
  · rw [List.length_set]
    exact (h.owna.stored n v).1
  · exact RepsA.set (h.repa.kept hx (fun _ h => .inl h)) (by have := h.owna.1; omega) n (RepOS.kept hx (fun _ h => .inl h) hv)
theorem ExtBut.five {S : Nat → Prop} (w : World) (g o : Nat) (hg : S g) (x0 x1 x2 x3 x4 : Value) :
    ExtBut S w (((((w.setCell ⟨g, o, none⟩ x0).setCell ⟨g, o + 1, none⟩ x1).setCell ⟨g, o + 2, none⟩ x2).setCell ⟨g, o + 3, none⟩ x3).setCell ⟨g, o + 4, none⟩ x4) :=
  ((((ExtBut.setCell (S := S) w ⟨g, o, none⟩ x0 hg).trans (ExtBut.setCell (S := S) _ ⟨g, o + 1, none⟩ x1 hg)).trans (ExtBut.setCell (S := S) _ ⟨g, o + 2, none⟩ x2 hg)).trans (ExtBut.setCell (S := S) _ ⟨g, o + 3, none⟩ x3 hg)).trans (ExtBut.setCell (S := S) _ ⟨g, o + 4, none⟩ x4 hg)
theorem Piles.setB {w wr : World} {g n cb : Nat} {a : Value} {ua ub : List (Option Tr)} {vs cs : List Value} (h : Piles w wr a (.slice (some ⟨g, 0, none⟩) ub.length cb) ua ub vs cs) {t : Option Tr} {x0 x1 x2 x3 x4 : Value}
    (hv : RefO (Own a (.slice (some ⟨g, 0, none⟩) ub.length cb)) wr t [x0, x1, x2, x3, x4]) :
    Piles w (((((wr.setCell ⟨g, n * 5, none⟩ x0).setCell ⟨g, n * 5 + 1, none⟩ x1).setCell ⟨g, n * 5 + 2, none⟩ x2).setCell ⟨g, n * 5 + 3, none⟩ x3).setCell ⟨g, n * 5 + 4, none⟩ x4) a (.slice (some ⟨g, 0, none⟩) ub.length cb) ua (ub.set n t) vs (set5 cs (n * 5) x0 x1 x2 x3 x4) := by
  have hS : Own a (.slice (some ⟨g, 0, none⟩) ub.length cb) g := .inr rfl
  have hgl := (h.lt g hS).1
  have hag : a.ownBlock ≠ some g := fun e => h.ne g e rfl
  have hx := ExtBut.five (S := Own a (.slice (some ⟨g, 0, none⟩) ub.length cb)) wr g (n * 5) hS x0 x1 x2 x3 x4
  refine ⟨((((h.below.setCell (p := ⟨g, n * 5, none⟩) hgl x0).setCell (p := ⟨g, n * 5 + 1, none⟩) hgl x1).setCell (p := ⟨g, n * 5 + 2, none⟩) hgl x2).setCell (p := ⟨g, n * 5 + 3, none⟩) hgl x3).setCell (p := ⟨g, n * 5 + 4, none⟩) hgl x4,
    ownsRow_setCell_other (ownsRow_setCell_other (ownsRow_setCell_other (ownsRow_setCell_other (ownsRow_setCell_other h.owna hag x0) hag x1) hag x2) hag x3) hag x4, ?_, h.ne, h.repa.kept hx (fun _ h => .inl h), ?_⟩
  · rw [List.length_set]
    exact (((((h.ownb.stored _ x0).1.stored _ x1).1.stored _ x2).1.stored _ x3).1.stored _ x4).1
  · exact RepsB.set (h.repb.kept hx (fun _ h => .inl h)) (by have := h.ownb.1; omega) n (RefO.kept hx (fun _ h => .inl h) hv)
theorem grown_but {S : Nat → Prop} {w w' : World} {row : Option Nat} (h : w.grownBy w' row) (hS : ∀ k, row = some k → S k) : ExtBut S w w' := ⟨h.os, h.tape, h.output, h.size, fun k hk hn => h.block k hk fun e => hn (hS k e.symm)⟩
theorem Piles.newA {w wx w1 : World} {a b : Value} {ua ub ua' : List (Option Tr)} {vs cs vs' : List Value} (h : Piles w wx a b ua ub vs cs) (hg : wx.grownBy w1 a.ownBlock) {g n ca : Nat} (hat : a.ownBlock = some g ∨ wx.heap.size ≤ g)
    (hown : w1.ownsRow w.heap.size 31 1 (.slice (some ⟨g, 0, none⟩) n ca) ua'.length vs') (hr : RepsA (Own a b) wx ua' vs') : Piles w w1 (.slice (some ⟨g, 0, none⟩) n ca) b ua' ub vs' cs := by
  have hx : ExtBut (Own a b) wx w1 := grown_but hg fun k e => .inl e
  have hT : ∀ k, Own (.slice (some ⟨g, 0, none⟩) n ca) b k → Own a b k ∨ wx.heap.size ≤ k := by
    intro k hk
    rcases hk with hk | hk
    · have e : g = k := by simpa [Value.ownBlock] using hk
      subst e
      rcases hat with h1 | h1
      · exact .inl (.inl h1)
      · exact .inr h1
    · exact .inl (.inr hk)
  have hne : ∀ k, (Value.slice (some ⟨g, 0, none⟩) n ca).ownBlock = some k → b.ownBlock ≠ some k := by
    intro k hk hb
    have e : g = k := by simpa [Value.ownBlock] using hk
    subst e
    rcases hat with h1 | h1
    · exact h.ne _ h1 hb
    · have := h.ownb.lt _ hb; omega
  refine ⟨h.below.grown hg h.below.size (fun k ek => (h.owna.lt k ek).1), hown, h.ownb.kept hg ?_, hne, hr.kept hx hT, h.repb.kept hx hT⟩
  rcases hb : b.ownBlock with _ | k
  · exact .inl rfl
  · exact .inr fun e => h.ne k e.symm hb
theorem Piles.newB {w wx w1 : World} {a b : Value} {ua ub ub' : List (Option Tr)} {vs cs cs' : List Value} (h : Piles w wx a b ua ub vs cs) (hg : wx.grownBy w1 b.ownBlock) {g n cb : Nat} (hat : b.ownBlock = some g ∨ wx.heap.size ≤ g)
    (hown : w1.ownsRow w.heap.size 37 5 (.slice (some ⟨g, 0, none⟩) n cb) ub'.length cs') (hr : RepsB (Own a b) wx ub' cs') : Piles w w1 a (.slice (some ⟨g, 0, none⟩) n cb) ua ub' vs cs' := by
  have hx : ExtBut (Own a b) wx w1 := grown_but hg fun k e => .inr e
  have hT : ∀ k, Own a (.slice (some ⟨g, 0, none⟩) n cb) k → Own a b k ∨ wx.heap.size ≤ k := by
    intro k hk
    rcases hk with hk | hk
    · exact .inl (.inl hk)
    · have e : g = k := by simpa [Value.ownBlock] using hk
      subst e
      rcases hat with h1 | h1
      · exact .inl (.inr h1)
      · exact .inr h1
  have hne : ∀ k, a.ownBlock = some k → (Value.slice (some ⟨g, 0, none⟩) n cb).ownBlock ≠ some k := by
    intro k hk hb
    have e : g = k := by simpa [Value.ownBlock] using hb
    subst e
    rcases hat with h1 | h1
    · exact h.ne _ hk h1
    · have := h.owna.lt _ hk; omega
  refine ⟨h.below.grown hg h.below.size (fun k ek => (h.ownb.lt k ek).1), h.owna.kept hg ?_, hown, hne, h.repa.kept hx hT, hr.kept hx hT⟩
  rcases ha : a.ownBlock with _ | k
  · exact .inl rfl
  · exact .inr fun e => h.ne k ha e.symm
/-- A part of the program's pile, as Join takes it. -/
theorem Piles.errsA {w wr : World} {g ca : Nat} {b : Value} {ua ub : List (Option Tr)} {vs cs : List Value} (h : Piles w wr (.slice (some ⟨g, 0, none⟩) ua.length ca) b ua ub vs cs) (k : Nat) : ErrsS (Own (.slice (some ⟨g, 0, none⟩) ua.length ca) b) wr g k (ua.drop k) := by
  intro j t hj
  rw [List.getElem?_drop] at hj
  obtain ⟨v, h1, h2⟩ := h.repa _ t hj
  have hl := (List.getElem?_eq_some_iff.1 hj).1
  exact ⟨v, by rw [h.owna.cellAt (k + j) (by omega)]; exact h1, h2⟩
theorem Piles.errsB {w wr : World} {g cb : Nat} {a : Value} {ua ub : List (Option Tr)} {vs cs : List Value} (h : Piles w wr a (.slice (some ⟨g, 0, none⟩) ub.length cb) ua ub vs cs) (k : Nat) : RefErrs (Own a (.slice (some ⟨g, 0, none⟩) ub.length cb)) wr g (k * 5) (ub.drop k) := by
  intro j t hj
  rw [List.getElem?_drop] at hj
  obtain ⟨ds, h1, h2, h3⟩ := h.repb _ t hj
  have hl := (List.getElem?_eq_some_iff.1 hj).1
  refine ⟨ds, h1, fun q u hq => ?_, h3⟩
  have hq5 : q < 5 := by have := (List.getElem?_eq_some_iff.1 hq).1; omega
  rw [show k * 5 + j * 5 + q = (k + j) * 5 + q from by omega, h.ownb.cellAt ((k + j) * 5 + q) (by omega), h2 q hq5]
  exact hq

/-! How long texts can be. -/
def tlen : Option Tr → Nat
  | none => 0
  | some t => t.text.length
def tsum : List (Option Tr) → Nat
  | [] => 0
  | t :: l => tlen t + tsum l
theorem tsum_append (l m : List (Option Tr)) : tsum (l ++ m) = tsum l + tsum m := by
  induction l with
  | nil => simp [tsum]
  | cons t l ih => simp only [List.cons_append, tsum, ih]; omega
theorem tsum_set (l : List (Option Tr)) (n : Nat) (u t : Option Tr) (hu : l[n]? = some u) (k : Nat) (hk : tlen t ≤ tlen u + k) : tsum (l.set n t) ≤ tsum l + k := by
  induction l generalizing n with
  | nil => simp at hu
  | cons x l ih =>
    cases n with
    | zero =>
      obtain rfl : x = u := by simpa using hu
      simp only [List.set_cons_zero, tsum]; omega
    | succ n =>
      have := ih n (by simpa using hu)
      simp only [List.set_cons_succ, tsum]; omega
theorem textAll_length (f : Bool) : ∀ ts : List Tr, (textAll f ts).length ≤ (tsum (ts.map some)) + 2 * ts.length
  | [] => by simp [textAll]
  | t :: ts => by
    have := textAll_length false ts
    have h2 : (if f then [] else [59, 32] : List UInt8).length ≤ 2 := by cases f <;> simp
    simp only [textAll, List.length_append, List.map_cons, tsum, tlen, List.length_cons]; omega
theorem tsum_somes (l : List (Option Tr)) : tsum ((somes l).map some) = tsum l := by
  induction l with
  | nil => rfl
  | cons t l ih => cases t <;> simp [somes, tsum, tlen, ih]
theorem tlen_joined (l : List (Option Tr)) : tlen (joined l) ≤ tsum l + 2 * l.length := by
  have h1 := tsum_somes l
  have h2 := somes_le l
  unfold joined
  rcases h : somes l with _ | ⟨t, _ | ⟨u, m⟩⟩
  · simp [tlen]
  · rw [h] at h1; simp [tsum] at h1; dsimp only; omega
  · have := textAll_length true (t :: u :: m)
    rw [← h, h1] at this
    rw [h] at this
    show (textAll true (t :: u :: m)).length ≤ _
    rw [h] at h2
    omega
def codeO (c : Int) : Option Tr := if c = 0 then none else some (.code c)
theorem tlen_code (c : Int) (h0 : -9223372036854775808 ≤ c) (h1 : c ≤ 9223372036854775807) : tlen (codeO c) ≤ 35 := by
  have := Lib.itoa_length_le c h0 h1
  unfold codeO
  split
  · simp [tlen]
  · simp only [tlen, Tr.text, codeText, List.length_append, List.length_cons, List.length_nil]; omega
theorem tlen_place (p : Int) (h0 : -9223372036854775808 ≤ p) (h1 : p ≤ 9223372036854775807) (u : Option Tr) : tlen (u.map (.place p)) ≤ tlen u + 26 := by
  have := Lib.itoa_length_le p h0 h1
  cases u with
  | none => simp [tlen]
  | some t => simp only [Option.map_some, tlen, Tr.text, List.length_append, List.length_cons, List.length_nil]; omega
theorem tlen_word (s : ByteArray) (h : s.size ≤ 8) (u : Option Tr) : tlen (u.map (.word s)) ≤ tlen u + 10 := by
  have : s.data.toList.length = s.size := rfl
  cases u with
  | none => simp [tlen]
  | some t => simp only [Option.map_some, tlen, Tr.text, List.length_append, List.length_cons, List.length_nil]; omega
theorem New_rep (S : Nat → Prop) (c : Int) (w : World) (h0 : -9223372036854775808 ≤ c) (h1 : c ≤ 9223372036854775807) : Calls Tryd.prog 26 #[.int .i64 c] w fun e w' => ∃ v, e = .returned v ∧ RepOS S w' (codeO c) v ∧ w' = w := by
  by_cases hc : c = 0
  · subst hc
    refine (new_ok w).mono ?_
    rintro e w' ⟨rfl, rfl⟩
    exact ⟨_, rfl, rfl, rfl⟩
  · refine (new_code c w hc).mono ?_
    rintro e w' ⟨rfl, rfl⟩
    refine ⟨_, rfl, ?_, rfl⟩
    rw [codeO, if_neg hc]
    exact ⟨rfl, hc, h0, h1⟩
theorem refNew_rep (S : Nat → Prop) (c : Int) (w : World) : Calls Tryd.prog 37 #[.int .i64 c] w fun e w' => ∃ cs, e = .returned (.agg cs.toArray) ∧ RefO S w' (codeO c) cs ∧ Ext w w' := by
  by_cases hc : c = 0
  · subst hc
    exact refNew_zero S w
  · rw [codeO, if_neg hc]
    exact refNew_code S c w hc
theorem i64_and7 (n : Int) : bits .and .i64 n 7 = n % 8 := by
  have h127 : (BitVec.ofInt 64 7).toNat = 2 ^ 3 - 1 := by decide
  have key : (BitVec.ofInt 64 n &&& BitVec.ofInt 64 7).toNat = (n % ((2 ^ 64 : Nat) : Int)).toNat % 2 ^ 3 := by
    rw [BitVec.toNat_and, BitVec.toNat_ofInt, h127, Nat.and_two_pow_sub_one_eq_mod]
  show IntKind.i64.wrap ((BitVec.ofInt 64 n &&& BitVec.ofInt 64 7).toNat : Nat) = n % 8
  rw [key, IntKind.wrap_i64]
  omega
theorem i64_and3 (n : Int) : bits .and .i64 n 3 = n % 4 := by
  have h127 : (BitVec.ofInt 64 3).toNat = 2 ^ 2 - 1 := by decide
  have key : (BitVec.ofInt 64 n &&& BitVec.ofInt 64 3).toNat = (n % ((2 ^ 64 : Nat) : Int)).toNat % 2 ^ 2 := by
    rw [BitVec.toNat_and, BitVec.toNat_ofInt, h127, Nat.and_two_pow_sub_one_eq_mod]
  show IntKind.i64.wrap ((BitVec.ofInt 64 n &&& BitVec.ofInt 64 3).toNat : Nat) = n % 4
  rw [key, IntKind.wrap_i64]
  omega
theorem i64_and31 (n : Int) : bits .and .i64 n 31 = n % 32 := by
  have h127 : (BitVec.ofInt 64 31).toNat = 2 ^ 5 - 1 := by decide
  have key : (BitVec.ofInt 64 n &&& BitVec.ofInt 64 31).toNat = (n % ((2 ^ 64 : Nat) : Int)).toNat % 2 ^ 5 := by
    rw [BitVec.toNat_and, BitVec.toNat_ofInt, h127, Nat.and_two_pow_sub_one_eq_mod]
  show IntKind.i64.wrap ((BitVec.ofInt 64 n &&& BitVec.ofInt 64 31).toNat : Nat) = n % 32
  rw [key, IntKind.wrap_i64]
  omega
end Go.Proofs.YtlcnicgjlddldaaDoor
