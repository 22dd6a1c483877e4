/- Trees as they are made: no code of nothing, no row of nothing. -/
import Derived.Test.YtlcnicgjlddldaaDoorPiles
namespace Go.Proofs.YtlcnicgjlddldaaDoor
open Go Go.RowKit

mutual
def Tr.good : Tr → Prop
  | .code c => c ≠ 0
  | .place _ t => t.good
  | .word _ t => t.good
  | .row ts => ts ≠ [] ∧ goodAll ts
def goodAll : List Tr → Prop
  | [] => True
  | t :: ts => t.good ∧ goodAll ts
end
theorem goodAll_of : ∀ {l : List Tr}, (∀ t, t ∈ l → t.good) → goodAll l
  | [], _ => by simp [goodAll]
  | t :: ts, h => by
    rw [goodAll]
    exact ⟨h t (by simp), goodAll_of fun u hu => h u (by simp [hu])⟩
def Goods (us : List (Option Tr)) : Prop := ∀ t, some t ∈ us → t.good
theorem Goods.nil : Goods [] := fun t h => by cases h
theorem Goods.take {us : List (Option Tr)} (h : Goods us) (k : Nat) : Goods (us.take k) := fun t ht => h t (List.mem_of_mem_take ht)
theorem Goods.drop {us : List (Option Tr)} (h : Goods us) (k : Nat) : Goods (us.drop k) := fun t ht => h t (List.mem_of_mem_drop ht)
theorem Goods.snoc {us : List (Option Tr)} (h : Goods us) {x : Option Tr} (hx : ∀ t, x = some t → t.good) : Goods (us ++ [x]) := by
  intro t ht
  rcases List.mem_append.1 ht with h1 | h1
  · exact h t h1
  · exact hx t (List.mem_singleton.1 h1).symm
theorem Goods.set {us : List (Option Tr)} (h : Goods us) (n : Nat) {x : Option Tr} (hx : ∀ t, x = some t → t.good) : Goods (us.set n x) := by
  intro t ht
  rcases List.mem_or_eq_of_mem_set ht with h1 | h1
  · exact h t h1
  · exact hx t h1.symm
theorem Goods.at {us : List (Option Tr)} (h : Goods us) {n : Nat} {u : Option Tr} (hu : us[n]? = some u) : ∀ t, u = some t → t.good := by
  rintro t rfl
  exact h t (List.mem_of_getElem? hu)
theorem good_place {u : Option Tr} (h : ∀ t, u = some t → t.good) (p : Int) : ∀ t, u.map (Tr.place p) = some t → t.good := by
  intro t ht
  cases u with
  | none => cases ht
  | some s =>
    injection ht with ht
    rw [← ht, Tr.good]
    exact h s rfl
theorem good_word {u : Option Tr} (h : ∀ t, u = some t → t.good) (p : ByteArray) : ∀ t, u.map (Tr.word p) = some t → t.good := by
  intro t ht
  cases u with
  | none => cases ht
  | some s =>
    injection ht with ht
    rw [← ht, Tr.good]
    exact h s rfl
theorem good_code (c : Int) : ∀ t, codeO c = some t → t.good := by
  intro t ht
  unfold codeO at ht
  split at ht
  · cases ht
  · rename_i hc
    injection ht with ht
    rw [← ht, Tr.good]
    exact hc
theorem mem_somes : ∀ {l : List (Option Tr)} {t : Tr}, t ∈ somes l → some t ∈ l
  | [], t, h => by cases h
  | none :: l, t, h => List.mem_cons_of_mem _ (mem_somes (l := l) h)
  | some u :: l, t, h => by
    rcases List.mem_cons.1 (show t ∈ u :: somes l from h) with h1 | h1
    · rw [h1]; simp
    · exact List.mem_cons_of_mem _ (mem_somes h1)
theorem good_joined {us : List (Option Tr)} (h : Goods us) : ∀ t, joined us = some t → t.good := by
  intro t ht
  have hs : ∀ u, u ∈ somes us → u.good := fun u hu => h u (mem_somes hu)
  unfold joined at ht
  rcases hss : somes us with _ | ⟨t1, _ | ⟨t2, ts⟩⟩
  · rw [hss] at ht; cases ht
  · rw [hss] at ht
    injection ht with ht
    rw [← ht]
    exact hs t1 (by rw [hss]; simp)
  · rw [hss] at ht
    injection ht with ht
    rw [← ht, Tr.good]
    exact ⟨by simp, goodAll_of fun u hu => hs u (by rw [hss]; exact hu)⟩

/-! What is good has a text. -/
mutual
theorem good_text : ∀ {t : Tr}, t.good → t.text ≠ []
  | .code c, _ => by simp [Tr.text, codeText]
  | .place p t, _ => by simp [Tr.text]
  | .word s t, _ => by simp [Tr.text]
  | .row [], h => by rw [Tr.good] at h; exact absurd rfl h.1
  | .row (t :: ts), h => by
    rw [Tr.good, goodAll] at h
    rw [Tr.text, textAll]
    have := good_text h.2.1
    simp [this]
end
end Go.Proofs.YtlcnicgjlddldaaDoor
