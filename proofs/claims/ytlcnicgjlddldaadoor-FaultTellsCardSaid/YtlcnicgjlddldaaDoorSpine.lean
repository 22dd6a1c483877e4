/- What is around a fault, told by its tree: places, words. -/
import Derived.Test.YtlcnicgjlddldaaDoorGood
import Derived.Test.YtlcnicgjlddldaaDoorFaultN
import Derived.Test.YtlcnicgjlddldaaDoorFaultG
import Derived.Test.YtlcnicgjlddldaaDoorFaultE
namespace Go.Proofs.YtlcnicgjlddldaaDoor
open Go Go.RowKit
set_option linter.unusedVariables false

/-- A part without what it holds. -/
inductive SP where
  | code
  | place (p : Int)
  | word (s : ByteArray)
  | row
def Part.abs : Part → SP
  | .code _ => .code
  | .place p _ _ => .place p
  | .word s _ _ => .word s
  | .row _ => .row
mutual
def Tr.spine : Tr → List SP
  | .code _ => [.code]
  | .place p t => .place p :: t.spine
  | .word s t => .word s :: t.spine
  | .row ts => .row :: spineFirst ts
def spineFirst : List Tr → List SP
  | [] => []
  | t :: _ => t.spine
end
def spSum (s : Int) : List SP → Int
  | [] => s
  | .place p :: l => spSum (wrap64 (s + p)) l
  | .code :: l => spSum s l
  | .word _ :: l => spSum s l
  | .row :: l => spSum s l
def spIs : List SP → Bool
  | [] => false
  | .place _ :: _ => true
  | .code :: l => spIs l
  | .word _ :: l => spIs l
  | .row :: l => spIs l
def spWords : List SP → List ByteArray
  | [] => []
  | .word s :: l => s :: spWords l
  | .code :: l => spWords l
  | .place _ :: l => spWords l
  | .row :: l => spWords l
theorem placeSum_sp : ∀ (ps : List Part) (s : Int), List.foldl (fun s x => match x with | .place p _ _ => wrap64 (s + p) | _ => s) s ps = spSum s (ps.map Part.abs)
  | [], s => rfl
  | .place p u x :: l, s => placeSum_sp l (wrap64 (s + p))
  | .code c :: l, s => placeSum_sp l s
  | .word t u x :: l, s => placeSum_sp l s
  | .row r :: l, s => placeSum_sp l s
theorem placeIs_sp : ∀ (ps : List Part) (b : Bool), List.foldl (fun s x => match x with | .place _ _ _ => true | _ => s) b ps = (b || spIs (ps.map Part.abs))
  | [], b => by simp [spIs]
  | .place p u x :: l, b => by
    rw [List.foldl_cons, List.map_cons]
    show List.foldl _ true l = (b || true)
    rw [placeIs_sp l true]; simp
  | .code c :: l, b => placeIs_sp l b
  | .word t u x :: l, b => placeIs_sp l b
  | .row r :: l, b => placeIs_sp l b
theorem wordsOf_sp : ∀ (ps : List Part), wordsOf ps = spWords (ps.map Part.abs)
  | [] => rfl
  | .word s u x :: l => congrArg (s :: ·) (wordsOf_sp l)
  | .place p u x :: l => wordsOf_sp l
  | .code c :: l => wordsOf_sp l
  | .row r :: l => wordsOf_sp l
theorem wrap_range (n : Int) : -9223372036854775808 ≤ wrap64 n ∧ wrap64 n ≤ 9223372036854775807 := by unfold wrap64; omega
theorem spSum_range : ∀ (l : List SP) (s : Int), (-9223372036854775808 ≤ s ∧ s ≤ 9223372036854775807) → -9223372036854775808 ≤ spSum s l ∧ spSum s l ≤ 9223372036854775807
  | [], s, h => h
  | .place p :: l, s, h => spSum_range l _ (wrap_range _)
  | .code :: l, s, h => spSum_range l s h
  | .word _ :: l, s, h => spSum_range l s h
  | .row :: l, s, h => spSum_range l s h
theorem spSum_add : ∀ (l : List SP) (s : Int), (-9223372036854775808 ≤ s ∧ s ≤ 9223372036854775807) → spSum s l = wrap64 (spSum 0 l + s)
  | [], s, h => by show s = wrap64 (0 + s); unfold wrap64; omega
  | .place p :: l, s, h => by
    show spSum (wrap64 (s + p)) l = wrap64 (spSum (wrap64 (0 + p)) l + s)
    rw [spSum_add l _ (wrap_range _), spSum_add l (wrap64 (0 + p)) (wrap_range _)]
    unfold wrap64; omega
  | .code :: l, s, h => spSum_add l s h
  | .word _ :: l, s, h => spSum_add l s h
  | .row :: l, s, h => spSum_add l s h
theorem spSum_none : ∀ (l : List SP) (s : Int), spIs l = false → spSum s l = s
  | [], s, _ => rfl
  | .place p :: l, s, h => by cases h
  | .code :: l, s, h => spSum_none l s h
  | .word _ :: l, s, h => spSum_none l s h
  | .row :: l, s, h => spSum_none l s h
mutual
theorem Rep.toSpine {w : World} : ∀ {t : Tr} {v : Value}, Rep w t v → ∃ ps : List Part, Spine w v ps ∧ ps.map Part.abs = t.spine
  | .code c, v, h => ⟨[.code c], ⟨h.1, rfl⟩, by rw [Tr.spine]; rfl⟩
  | .place p t, v, ⟨u, x, e, _, h⟩ => by
    obtain ⟨ps, h1, h2⟩ := Rep.toSpine h
    exact ⟨.place p u x :: ps, ⟨e, h1⟩, by rw [Tr.spine, ← h2]; rfl⟩
  | .word s t, v, ⟨u, x, e, h⟩ => by
    obtain ⟨ps, h1, h2⟩ := Rep.toSpine h
    exact ⟨.word s u x :: ps, ⟨e, h1⟩, by rw [Tr.spine, ← h2]; rfl⟩
  | .row ts, v, ⟨r, b, off, cap, e, h0, h1, h2, h3, h4, h⟩ => by
    obtain ⟨u, x, ps, k0, k1, k2⟩ := RepAll.toSpine h (by intro e; rw [e] at h2; simp at h2)
    exact ⟨.row r :: ps, ⟨e, b, off, cap, ts, u, x, h0, by omega, h3, h, k0, k1⟩, by rw [Tr.spine, ← k2]; rfl⟩
theorem RepAll.toSpine {w : World} {b : Nat} : ∀ {off : Nat} {ts : List Tr}, RepAll w b off ts → ts ≠ [] → ∃ u x, ∃ ps : List Part, w.cell? ⟨b, off, none⟩ = some (.iface u x) ∧ Spine w (.iface u x) ps ∧ ps.map Part.abs = spineFirst ts
  | _, [], _, h => absurd rfl h
  | _, t :: ts, ⟨⟨u, x, hc, h⟩, _⟩, _ => by
    obtain ⟨ps, h1, h2⟩ := Rep.toSpine h
    exact ⟨u, x, ps, hc, h1, by rw [spineFirst]; exact h2⟩
end
def wordsLen : List SP → Nat
  | [] => 0
  | .word s :: l => s.size + 1 + wordsLen l
  | .code :: l => wordsLen l
  | .place _ :: l => wordsLen l
  | .row :: l => wordsLen l
theorem textAll_two (t : Tr) (ts : List Tr) (h : 2 ≤ (t :: ts).length) : t.text.length + 2 ≤ (textAll true (t :: ts)).length := by
  match ts, h with
  | u :: us, _ =>
    rw [textAll, textAll]
    simp
mutual
/-- Parts and words are no more than a text's bytes. -/
theorem Rep.spineLen {w : World} : ∀ {t : Tr} {v : Value}, Rep w t v → t.spine.length ≤ t.text.length ∧ wordsLen t.spine ≤ t.text.length
  | .code c, v, h => by rw [Tr.spine, Tr.text, codeText]; simp [wordsLen]
  | .place p t, v, ⟨u, x, e, _, h⟩ => by
    obtain ⟨h1, h2⟩ := Rep.spineLen h
    rw [Tr.spine, Tr.text]
    simp [wordsLen]; omega
  | .word s t, v, ⟨u, x, e, h⟩ => by
    obtain ⟨h1, h2⟩ := Rep.spineLen h
    rw [Tr.spine, Tr.text]
    have : s.data.toList.length = s.size := by rw [Array.length_toList]; rfl
    simp only [List.length_cons, List.length_append, wordsLen, List.length_nil, this]
    omega
  | .row ts, v, ⟨r, b, off, cap, e, h0, h1, h2, h3, h4, h⟩ => by
    obtain ⟨k1, k2⟩ := RepAll.spineLen h h2
    rw [Tr.spine, Tr.text]
    simp only [List.length_cons, wordsLen]
    omega
theorem RepAll.spineLen {w : World} {b : Nat} : ∀ {off : Nat} {ts : List Tr}, RepAll w b off ts → 2 ≤ ts.length → (spineFirst ts).length + 2 ≤ (textAll true ts).length ∧ wordsLen (spineFirst ts) ≤ (textAll true ts).length
  | _, [], _, h => by simp at h
  | _, t :: ts, ⟨⟨u, x, hc, h⟩, _⟩, h2 => by
    obtain ⟨k1, k2⟩ := Rep.spineLen h
    have := textAll_two t ts h2
    rw [spineFirst]
    omega
end
/-- The places' sum, whether there are any, the words. -/
def Tr.sum (t : Tr) : Int := spSum 0 t.spine
def Tr.placed (t : Tr) : Bool := spIs t.spine
def Tr.path (t : Tr) : List UInt8 := Lib.join ((spWords t.spine).map (·.data.toList)) [47]
theorem wordsLen_eq : ∀ (l : List SP), wordsLen l = Lib.lens ((spWords l).map (·.data.toList)) + (spWords l).length
  | [] => rfl
  | .word s :: l => by
    have hs : s.data.toList.length = s.size := by rw [Array.length_toList]; rfl
    have hc : Lib.lens (s.data.toList :: (spWords l).map (·.data.toList)) = s.data.toList.length + Lib.lens ((spWords l).map (·.data.toList)) := by simp [Lib.lens]
    rw [wordsLen, wordsLen_eq l, spWords, List.map_cons, hc, List.length_cons, hs]
    omega
  | .code :: l => wordsLen_eq l
  | .place _ :: l => wordsLen_eq l
  | .row :: l => wordsLen_eq l
theorem join_le (l : List SP) : (Lib.join ((spWords l).map (·.data.toList)) [47]).length ≤ wordsLen l := by
  rw [wordsLen_eq]
  cases spWords l with
  | nil => simp [Lib.join_nil]
  | cons s r =>
    rw [List.map_cons, Lib.join_length, List.length_map]
    simp
    omega
theorem Place_rep (t : Tr) (v : Value) (w : World) (h : Rep w t v) : Calls Tryd.prog 13 #[v] w fun e w' => e = .returned (.tuple #[.int .i64 t.sum, .bool t.placed]) ∧ Ext w w' := by
  obtain ⟨ps, h1, h2⟩ := Rep.toSpine h
  refine (callsIn_wide.1 (Place_in 5 (Nat.le_refl _) v ps w h1)).mono ?_
  rintro e w' ⟨rfl, hx⟩
  have e1 : placeSum ps = t.sum := (placeSum_sp ps 0).trans (by rw [h2]; rfl)
  have e2 : placeIs ps = t.placed := (placeIs_sp ps false).trans (by rw [h2, Bool.false_or]; rfl)
  rw [e1, e2]
  exact ⟨rfl, hx⟩
theorem Path_rep (t : Tr) (v : Value) (w : World) (h : Rep w t v) (hl : t.text.length ≤ 1000000) : Calls Tryd.prog 17 #[v] w fun e w' => e = .returned (.string ⟨t.path.toArray⟩) ∧ Ext w w' := by
  obtain ⟨ps, h1, h2⟩ := Rep.toSpine h
  obtain ⟨k1, k2⟩ := Rep.spineLen h
  have e1 : pathOf ps = t.path := by unfold pathOf Tr.path; rw [wordsOf_sp, h2]
  have e2 : ps.length ≤ 1000000 := by
    have := congrArg List.length h2
    rw [List.length_map] at this
    omega
  have e3 := join_le t.spine
  refine (callsIn_wide.1 (Path_in 5 (Nat.le_refl _) v ps w h1 e2 (by rw [e1]; show (Lib.join _ _).length ≤ _; omega))).mono ?_
  rintro e w' ⟨rfl, hx⟩
  rw [e1]
  exact ⟨rfl, hx⟩
mutual
theorem good_code_ne : ∀ {t : Tr}, t.good → t.codeOf ≠ 0
  | .code c, h => by rw [Tr.good] at h; rw [Tr.codeOf]; exact h
  | .place p t, h => by rw [Tr.good] at h; rw [Tr.codeOf]; exact good_code_ne h
  | .word s t, h => by rw [Tr.good] at h; rw [Tr.codeOf]; exact good_code_ne h
  | .row [], h => by rw [Tr.good] at h; exact absurd rfl h.1
  | .row (t :: ts), h => by rw [Tr.good, goodAll] at h; rw [Tr.codeOf, codeFirst]; exact good_code_ne h.2.1
end
mutual
theorem good_has : ∀ {t : Tr}, t.good → t.has t.codeOf = true
  | .code c, h => by rw [Tr.codeOf, Tr.has]; simp
  | .place p t, h => by rw [Tr.good] at h; rw [Tr.codeOf, Tr.has]; exact good_has h
  | .word s t, h => by rw [Tr.good] at h; rw [Tr.codeOf, Tr.has]; exact good_has h
  | .row [], h => by rw [Tr.good] at h; exact absurd rfl h.1
  | .row (t :: ts), h => by rw [Tr.good, goodAll] at h; rw [Tr.codeOf, codeFirst, Tr.has, hasAny, good_has h.2.1]; rfl
end
mutual
theorem good_zero : ∀ {t : Tr}, t.good → t.has 0 = false
  | .code c, h => by rw [Tr.good] at h; rw [Tr.has]; simpa using h
  | .place p t, h => by rw [Tr.good] at h; rw [Tr.has]; exact good_zero h
  | .word s t, h => by rw [Tr.good] at h; rw [Tr.has]; exact good_zero h
  | .row ts, h => by rw [Tr.good] at h; rw [Tr.has]; exact goodAll_zero h.2
theorem goodAll_zero : ∀ {ts : List Tr}, goodAll ts → hasAny 0 ts = false
  | [], _ => by rw [hasAny]
  | t :: ts, h => by rw [goodAll] at h; rw [hasAny, good_zero h.1, goodAll_zero h.2]; rfl
end
end Go.Proofs.YtlcnicgjlddldaaDoor
