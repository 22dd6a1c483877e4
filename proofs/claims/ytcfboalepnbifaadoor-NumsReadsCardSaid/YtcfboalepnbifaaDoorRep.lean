/- Faults as trees, and how an error in memory is read as one. -/
import Derived.Test.YtcfboalepnbifaaDoorKit
import Derived.Lib.ItoaNum
import Derived.IntWalk
namespace Go.Proofs.YtcfboalepnbifaaDoor
open Go Go.RowKit

inductive Tr where
  | code (c : Int)
  | place (p : Int) (t : Tr)
  | word (s : ByteArray) (t : Tr)
  | row (ts : List Tr)

mutual
def Tr.sz : Tr → Nat
  | .code _ => 1
  | .place _ t => t.sz + 1
  | .word _ t => t.sz + 1
  | .row ts => szAll ts + 1
def szAll : List Tr → Nat
  | [] => 0
  | t :: ts => t.sz + szAll ts + 1
end

mutual
/-- 'v' is, in the world's memory, the error of a fault's tree. -/
def Rep (w : World) : Tr → Value → Prop
  | .code c, v => v = .iface 28 (.int .i64 c) ∧ c ≠ 0 ∧ -9223372036854775808 ≤ c ∧ c ≤ 9223372036854775807
  | .place p t, v => ∃ u x, v = .iface 65 (.agg #[.iface u x, .int .i64 p, .bool false]) ∧ (-9223372036854775808 ≤ p ∧ p ≤ 9223372036854775807) ∧ Rep w t (.iface u x)
  | .word s t, v => ∃ u x, v = .iface 78 (.agg #[.iface u x, .string s, .bool false]) ∧ Rep w t (.iface u x)
  | .row ts, v => ∃ r b off cap, v = .iface 79 (.pointer (some ⟨r, 0, none⟩)) ∧ w.cell? ⟨r, 0, none⟩ = some (.slice (some ⟨b, off, none⟩) ts.length cap) ∧ w.cell? ⟨r, 1, none⟩ = some (.bool false) ∧ 2 ≤ ts.length ∧ ts.length ≤ 1000000 ∧ ts.length ≤ cap ∧ RepAll w b off ts
/-- From a place of a block on lie the errors of a row of faults. -/
def RepAll (w : World) (b : Nat) : Nat → List Tr → Prop
  | _, [] => True
  | off, t :: ts => (∃ u x, w.cell? ⟨b, off, none⟩ = some (.iface u x) ∧ Rep w t (.iface u x)) ∧ RepAll w b (off + 1) ts
end

theorem Rep.form {w : World} {t : Tr} {v : Value} (h : Rep w t v) : ∃ u x, v = .iface u x := by
  cases t with
  | code c => exact ⟨_, _, h.1⟩
  | place p t => obtain ⟨u, x, rfl, _⟩ := h; exact ⟨_, _, rfl⟩
  | word s t => obtain ⟨u, x, rfl, _⟩ := h; exact ⟨_, _, rfl⟩
  | row ts => obtain ⟨r, b, off, cap, rfl, _⟩ := h; exact ⟨_, _, rfl⟩

mutual
theorem Rep.ext {w w' : World} (hx : Ext w w') : ∀ {t : Tr} {v : Value}, Rep w t v → Rep w' t v
  | .code _, _, h => h
  | .place _ _, _, ⟨u, x, e, hp, h⟩ => ⟨u, x, e, hp, Rep.ext hx h⟩
  | .word _ _, _, ⟨u, x, e, h⟩ => ⟨u, x, e, Rep.ext hx h⟩
  | .row _, _, ⟨r, b, off, cap, e, h0, h1, h2, h3, h4, h⟩ => ⟨r, b, off, cap, e, hx.cell h0, hx.cell h1, h2, h3, h4, RepAll.ext hx h⟩
theorem RepAll.ext {w w' : World} (hx : Ext w w') {b : Nat} : ∀ {off : Nat} {ts : List Tr}, RepAll w b off ts → RepAll w' b off ts
  | _, [], _ => trivial
  | _, _ :: _, ⟨⟨u, x, hc, h⟩, hr⟩ => ⟨⟨u, x, hx.cell hc, Rep.ext hx h⟩, RepAll.ext hx hr⟩
end

theorem RepAll.at {w : World} {b : Nat} : ∀ {off : Nat} {ts : List Tr} {i : Nat} {t : Tr}, RepAll w b off ts → ts[i]? = some t → ∃ u x, w.cell? ⟨b, off + i, none⟩ = some (.iface u x) ∧ Rep w t (.iface u x)
  | _, [], _, _, _, h => by simp at h
  | off, t :: ts, 0, t', ⟨hh, _⟩, h => by simp at h; subst h; exact hh
  | off, t :: ts, i + 1, t', ⟨_, hr⟩, h => by
    obtain ⟨u, x, hc, hx⟩ := RepAll.at (i := i) (t := t') hr (by simpa using h)
    exact ⟨u, x, by rw [show off + (i + 1) = off + 1 + i from by omega]; exact hc, hx⟩

theorem RepAll.news {w : World} {b : Nat} : ∀ {off : Nat} {ts : List Tr}, RepAll w b off ts → ∃ news : List Value, news.length = ts.length ∧ (∀ (j : Nat) u, news[j]? = some u → w.cell? ⟨b, off + j, none⟩ = some u) ∧ (∀ u ∈ news, u.oneCell' = true)
  | _, [], _ => ⟨[], rfl, by simp, by simp⟩
  | off, t :: ts, ⟨⟨u, x, hc, _⟩, hr⟩ => by
    obtain ⟨news, hl, hn, h1⟩ := RepAll.news hr
    refine ⟨.iface u x :: news, by simp [hl], ?_, ?_⟩
    · intro j y hj
      cases j with
      | zero => simp at hj; subst hj; exact hc
      | succ j => rw [show off + (j + 1) = off + 1 + j from by omega]; exact hn j y (by simpa using hj)
    · intro y hy
      rcases List.mem_cons.1 hy with rfl | hy
      · rfl
      · exact h1 y hy
theorem RepAll.copy {w w' : World} (hx : Ext w w') {b g : Nat} : ∀ {off o : Nat} {ts : List Tr}, RepAll w b off ts → (∀ (j : Nat) u, j < ts.length → w.cell? ⟨b, off + j, none⟩ = some u → w'.cell? ⟨g, o + j, none⟩ = some u) → RepAll w' g o ts
  | _, _, [], _, _ => trivial
  | off, o, t :: ts, ⟨⟨u, x, hc, h⟩, hr⟩, hcp => by
    refine ⟨⟨u, x, hcp 0 _ (by simp) hc, h.ext hx⟩, RepAll.copy hx hr fun j y hj hy => ?_⟩
    rw [show o + 1 + j = o + (j + 1) from by omega]
    exact hcp (j + 1) y (by simpa using hj) (by rw [show off + (j + 1) = off + 1 + j from by omega]; exact hy)

theorem sz_mem : ∀ (ts : List Tr) (i : Nat) (t : Tr), ts[i]? = some t → t.sz < szAll ts
  | [], i, t, h => by simp at h
  | s :: ts, 0, t, h => by simp at h; subst h; simp only [szAll]; omega
  | s :: ts, i + 1, t, h => by have := sz_mem ts i t (by simpa using h); simp only [szAll]; omega

/-! What a tree tells. -/
mutual
def Tr.codeOf : Tr → Int
  | .code c => c
  | .place _ t => t.codeOf
  | .word _ t => t.codeOf
  | .row ts => codeFirst ts
def codeFirst : List Tr → Int
  | [] => 0
  | t :: _ => t.codeOf
end
mutual
def Tr.has (c : Int) : Tr → Bool
  | .code d => d == c
  | .place _ t => t.has c
  | .word _ t => t.has c
  | .row ts => hasAny c ts
def hasAny (c : Int) : List Tr → Bool
  | [] => false
  | t :: ts => t.has c || hasAny c ts
end
/-- A code's own text. -/
def codeText (c : Int) : List UInt8 := [108, 121, 99, 101, 117, 109, 58, 32, 101, 114, 114, 111, 114, 32] ++ Lib.itoa c
mutual
def Tr.text : Tr → List UInt8
  | .code c => codeText c
  | .place p t => [97, 116, 32] ++ Lib.itoa p ++ [58, 32] ++ t.text
  | .word s t => s.data.toList ++ [58, 32] ++ t.text
  | .row ts => textAll true ts
/-- The texts of a row, '; ' ahead of each but the first. -/
def textAll (first : Bool) : List Tr → List UInt8
  | [] => []
  | t :: ts => (if first then [] else [59, 32]) ++ t.text ++ textAll false ts
end
end Go.Proofs.YtcfboalepnbifaaDoor
