/- A parser and an act in memory. -/
import Derived.Test.YtmppbmbhnoaggabEscMath
import Derived.Test.YtmppbmbhnoaggabOnly
import Derived.Test.YtmppbmbhnoaggabApp
import Derived.Test.YtmppbmbhnoaggabRunesRow
import Derived.Deep.MidRow
import Derived.Laws.StructEq
import Derived.ChangeKeysEq
import Derived.RegionTactic
import Derived.BigRegion
namespace Go.Proofs.Ytmppbmbhnoaggab
open Go Go.RowKit

theorem eight {α : Type} (l : List α) (h : l.length = 8) : ∃ a b c d e f g k, l = [a, b, c, d, e, f, g, k] := by
  match l, h with
  | [a, b, c, d, e, f, g, k], _ => exact ⟨a, b, c, d, e, f, g, k, rfl⟩
/-- An act's cells. -/
def actC (a : ActV) : List Value := .int .i64 a.kind :: .int .i32 a.r :: .int .u8 a.pr :: .int .u8 a.mid :: .int .i64 a.n :: a.ns.map fun x => Value.int .i64 x
def actV (a : ActV) : Value := .agg (actC a).toArray
def parV (s : Par) : Array Value := (Value.int .i64 s.st :: .int .u8 s.pr :: .int .u8 s.mid :: .int .i64 s.n :: s.ns.map fun x => Value.int .i64 x).toArray
/-- A parser lies in block g. -/
def ParAt (w : World) (g : Nat) (s : Par) : Prop := Blk w g 28 (parV s)
theorem ParAt.ext {w w' : World} {g : Nat} {s : Par} (h : ParAt w g s) (hx : Ext w w') : ParAt w' g s := Blk.ext h hx
theorem ParAt.only {w w' : World} {g b : Nat} {s : Par} (h : ParAt w g s) (hx : Only b w w') (hne : g ≠ b) : ParAt w' g s := Blk.only h hx hne
theorem infoPar : (Try.prog.info? 28).map (·.size) = some 12 := by kernel_rfl
theorem infoAct : (Try.prog.info? 31).map (fun i => (i.zero, i.size, i.bytes)) = some (some (.agg #[.int .i64 0, .int .i32 0, .int .u8 0, .int .u8 0, .int .i64 0, .int .i64 0, .int .i64 0, .int .i64 0, .int .i64 0, .int .i64 0, .int .i64 0, .int .i64 0, .int .i64 0]), 13, 88) := by kernel_rfl
theorem infoAct13 : (Try.prog.info? 31).map (·.size) = some 13 := by kernel_rfl
theorem infoNums : (Try.prog.info? 26).map (·.size) = some 8 := by kernel_rfl
theorem actC_len {a : ActV} (h : a.ns.length = 8) : (actC a).length = 13 := by unfold actC; simp [h]
theorem actC_one (a : ActV) : ∀ u ∈ actC a, u.oneCell' = true := by
  intro u hu
  simp only [actC, List.mem_cons, List.mem_map] at hu
  rcases hu with rfl | rfl | rfl | rfl | rfl | ⟨_, _, rfl⟩ <;> rfl
/-- The world behind a store of a whole parser. -/
def parSet (w : World) (g : Nat) (a : Fin 12 → Value) : World :=
  ((((((((((((w.setCell ⟨g, 0, none⟩ (a 0)).setCell ⟨g, 1, none⟩ (a 1)).setCell ⟨g, 2, none⟩ (a 2)).setCell ⟨g, 3, none⟩ (a 3)).setCell ⟨g, 4, none⟩ (a 4)).setCell ⟨g, 5, none⟩ (a 5)).setCell ⟨g, 6, none⟩ (a 6)).setCell ⟨g, 7, none⟩ (a 7)).setCell ⟨g, 8, none⟩ (a 8)).setCell ⟨g, 9, none⟩ (a 9)).setCell ⟨g, 10, none⟩ (a 10)).setCell ⟨g, 11, none⟩ (a 11))
def innSet (w : World) (g : Nat) (k : Int) : World :=
  ((((((((((((w.setCell ⟨g, 0, none⟩ (.int .i64 k)).setCell ⟨g, 1, none⟩ (.int .u8 0)).setCell ⟨g, 2, none⟩ (.int .u8 0)).setCell ⟨g, 3, none⟩ (.int .i64 0)).setCell ⟨g, 4, none⟩ (.int .i64 0)).setCell ⟨g, 5, none⟩ (.int .i64 0)).setCell ⟨g, 6, none⟩ (.int .i64 0)).setCell ⟨g, 7, none⟩ (.int .i64 0)).setCell ⟨g, 8, none⟩ (.int .i64 0)).setCell ⟨g, 9, none⟩ (.int .i64 0)).setCell ⟨g, 10, none⟩ (.int .i64 0)).setCell ⟨g, 11, none⟩ (.int .i64 0))
theorem inn_set {w : World} {g : Nat} {s : Par} (hl : s.ns.length = 8) (h : ParAt w g s) (k : Int) : ParAt (innSet w g k) g (.inn k) := by
  obtain ⟨n0, n1, n2, n3, n4, n5, n6, n7, e⟩ := eight _ hl
  unfold ParAt parV at h
  rw [e] at h
  have h0 : Blk w g 28 #[.int .i64 s.st, .int .u8 s.pr, .int .u8 s.mid, .int .i64 s.n, .int .i64 n0, .int .i64 n1, .int .i64 n2, .int .i64 n3, .int .i64 n4, .int .i64 n5, .int .i64 n6, .int .i64 n7] := h
  have h1 : Blk _ g 28 #[.int .i64 k, .int .u8 s.pr, .int .u8 s.mid, .int .i64 s.n, .int .i64 n0, .int .i64 n1, .int .i64 n2, .int .i64 n3, .int .i64 n4, .int .i64 n5, .int .i64 n6, .int .i64 n7] := Blk.set_ h0 0 (.int .i64 k)
  have h2 : Blk _ g 28 #[.int .i64 k, .int .u8 0, .int .u8 s.mid, .int .i64 s.n, .int .i64 n0, .int .i64 n1, .int .i64 n2, .int .i64 n3, .int .i64 n4, .int .i64 n5, .int .i64 n6, .int .i64 n7] := Blk.set_ h1 1 (.int .u8 0)
  have h3 : Blk _ g 28 #[.int .i64 k, .int .u8 0, .int .u8 0, .int .i64 s.n, .int .i64 n0, .int .i64 n1, .int .i64 n2, .int .i64 n3, .int .i64 n4, .int .i64 n5, .int .i64 n6, .int .i64 n7] := Blk.set_ h2 2 (.int .u8 0)
  have h4 : Blk _ g 28 #[.int .i64 k, .int .u8 0, .int .u8 0, .int .i64 0, .int .i64 n0, .int .i64 n1, .int .i64 n2, .int .i64 n3, .int .i64 n4, .int .i64 n5, .int .i64 n6, .int .i64 n7] := Blk.set_ h3 3 (.int .i64 0)
  have h5 : Blk _ g 28 #[.int .i64 k, .int .u8 0, .int .u8 0, .int .i64 0, .int .i64 0, .int .i64 n1, .int .i64 n2, .int .i64 n3, .int .i64 n4, .int .i64 n5, .int .i64 n6, .int .i64 n7] := Blk.set_ h4 4 (.int .i64 0)
  have h6 : Blk _ g 28 #[.int .i64 k, .int .u8 0, .int .u8 0, .int .i64 0, .int .i64 0, .int .i64 0, .int .i64 n2, .int .i64 n3, .int .i64 n4, .int .i64 n5, .int .i64 n6, .int .i64 n7] := Blk.set_ h5 5 (.int .i64 0)
  have h7 : Blk _ g 28 #[.int .i64 k, .int .u8 0, .int .u8 0, .int .i64 0, .int .i64 0, .int .i64 0, .int .i64 0, .int .i64 n3, .int .i64 n4, .int .i64 n5, .int .i64 n6, .int .i64 n7] := Blk.set_ h6 6 (.int .i64 0)
  have h8 : Blk _ g 28 #[.int .i64 k, .int .u8 0, .int .u8 0, .int .i64 0, .int .i64 0, .int .i64 0, .int .i64 0, .int .i64 0, .int .i64 n4, .int .i64 n5, .int .i64 n6, .int .i64 n7] := Blk.set_ h7 7 (.int .i64 0)
  have h9 : Blk _ g 28 #[.int .i64 k, .int .u8 0, .int .u8 0, .int .i64 0, .int .i64 0, .int .i64 0, .int .i64 0, .int .i64 0, .int .i64 0, .int .i64 n5, .int .i64 n6, .int .i64 n7] := Blk.set_ h8 8 (.int .i64 0)
  have h10 : Blk _ g 28 #[.int .i64 k, .int .u8 0, .int .u8 0, .int .i64 0, .int .i64 0, .int .i64 0, .int .i64 0, .int .i64 0, .int .i64 0, .int .i64 0, .int .i64 n6, .int .i64 n7] := Blk.set_ h9 9 (.int .i64 0)
  have h11 : Blk _ g 28 #[.int .i64 k, .int .u8 0, .int .u8 0, .int .i64 0, .int .i64 0, .int .i64 0, .int .i64 0, .int .i64 0, .int .i64 0, .int .i64 0, .int .i64 0, .int .i64 n7] := Blk.set_ h10 10 (.int .i64 0)
  have h12 : Blk _ g 28 #[.int .i64 k, .int .u8 0, .int .u8 0, .int .i64 0, .int .i64 0, .int .i64 0, .int .i64 0, .int .i64 0, .int .i64 0, .int .i64 0, .int .i64 0, .int .i64 0] := Blk.set_ h11 11 (.int .i64 0)
  exact h12
theorem only_innSet {w0 w : World} {g : Nat} (h : Only g w0 w) (k : Int) : Only g w0 (innSet w g k) :=
  (((((((((((h.setCell _).setCell _).setCell _).setCell _).setCell _).setCell _).setCell _).setCell _).setCell _).setCell _).setCell _).setCell _
/-- What a walk wants to know of a parser. -/
structure ParFacts (w : World) (g : Nat) (s : Par) (n0 n1 n2 n3 n4 n5 n6 n7 : Int) : Prop where
  c0 : w.cell? ⟨g, 0, none⟩ = some (.int .i64 s.st)
  c1 : w.cell? ⟨g, 1, none⟩ = some (.int .u8 s.pr)
  c2 : w.cell? ⟨g, 2, none⟩ = some (.int .u8 s.mid)
  c3 : w.cell? ⟨g, 3, none⟩ = some (.int .i64 s.n)
  c4 : w.cell? ⟨g, 4, none⟩ = some (.int .i64 n0)
  c5 : w.cell? ⟨g, 5, none⟩ = some (.int .i64 n1)
  c6 : w.cell? ⟨g, 6, none⟩ = some (.int .i64 n2)
  c7 : w.cell? ⟨g, 7, none⟩ = some (.int .i64 n3)
  c8 : w.cell? ⟨g, 8, none⟩ = some (.int .i64 n4)
  c9 : w.cell? ⟨g, 9, none⟩ = some (.int .i64 n5)
  ca : w.cell? ⟨g, 10, none⟩ = some (.int .i64 n6)
  cb : w.cell? ⟨g, 11, none⟩ = some (.int .i64 n7)
theorem ParAt.facts {w : World} {g : Nat} {s : Par} {n0 n1 n2 n3 n4 n5 n6 n7 : Int} (h : ParAt w g s) (e : s.ns = [n0, n1, n2, n3, n4, n5, n6, n7]) : ParFacts w g s n0 n1 n2 n3 n4 n5 n6 n7 := by
  unfold ParAt parV at h
  rw [e] at h
  exact ⟨h.cell 0, h.cell 1, h.cell 2, h.cell 3, h.cell 4, h.cell 5, h.cell 6, h.cell 7, h.cell 8, h.cell 9, h.cell 10, h.cell 11⟩
theorem ParAt.frozen {w : World} {g : Nat} {s : Par} (h : ParAt w g s) (i : Nat) : w.frozen? ⟨g, i, none⟩ = false := Blk.frozen h i
theorem ParAt.lt {w : World} {g : Nat} {s : Par} (h : ParAt w g s) : g < w.heap.size := Blk.lt h
theorem infoInt : ∃ i, Try.prog.info? 3 = some i := by
  obtain ⟨i, h, _⟩ := Option.map_eq_some_iff.1 (show (Try.prog.info? 3).map (·.size) = some 1 by kernel_rfl)
  exact ⟨i, h⟩
theorem cellsInt : Try.prog.cellsOf 3 = 1 := by kernel_rfl
theorem eq_nums (d : Nat) (a0 a1 a2 a3 a4 a5 a6 a7 b0 b1 b2 b3 b4 b5 b6 b7 : Int) (w : World) :
    (Op.equalIn (d + 2) 26 (.agg #[.int .i64 a0, .int .i64 a1, .int .i64 a2, .int .i64 a3, .int .i64 a4, .int .i64 a5, .int .i64 a6, .int .i64 a7])
      (.agg #[.int .i64 b0, .int .i64 b1, .int .i64 b2, .int .i64 b3, .int .i64 b4, .int .i64 b5, .int .i64 b6, .int .i64 b7])).run Try.prog w
     = .ok (decide (a0 = b0 ∧ a1 = b1 ∧ a2 = b2 ∧ a3 = b3 ∧ a4 = b4 ∧ a5 = b5 ∧ a6 = b6 ∧ a7 = b7)) w := by
  obtain ⟨i, hi⟩ := infoInt
  have u5 := Try.underlying3
  have a5' := Try.isAgg3
  have z5 := Try.sizeOf3
  rw [run_equalIn_array w (d + 1) _ _ Try.underlying26 hi, cellsInt, show List.range 8 = [0, 1, 2, 3, 4, 5, 6, 7] from rfl]
  simp only [Op.eqItems]
  go_simp
  by_cases h0 : a0 = b0
  case neg => simp [h0]
  by_cases h1 : a1 = b1
  case neg => simp [h0, h1]
  by_cases h2 : a2 = b2
  case neg => simp [h0, h1, h2]
  by_cases h3 : a3 = b3
  case neg => simp [h0, h1, h2, h3]
  by_cases h4 : a4 = b4
  case neg => simp [h0, h1, h2, h3, h4]
  by_cases h5 : a5 = b5
  case neg => simp [h0, h1, h2, h3, h4, h5]
  by_cases h6 : a6 = b6
  case neg => simp [h0, h1, h2, h3, h4, h5, h6]
  by_cases h7 : a7 = b7
  case neg => simp [h0, h1, h2, h3, h4, h5, h6, h7]
  simp [h0, h1, h2, h3, h4, h5, h6, h7]
def parEqB (k a0 a1 a2 a3 a4 a5 a6 a7 a8 a9 aa ab : Int) : Bool := decide (a0 = k ∧ a1 = 0 ∧ a2 = 0 ∧ a3 = 0 ∧ a4 = 0 ∧ a5 = 0 ∧ a6 = 0 ∧ a7 = 0 ∧ a8 = 0 ∧ a9 = 0 ∧ aa = 0 ∧ ab = 0)
theorem eq_par (a0 a1 a2 a3 a4 a5 a6 a7 a8 a9 aa ab : Int) (k : Int) (w : World) :
    (Op.equalIn 10000 28 (.agg #[.int .i64 a0, .int .u8 a1, .int .u8 a2, .int .i64 a3, .int .i64 a4, .int .i64 a5, .int .i64 a6, .int .i64 a7, .int .i64 a8, .int .i64 a9, .int .i64 aa, .int .i64 ab])
      (.agg #[.int .i64 k, .int .u8 0, .int .u8 0, .int .i64 0, .int .i64 0, .int .i64 0, .int .i64 0, .int .i64 0, .int .i64 0, .int .i64 0, .int .i64 0, .int .i64 0])).run Try.prog w
     = .ok (parEqB k a0 a1 a2 a3 a4 a5 a6 a7 a8 a9 aa ab) w := by
  unfold parEqB
  have u3 := Try.underlying25
  have a3' := Try.isAgg25
  have z3 := Try.sizeOf25
  have u4 := Try.underlying5
  have a4' := Try.isAgg5
  have z4 := Try.sizeOf5
  have u5 := Try.underlying3
  have a5' := Try.isAgg3
  have z5 := Try.sizeOf3
  have a6' := Try.isAgg26
  have z6 := Try.sizeOf26
  have hS : Try.prog.underlying 28 = some (.struct (Try.prog.fieldsOf 28)) := by kernel_rfl
  have hp : Try.prog.stoodInHeld 28 = false := by kernel_rfl
  rw [show (10000 : Nat) = 9999 + 1 from rfl, run_equalIn_agg w 9999 28 _ _ hS hp]
  simp only [Program.fieldsOf, Try.underlying28]
  go_simp
  rw [show (9999 : Nat) = 9997 + 2 from rfl, eq_nums]
  by_cases h0 : a0 = k
  case neg => simp [h0]
  by_cases h1 : a1 = 0
  case neg => simp [h0, h1]
  by_cases h2 : a2 = 0
  case neg => simp [h0, h1, h2]
  by_cases h3 : a3 = 0
  case neg => simp [h0, h1, h2, h3]
  generalize hD : decide (a4 = 0 ∧ a5 = 0 ∧ a6 = 0 ∧ a7 = 0 ∧ a8 = 0 ∧ a9 = 0 ∧ aa = 0 ∧ ab = 0) = D
  cases D with
  | true => have := of_decide_eq_true hD; simp [h0, h1, h2, h3, this]
  | false => have := of_decide_eq_false hD; simp [h0, h1, h2, h3]; simpa using this
/-- An act is the same as itself. -/
theorem eq_act (a0 a1 a2 a3 a4 a5 a6 a7 a8 a9 aa ab ac : Int) (w : World) :
    (Op.equalIn 10000 31 (.agg #[.int .i64 a0, .int .i32 a1, .int .u8 a2, .int .u8 a3, .int .i64 a4, .int .i64 a5, .int .i64 a6, .int .i64 a7, .int .i64 a8, .int .i64 a9, .int .i64 aa, .int .i64 ab, .int .i64 ac])
      (.agg #[.int .i64 a0, .int .i32 a1, .int .u8 a2, .int .u8 a3, .int .i64 a4, .int .i64 a5, .int .i64 a6, .int .i64 a7, .int .i64 a8, .int .i64 a9, .int .i64 aa, .int .i64 ab, .int .i64 ac])).run Try.prog w = .ok true w := by
  have u3 := Try.underlying21
  have a3' := Try.isAgg21
  have z3 := Try.sizeOf21
  have u4 := Try.underlying5
  have a4' := Try.isAgg5
  have z4 := Try.sizeOf5
  have u5 := Try.underlying3
  have a5' := Try.isAgg3
  have z5 := Try.sizeOf3
  have a6' := Try.isAgg26
  have z6 := Try.sizeOf26
  have hS : Try.prog.underlying 31 = some (.struct (Try.prog.fieldsOf 31)) := by kernel_rfl
  have hp : Try.prog.stoodInHeld 31 = false := by kernel_rfl
  rw [show (10000 : Nat) = 9999 + 1 from rfl, run_equalIn_agg w 9999 31 _ _ hS hp]
  simp only [Program.fieldsOf, Try.underlying31]
  go_simp
  rw [show (9999 : Nat) = 9997 + 2 from rfl, eq_nums]
  simp
/-- A row of acts of a call's own. -/
def cellsA (l : List ActV) : List Value := l.flatMap actC
theorem cellsA_append (a b : List ActV) : cellsA (a ++ b) = cellsA a ++ cellsA b := by simp [cellsA]
theorem cellsA_cons (c : ActV) (l : List ActV) : cellsA (c :: l) = actC c ++ cellsA l := rfl
def okAs (l : List ActV) : Prop := ∀ a, a ∈ l → a.ok
theorem cellsA_len : ∀ (l : List ActV), okAs l → (cellsA l).length = l.length * 13
  | [], _ => rfl
  | c :: l, h => by
    rw [cellsA_cons, List.length_append, cellsA_len l (fun a ha => h a (List.mem_cons_of_mem _ ha)), actC_len (h c (List.mem_cons_self ..)).len]
    simp; omega
theorem cellsA_one (l : List ActV) : ∀ u ∈ cellsA l, u.oneCell' = true := by
  intro u hu
  obtain ⟨c, _, hc⟩ := List.mem_flatMap.1 hu
  exact actC_one c u hc
theorem cellsA_at : ∀ (l : List ActV) (i j : Nat) (c : ActV) (u : Value), okAs l → l[i]? = some c → (actC c)[j]? = some u → (cellsA l)[i * 13 + j]? = some u
  | [], _, _, _, _, _, h, _ => by cases h
  | d :: l, 0, j, c, u, _, h, hj => by
    obtain rfl : d = c := by simpa using h
    rw [cellsA_cons, Nat.zero_mul, Nat.zero_add, List.getElem?_append_left (List.getElem?_eq_some_iff.1 hj).1]
    exact hj
  | d :: l, i + 1, j, c, u, hk, h, hj => by
    have hd : (actC d).length = 13 := actC_len (hk d (List.mem_cons_self ..)).len
    rw [cellsA_cons, List.getElem?_append_right (by omega), hd, show (i + 1) * 13 + j - 13 = i * 13 + j by omega]
    exact cellsA_at l i j c u (fun a ha => hk a (List.mem_cons_of_mem _ ha)) h hj
def OwnA (w : World) (base : Nat) (v : Value) (l : List ActV) : Prop := w.ownsRow base 31 13 v l.length (cellsA l)
theorem OwnA.nil (w : World) (base : Nat) : OwnA w base (.slice none 0 0) [] := World.ownsRow_nil _ _ _ _
theorem OwnA.more {w : World} {base : Nat} {v : Value} {l m : List ActV} (h : w.ownsRow base 31 13 v (l.length + m.length) (cellsA l ++ cellsA m)) : OwnA w base v (l ++ m) := by
  unfold OwnA
  rw [List.length_append, cellsA_append]; exact h
theorem own_keptA {w w' : World} {base n z : Nat} {e : TypeId} {v : Value} {xs : List Value} (h : w.ownsRow base e z v n xs) (hk : ∀ g, base ≤ g → g < w.heap.size → w'.heap[g]? = w.heap[g]?) : w'.ownsRow base e z v n xs := by
  obtain ⟨h1, h2⟩ := h
  refine ⟨h1, ?_⟩
  rcases h2 with h2 | ⟨g, cap, cur, e1, e2, e3, e4⟩
  · exact .inl h2
  · refine .inr ⟨g, cap, cur, e1, e2, ?_, e4⟩
    have hlt : g < w.heap.size := by
      rcases Nat.lt_or_ge g w.heap.size with h | h
      · exact h
      · rw [Array.getElem?_eq_none h] at e3; cases e3
    rw [hk g e2 hlt, e3]
theorem OwnA.ext {w w' : World} {base : Nat} {v : Value} {l : List ActV} (h : OwnA w base v l) (hx : Ext w w') : OwnA w' base v l := own_keptA h fun g _ hg => hx.block g hg
theorem OwnA.only {w w' : World} {base d : Nat} {v : Value} {l : List ActV} (h : OwnA w base v l) (hx : Only d w w') (hd : d < base) : OwnA w' base v l := own_keptA h fun g hb hg => hx.block g (by omega) hg
theorem OwnA.low {w : World} {B B' : Nat} {v : Value} {l : List ActV} (h : OwnA w B v l) (hb : B' ≤ B) : OwnA w B' v l := ownsRow_low h hb
theorem OwnA.form {w : World} {base : Nat} {v : Value} {l : List ActV} (h : OwnA w base v l) : ∃ A c, v = .slice A l.length c ∧ (A = none → l.length = 0 ∧ c = 0) := by
  rcases h.2 with ⟨rfl, h0⟩ | ⟨g, cap, cur, rfl, _, _, hn, _⟩
  · exact ⟨none, 0, by rw [h0], fun _ => ⟨h0, rfl⟩⟩
  · exact ⟨_, cap, rfl, fun e => by cases e⟩
theorem OwnA.news {w : World} {base : Nat} {A : Option Addr} {n c : Nat} {l : List ActV} (h : OwnA w base (.slice A n c) l) : ∀ B, A = some B → ∀ j u, (cellsA l)[j]? = some u → w.cell? (B.add j) = some u := by
  intro B hB j u hu
  subst hB
  rcases h.2 with ⟨e, _⟩ | ⟨g, cap, cur, e, _⟩
  · injection e with e1 _ _; cases e1
  · injection e with e1 _ _
    obtain rfl := Option.some.inj e1
    exact World.ownsRow.cells h rfl j u hu
/-- What an append of acts leaves. -/
structure AppendedA (base : Nat) (v : Value) (W : World) (l : List ActV) (v' : Value) (w' : World) : Prop where
  own : OwnA w' base v' l
  grown : W.grownBy w' v.ownBlock
section
variable {W : World} {ops : Array Oper} {rest : List Oper} {o : Oper} {a : Act} {Q : Exit → Act → World → Prop}
theorem wpList_app_act (hgd : o.guard = none) (s x : Operand) (ho : o.op = .call { callee := .builtin .append, args := #[s, x], argTypes := #[39, 39] })
    (base : Nat) (v : Value) (out : List ActV) (hs : a.eval s = v) (hown : OwnA W base v out) (G : Nat) (c : ActV) (hc : c.ok) (hx : a.eval x = .slice (some ⟨G, 0, none⟩) 1 1) (hb : Blk W G 31 (actC c).toArray)
    (hlen : out.length ≤ 2000000) (hbase : base ≤ W.heap.size) (h : ∀ v' w', AppendedA base v W (out ++ [c]) v' w' → wpList Try.prog ops Q rest (a.put o.dst v') w') : wpList Try.prog ops Q (o :: rest) a W := by
  obtain ⟨i0, hi0, hz0, hz1, hz2⟩ := info_parts infoAct
  have h13 : (cellsA [c]).length = 1 * 13 := by rw [cellsA_len [c] (fun y hy => by rw [List.mem_singleton.1 hy]; exact hc)]; rfl
  refine wpList_append_own_at W hgd s x 39 ho base 31 i0 _ 13 88 Try.underlying39 hi0 hz0 hz1 hz2 rfl (by omega) v out.length (cellsA out) hs hown ⟨G, 0, none⟩ 1 1 (cellsA [c]) hx h13 ?_ (cellsA_one [c]) (by unfold maxLen; omega) (by omega) hbase ?_
  · intro j u hj
    rw [add_off, Nat.zero_add, Blk.cell hb j]
    simpa [cellsA] using hj
  · intro v' w' h1 h2 _ _
    exact h v' w' ⟨OwnA.more (m := [c]) h1, h2⟩
theorem wpList_app_acts (hgd : o.guard = none) (s x : Operand) (ho : o.op = .call { callee := .builtin .append, args := #[s, x], argTypes := #[39, 39] })
    (base : Nat) (v : Value) (out : List ActV) (hs : a.eval s = v) (hown : OwnA W base v out) (base2 : Nat) (x' : Value) (l : List ActV) (hx : a.eval x = x') (hown2 : OwnA W base2 x' l) (hl : okAs l)
    (hlen : out.length ≤ 2000000) (hlen2 : l.length ≤ 2000000) (hbase : base ≤ W.heap.size) (h : ∀ v' w', AppendedA base v W (out ++ l) v' w' → wpList Try.prog ops Q rest (a.put o.dst v') w') : wpList Try.prog ops Q (o :: rest) a W := by
  obtain ⟨i0, hi0, hz0, hz1, hz2⟩ := info_parts infoAct
  obtain ⟨A, c, rfl, hc⟩ := hown2.form
  exact wpList_append_opt hgd s x 39 ho base 31 i0 _ 13 88 Try.underlying39 hi0 hz0 hz1 hz2 rfl (by omega) v out.length (cellsA out) hs hown A l.length c (cellsA l) hx hc (cellsA_len l hl) hown2.news (cellsA_one l) (by unfold maxLen; omega) (by omega) hbase
    fun v' w' h1 h2 => h v' w' ⟨OwnA.more h1, h2⟩
end
theorem ext_grownA {w0 w w' : World} {base n z : Nat} {e : TypeId} {v : Value} {xs : List Value} (h : Ext w0 w) (ho : w.ownsRow base e z v n xs) (hg : w.grownBy w' v.ownBlock) (hb : w0.heap.size ≤ base) : Ext w0 w' :=
  Below.grown h hg h.size fun k hk => by have := (ho.lt k hk).1; omega
theorem only_grownA {w0 w w' : World} {d base n z : Nat} {e : TypeId} {v : Value} {xs : List Value} (h : Only d w0 w) (ho : w.ownsRow base e z v n xs) (hg : w.grownBy w' v.ownBlock) (hb : w0.heap.size ≤ base) : Only d w0 w' := by
  obtain ⟨g1, g2, g3, g4, g5⟩ := hg
  refine ⟨g1.trans h.os, g2.trans h.tape, g3.trans h.output, Nat.le_trans h.size g4, fun k hk hl => ?_⟩
  have hl' : k < w.heap.size := Nat.lt_of_lt_of_le hl h.size
  refine (g5 k hl' ?_).trans (h.block k hk hl)
  intro hq
  have := (ho.lt k hq.symm).1
  omega
theorem par_grown {W w' : World} {g base : Nat} {s : Par} {v : Value} {l : List ActV} (h : ParAt W g s) (ho : OwnA W base v l) (hg : W.grownBy w' v.ownBlock) (hgb : g < base) : ParAt w' g s :=
  (hg.block g h.lt (fun e => by have := (World.ownsRow.lt ho g e.symm).1; omega)).trans h
end Go.Proofs.Ytmppbmbhnoaggab
