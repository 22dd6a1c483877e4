/- Words of no program: Ext: what was there when the call began is as it was. · What runes.firsts and runes.spans hold: their cells, out of the rows' condition. · A text's bytes. · Words of no program: bytes are decoded, characters encoded (chapter 4), as functions of lists. · How wide a character is: runes.Width; the document's lyceumref04.Width. · Words of no program: cells, rows that are right, what was mended, runs, characters (chapter 5), as functions of lists. -/
import Derived.WalkKit
import Derived.Below
import Derived.Deep.Draws
import Derived.Lib.Hide
import Derived.Test.YtgnknliaeoblhabDoorRows
import Derived.Lib.LaidU8
import Derived.LaidHandle
import Derived.LaidSub
import Derived.LaidMore
import Derived.Deep.MidRow
import Derived.Laws.Cover4
import Derived.Test.YtgnknliaeoblhabDoorProg
import Derived.WalkLawsBesides
import Derived.IntWalk
import Derived.KernelRfl
import Derived.Deep.LoopGhost
import Derived.Laws.BitsAll
import Derived.Laws.BitsAllLaws
namespace Go.Proofs.YtgnknliaeoblhabDoor
open Go Go.RowKit

/-- Nothing that was there has turned. -/
def Ext (w w' : World) : Prop := Below w.heap.size w w'
theorem Ext.refl (w : World) : Ext w w := Below.refl _ _
theorem Ext.size {w w' : World} (h : Ext w w') : w.heap.size ≤ w'.heap.size := Below.size h
theorem Ext.trans {a b c : World} (h : Ext a b) (k : Ext b c) : Ext a c := Below.trans h (Below.mono k h.size)
theorem Ext.drew {a w : World} (h : Ext a w) : Ext a w.drew := Below.drew h
theorem Ext.drewN {a w : World} (h : Ext a w) (n : Nat) : Ext a (w.drewN n) := Below.trans h ⟨rfl, rfl, rfl, Nat.le_refl _, fun _ _ => rfl⟩
theorem Ext.alloc {a w : World} (h : Ext a w) (o : Obj) : Ext a (w.alloc o) := Below.alloc h h.size o
theorem Ext.setCell {a w : World} (h : Ext a w) {p : Addr} (hp : a.heap.size ≤ p.block) (u : Value) : Ext a (w.setCell p u) := Below.setCell h hp u
theorem Ext.cell {w w' : World} (h : Ext w w') {p : Addr} {v : Value} (hc : w.cell? p = some v) : w'.cell? p = some v := by
  have hl : p.block < w.heap.size := by
    rcases Nat.lt_or_ge p.block w.heap.size with h | h
    · exact h
    · simp [World.cell?, Array.getElem?_eq_none h] at hc
  exact (Below.cell h hl).trans hc
theorem lt_of_cell {w : World} {p : Addr} {v : Value} (hc : w.cell? p = some v) : p.block < w.heap.size := by
  rcases Nat.lt_or_ge p.block w.heap.size with h | h
  · exact h
  · simp [World.cell?, Array.getElem?_eq_none h] at hc
theorem Ext.frozen {w w' : World} (h : Ext w w') {p : Addr} (hp : p.block < w.heap.size) : w'.frozen? p = w.frozen? p := Below.frozen h hp
theorem Ext.below {w w' : World} (h : Ext w w') : Below w.heap.size w w' := h
theorem Ext.of_below {w w' : World} (h : Below w.heap.size w w') : Ext w w' := h
end Go.Proofs.YtgnknliaeoblhabDoor
namespace Go.Proofs.YtgnknliaeoblhabDoor
open Go Go.RowKit

/-- A struct of whole numbers of several kinds. -/
theorem kinds_of_struct {H : Type} {enc : TypeId × Value → H} {P : Program} {w : World} {base : Nat} {sp : Nat → Bool} {held : Bool} {fuel : Nat} {t : TypeId} {fs : Array Field} {ks : List IntKind} {zs : List Int} {cs : List Value} {p : List MemPlace}
    (ht : P.underlying t = some (.struct fs)) (hk : ks.length = fs.size) (hz : zs.length = fs.size)
    (hf : ∀ (i : Nat) (f : Field), fs[i]? = some f → ∃ k, ks[i]? = some k ∧ P.underlying f.type = some (.int k) ∧ f.offset = i ∧ P.cellsOf f.type = 1) (hct : P.cellsOf t = fs.size)
    (h : DataW.trod enc P w base sp held fuel t cs = some (.agg (List.zipWith (fun k z => .lit (.int k z)) ks zs), p)) : cs = List.zipWith (fun k z => Value.int k z) ks zs := by
  obtain ⟨xs, n, rfl, hx, hl, hxl, hall⟩ := DataW.trod_struct ht h
  have hxs : xs.map (·.1) = List.zipWith (fun k z => (DataW.lit (.int k z) : DataW H)) ks zs := by
    have := congrArg Prod.fst hx
    simpa using this.symm
  apply List.ext_getElem?
  intro i
  by_cases hi : i < fs.size
  · obtain ⟨k, hki, hu, ho, hc⟩ := hf i fs[i] (by simp [hi])
    have h1 := hall i fs[i] (by simp [hi])
    obtain ⟨b, hb⟩ : ∃ b, xs[i]? = some b := ⟨xs[i]'(by omega), List.getElem?_eq_getElem (by omega)⟩
    obtain ⟨z0, hz0⟩ : ∃ z, zs[i]? = some z := ⟨zs[i]'(by omega), List.getElem?_eq_getElem (by omega)⟩
    rw [hb, ho, hc] at h1
    obtain ⟨z, hcz, rfl, _⟩ := DataW.trod_int hu h1
    have h2 : cs[i]? = some (.int k z) := by
      have := congrArg (·[0]?) hcz
      simpa [List.getElem?_take, List.getElem?_drop] using this
    have h3 : (xs.map (·.1))[i]? = some (DataW.lit (.int k z) : DataW H) := by simp [hb]
    rw [hxs, List.getElem?_zipWith, hki, hz0] at h3
    simp only [Option.some.injEq, DataW.lit.injEq, Lit.int.injEq, true_and] at h3
    rw [h2, List.getElem?_zipWith, hki, hz0, h3]
  · rw [List.getElem?_eq_none (by omega), List.getElem?_eq_none (by simp; omega)]
/-- An array of such structs: its i-th element's cells. -/
theorem rows_of_array {P : Program} {w : World} {n : String} {g : Nat} {t e : TypeId} {m : Nat} {fs : Array Field} {ks : List IntKind} {zss : List (List Int)} {d : DataW Unit}
    (hg : P.globalNamed n = some g) (hy : (P.globals[g]?).map (·.type) = some t) (ht : P.underlying t = some (.array m e)) (he : P.underlying e = some (.struct fs)) (hk : ks.length = fs.size)
    (hf : ∀ (i : Nat) (f : Field), fs[i]? = some f → ∃ k, ks[i]? = some k ∧ P.underlying f.type = some (.int k) ∧ f.offset = i ∧ P.cellsOf f.type = 1) (hce : P.cellsOf e = fs.size)
    (hd : d = .agg (zss.map fun zs => .agg (List.zipWith (fun k z => .lit (.int k z)) ks zs))) (hz : ∀ zs, zs ∈ zss → zs.length = fs.size)
    (h : Lib.VarReads P w n d) (i : Nat) (hi : i < m) (zs : List Int) (hzs : zss[i]? = some zs) (j : Nat) (v : Value) (hv : (List.zipWith (fun k z => Value.int k z) ks zs)[j]? = some v) :
    w.cell? ⟨g, i * fs.size + j, none⟩ = some v := by
  obtain ⟨g', t', cs, fuel, p, hg', hty, hvar, hr⟩ := h
  obtain rfl := Option.some.inj (hg.symm.trans hg')
  obtain rfl := Option.some.inj (hy.symm.trans hty)
  subst hd
  obtain ⟨fuel', d', q, hdi, he'⟩ := Lib.array_elem ht hr i hi
  rw [List.getElem?_map, hzs] at hdi
  obtain rfl := Option.some.inj hdi
  rw [hce] at he'
  have hzl := hz zs (List.mem_of_getElem? hzs)
  have hcs := kinds_of_struct he hk hzl hf hce he'
  have hj : j < fs.size := by
    have := (List.getElem?_eq_some_iff.1 hv).1
    simp at this
    omega
  have e1 := congrArg (·[j]?) hcs
  simp only [List.getElem?_take, List.getElem?_drop] at e1
  rw [if_pos hj] at e1
  rw [World.var?_cell hg' hvar, ← Array.getElem?_toList, e1, hv]

/-- runes.firsts: from, to, how many follow, and from where to where the next one is. -/
def firstsTab : List (List Int) := [[194, 223, 1, 128, 191], [224, 224, 2, 160, 191], [225, 236, 2, 128, 191], [237, 237, 2, 128, 159], [238, 239, 2, 128, 191], [240, 240, 3, 144, 191], [241, 243, 3, 128, 191], [244, 244, 3, 128, 143]]
def firstsKinds : List IntKind := [.u8, .u8, .i64, .u8, .u8]
def firstsEl (zs : List Int) : List Value := List.zipWith (fun k z => Value.int k z) firstsKinds zs
def firstsCells : List Value := (firstsTab.map firstsEl).flatten
theorem cU8 : Tryd.prog.cellsOf 5 = 1 := by kernel_rfl
theorem cInt : Tryd.prog.cellsOf 3 = 1 := by kernel_rfl
theorem cI32 : Tryd.prog.cellsOf 21 = 1 := by kernel_rfl
theorem five_split {m : Nat} {zss : List (List Int)} {f : List Int → List Value} (hl : ∀ zs, zs ∈ zss → (f zs).length = m) : ∀ (j : Nat) (v : Value), (zss.map f).flatten[j]? = some v → ∃ i zs k, zss[i]? = some zs ∧ (f zs)[k]? = some v ∧ j = i * m + k := by
  induction zss with
  | nil => intro j v h; simp at h
  | cons z zss ih =>
    intro j v h
    have hz := hl z (List.mem_cons_self ..)
    rw [List.map_cons, List.flatten_cons] at h
    by_cases hj : j < m
    · rw [List.getElem?_append_left (by omega)] at h
      exact ⟨0, z, j, rfl, h, by omega⟩
    · rw [List.getElem?_append_right (by omega), hz] at h
      obtain ⟨i, zs, k, h1, h2, h3⟩ := ih (fun q hq => hl q (List.mem_cons_of_mem _ hq)) _ _ h
      refine ⟨i + 1, zs, k, by simpa using h1, h2, ?_⟩
      rw [Nat.add_mul]
      omega
/-- runes.spans: the first, the last, how wide. -/
def spansTab : List (List Int) := [[-2147483648, 31, 0], [127, 159, 0], [768, 879, 0], [4352, 4447, 2], [8203, 8207, 0], [11904, 12350, 2], [12353, 42191, 2], [44032, 55203, 2], [55296, 57343, 0], [63744, 64255, 2], [65024, 65039, 0], [65072, 65135, 2], [65281, 65376, 2], [65504, 65510, 2], [127744, 128591, 2], [129280, 129535, 2], [131072, 262141, 2], [1114112, 2147483647, 0]]
def spansKinds : List IntKind := [.i32, .i32, .i64]
def spansEl (zs : List Int) : List Value := List.zipWith (fun k z => Value.int k z) spansKinds zs
def spansCells : List Value := (spansTab.map spansEl).flatten
theorem spans_all {p : List Int → Prop} (h : ∀ zs, zs ∈ spansTab → zs.length = 3 → p zs) : ∀ zs, zs ∈ spansTab → p zs := by
  intro zs hzs
  refine h zs hzs ?_
  simp only [spansTab, List.mem_cons, List.not_mem_nil, or_false] at hzs
  rcases hzs with rfl | rfl | rfl | rfl | rfl | rfl | rfl | rfl | rfl | rfl | rfl | rfl | rfl | rfl | rfl | rfl | rfl | rfl <;> rfl
end Go.Proofs.YtgnknliaeoblhabDoor
namespace Go.Proofs.YtgnknliaeoblhabDoor
open Go Go.RowKit

def bts (s : ByteArray) : List UInt8 := s.data.toList
theorem bts_len (s : ByteArray) : (bts s).length = s.size := by unfold bts; rw [Array.length_toList]; rfl
theorem bts_at (s : ByteArray) (j : Nat) (h : j < s.size) : (bts s)[j]? = some s[j] := by
  unfold bts
  rw [Array.getElem?_toList]
  exact Array.getElem?_eq_getElem (xs := s.data) h
theorem bts_append (x y : ByteArray) : bts (x ++ y) = bts x ++ bts y := by
  unfold bts
  rw [ByteArray.data_append, Array.toList_append]
theorem bts_mk (l : List UInt8) : bts ⟨l.toArray⟩ = l := by simp [bts]
theorem size_mk (l : List UInt8) : (⟨l.toArray⟩ : ByteArray).size = l.length := by rw [← bts_len, bts_mk]
theorem ba_ext {a b : ByteArray} (h : bts a = bts b) : a = b := by
  apply ByteArray.ext
  exact Array.toList_inj.1 h
theorem mk_bts (s : ByteArray) : (⟨(bts s).toArray⟩ : ByteArray) = s := ba_ext (bts_mk _)
theorem mk_append (a b : List UInt8) : (⟨a.toArray⟩ : ByteArray) ++ ⟨b.toArray⟩ = ⟨(a ++ b).toArray⟩ := by
  apply ba_ext
  rw [bts_append, bts_mk, bts_mk, bts_mk]
theorem bts_extract (s : ByteArray) (i j : Nat) : bts (s.extract i j) = ((bts s).take j).drop i := by
  unfold bts
  rw [ByteArray.data_extract, Array.toList_extract]
  simp [List.drop_take]
def shortOf (s : ByteArray) (n : Nat) : ByteArray := if n < s.size then s.extract 0 n else s
theorem shortOf_le (s : ByteArray) (n : Nat) : (shortOf s n).size ≤ n := by
  unfold shortOf
  split
  · rw [ByteArray.size_extract]; omega
  · omega
end Go.Proofs.YtgnknliaeoblhabDoor
namespace Go.Proofs.YtgnknliaeoblhabDoor
open Go Go.RowKit

/-- What a decoder keeps: how many bytes, how many are to come, from where to where the next one is, and what they have of the character. -/
structure DecSt where
  k : Nat
  l : Nat
  lo : Nat
  hi : Nat
  r : Nat
def DecSt.new : DecSt := ⟨0, 0, 0, 0, 0⟩
/-- A first byte: how many follow, and from where to where the next one is; none follow: it is no first one. -/
def lead (b : Nat) : Nat × Nat × Nat :=
  if 194 ≤ b ∧ b ≤ 223 then (1, 128, 191) else if b = 224 then (2, 160, 191) else if 225 ≤ b ∧ b ≤ 236 then (2, 128, 191) else if b = 237 then (2, 128, 159)
  else if 238 ≤ b ∧ b ≤ 239 then (2, 128, 191) else if b = 240 then (3, 144, 191) else if 241 ≤ b ∧ b ≤ 243 then (3, 128, 191) else if b = 244 then (3, 128, 143) else (0, 0, 0)
def DecSt.begun (b : Nat) : DecSt := ⟨1, (lead b).1, (lead b).2.1, (lead b).2.2, b % (128 / 2 ^ (lead b).1)⟩
/-- A byte behind nothing that is kept. -/
def fresh (b : Nat) : List Int × DecSt := if b < 128 then ([(b : Int)], .new) else if (lead b).1 = 0 then ([65533], .new) else ([], .begun b)
def DecSt.goes (s : DecSt) (b : Nat) : Prop := s.k ≠ 0 ∧ s.lo ≤ b ∧ b ≤ s.hi
instance (s : DecSt) (b : Nat) : Decidable (s.goes b) := inferInstanceAs (Decidable (_ ∧ _ ∧ _))
def DecSt.more (s : DecSt) (b : Nat) : DecSt := ⟨s.k + 1, s.l - 1, 128, 191, s.r * 64 + b % 64⟩
def DecSt.flush (s : DecSt) : List Int := if s.k = 0 then [] else [65533]
def DecSt.step (s : DecSt) (b : Nat) : List Int × DecSt :=
  if s.goes b then (if s.l = 1 then ([((s.more b).r : Int)], .new) else ([], s.more b)) else (s.flush ++ (fresh b).1, (fresh b).2)
def DecSt.run : DecSt → List UInt8 → List Int × DecSt
  | s, [] => ([], s)
  | s, b :: t => ((s.step b.toNat).1 ++ ((s.step b.toNat).2.run t).1, ((s.step b.toNat).2.run t).2)
def decL (x : List UInt8) : List Int := (DecSt.new.run x).1 ++ (DecSt.new.run x).2.flush

theorem run_append : ∀ (a : List UInt8) (s : DecSt) (b : List UInt8), s.run (a ++ b) = ((s.run a).1 ++ ((s.run a).2.run b).1, ((s.run a).2.run b).2)
  | [], s, b => by simp [DecSt.run]
  | x :: a, s, b => by
    simp only [List.cons_append, DecSt.run]
    rw [run_append a]
    simp [List.append_assoc]
theorem run_nil (s : DecSt) : s.run [] = ([], s) := rfl
theorem run_one (s : DecSt) (b : UInt8) : s.run [b] = s.step b.toNat := by simp [DecSt.run]
theorem run_take (s : DecSt) (x : List UInt8) (i : Nat) (b : UInt8) (h : x[i]? = some b) :
    s.run (x.take (i + 1)) = ((s.run (x.take i)).1 ++ ((s.run (x.take i)).2.step b.toNat).1, ((s.run (x.take i)).2.step b.toNat).2) := by
  rw [List.take_add_one, h, run_append]
  simp only [Option.toList_some, run_one]

/-- What is true of every state that a new one comes to. -/
def DecSt.ok (s : DecSt) : Prop := s = .new ∨ (1 ≤ s.k ∧ 1 ≤ s.l ∧ s.k + s.l ≤ 4 ∧ 128 ≤ s.lo ∧ s.hi ≤ 191 ∧ (s.k = 1 → s.r < 32) ∧ (s.k = 2 → s.r < 2048) ∧ (s.k = 3 → s.r < 131072))
theorem ok_new : DecSt.new.ok := Or.inl rfl
theorem lead_cases (b : Nat) : lead b = (0, 0, 0) ∨ (lead b).1 = 1 ∧ 128 ≤ (lead b).2.1 ∧ (lead b).2.2 ≤ 191 ∧ 194 ≤ b ∧ b ≤ 223 ∨ (lead b).1 = 2 ∧ 128 ≤ (lead b).2.1 ∧ (lead b).2.2 ≤ 191 ∧ 224 ≤ b ∧ b ≤ 239
    ∨ (lead b).1 = 3 ∧ 128 ≤ (lead b).2.1 ∧ (lead b).2.2 ≤ 191 ∧ 240 ≤ b ∧ b ≤ 244 := by
  unfold lead
  repeat' split
  all_goals first | (left; rfl) | (right; left; refine ⟨rfl, ?_, ?_, ?_, ?_⟩ <;> first | omega | simp) | (right; right; left; refine ⟨rfl, ?_, ?_, ?_, ?_⟩ <;> first | omega | simp) | (right; right; right; refine ⟨rfl, ?_, ?_, ?_, ?_⟩ <;> first | omega | simp)
theorem ok_begun (b : Nat) (h : (lead b).1 ≠ 0) : (DecSt.begun b).ok := by
  right
  unfold DecSt.begun
  rcases lead_cases b with h1 | ⟨h1, h2, h3, h4, h5⟩ | ⟨h1, h2, h3, h4, h5⟩ | ⟨h1, h2, h3, h4, h5⟩
  · rw [h1] at h; exact absurd rfl h
  all_goals
    simp only [h1]
    refine ⟨by omega, by omega, by omega, h2, h3, fun _ => by omega, fun e => by omega, fun e => by omega⟩
theorem ok_fresh (b : Nat) : (fresh b).2.ok := by
  unfold fresh
  split
  · exact ok_new
  · split
    · exact ok_new
    · rename_i h; exact ok_begun b h
theorem ok_more {s : DecSt} {b : Nat} (h : s.ok) (hg : s.goes b) (hl : s.l ≠ 1) : (s.more b).ok := by
  rcases h with rfl | ⟨h1, h2, h3, h4, h5, h6, h7, h8⟩
  · exact absurd rfl hg.1
  · right
    unfold DecSt.more
    refine ⟨by simp, by simp; omega, by simp; omega, by simp, by simp, fun e => by simp at e; omega, fun e => ?_, fun e => ?_⟩
    · have := h6 (by simp at e; omega)
      simp only; omega
    · have := h7 (by simp at e; omega)
      simp only; omega
theorem more_lt {s : DecSt} {b : Nat} (h : s.ok) : (s.more b).r < 8388608 := by
  unfold DecSt.more
  rcases h with rfl | ⟨h1, h2, h3, h4, h5, h6, h7, h8⟩
  · simp only [DecSt.new]; omega
  · simp only
    have : s.k = 1 ∨ s.k = 2 ∨ s.k = 3 := by omega
    rcases this with e | e | e
    · have := h6 e; omega
    · have := h7 e; omega
    · have := h8 e; omega
theorem ok_step {s : DecSt} (h : s.ok) (b : Nat) : (s.step b).2.ok := by
  unfold DecSt.step
  split
  · rename_i hg
    split
    · exact ok_new
    · rename_i hl; exact ok_more h hg hl
  · exact ok_fresh b
theorem ok_run : ∀ (x : List UInt8) {s : DecSt}, s.ok → (s.run x).2.ok
  | [], _, h => h
  | b :: t, s, h => by
    simp only [DecSt.run]
    exact ok_run t (ok_step h b.toNat)
theorem ok_k {s : DecSt} (h : s.ok) : s.k ≤ 3 := by
  rcases h with rfl | ⟨h1, h2, h3, _⟩
  · exact Nat.zero_le 3
  · omega
theorem begun_k (b : Nat) : (DecSt.begun b).k = 1 := rfl
/-- No more characters than bytes. -/
theorem len_fresh (b : Nat) : (fresh b).1.length + (fresh b).2.k = 1 := by
  unfold fresh
  split
  · rfl
  · split <;> rfl
theorem len_step (s : DecSt) (b : Nat) : (s.step b).1.length + (s.step b).2.k ≤ s.k + 1 := by
  unfold DecSt.step
  split
  · split
    · simp [DecSt.new]
    · simp [DecSt.more]
  · have := len_fresh b
    unfold DecSt.flush
    split
    · simp; omega
    · simp; omega
theorem len_run : ∀ (x : List UInt8) (s : DecSt), (s.run x).1.length + (s.run x).2.k ≤ s.k + x.length
  | [], s => by simp [DecSt.run]
  | b :: t, s => by
    simp only [DecSt.run, List.length_append, List.length_cons]
    have h1 := len_step s b.toNat
    have h2 := len_run t (s.step b.toNat).2
    omega
theorem len_flush (s : DecSt) : s.flush.length ≤ s.k ∧ s.flush.length ≤ 1 := by
  unfold DecSt.flush
  split
  · simp
  · simp; omega
theorem len_decL (x : List UInt8) : (decL x).length ≤ x.length := by
  unfold decL
  have h1 := len_run x .new
  have h2 := len_flush (DecSt.new.run x).2
  rw [List.length_append]
  simp only [DecSt.new] at h1 h2 ⊢
  omega

/-- A character of int32. -/
def isI32 (n : Int) : Prop := -2147483648 ≤ n ∧ n ≤ 2147483647
/-- A character that has a sequence. -/
def isRune (n : Int) : Prop := (0 ≤ n ∧ n < 55296) ∨ (57344 ≤ n ∧ n ≤ 1114111)
instance (n : Int) : Decidable (isRune n) := inferInstanceAs (Decidable (_ ∨ _))
def fixR (n : Int) : Int := if isRune n then n else 65533
def encR (n : Int) : List UInt8 := bts (Utf8.encode n)
def encL (zs : List Int) : List UInt8 := (zs.map encR).flatten
theorem encL_nil : encL [] = [] := rfl
theorem encL_cons (n : Int) (zs : List Int) : encL (n :: zs) = encR n ++ encL zs := by simp [encL]
theorem encL_append (a b : List Int) : encL (a ++ b) = encL a ++ encL b := by simp [encL]
theorem encL_take (zs : List Int) (i : Nat) (n : Int) (h : zs[i]? = some n) : encL (zs.take (i + 1)) = encL (zs.take i) ++ encR n := by
  rw [List.take_add_one, h, encL_append]; simp [encL]
theorem valid_iff (n : Int) : Utf8.valid n = true ↔ isRune n := by
  unfold Utf8.valid isRune
  simp
/-- The number that is put for a character. -/
def numR (n : Int) : Nat := (fixR n).toNat
theorem numR_lt (n : Int) : numR n ≤ 1114111 ∧ (numR n < 55296 ∨ 57344 ≤ numR n) ∧ fixR n = (numR n : Int) := by
  unfold numR fixR
  split
  · rename_i h; unfold isRune at h; omega
  · omega
theorem encR_of (n : Int) : encR n =
    if numR n < 128 then [UInt8.ofNat (numR n)]
    else if numR n < 2048 then [UInt8.ofNat (192 + numR n / 64), UInt8.ofNat (128 + numR n % 64)]
    else if numR n < 65536 then [UInt8.ofNat (224 + numR n / 4096), UInt8.ofNat (128 + numR n / 64 % 64), UInt8.ofNat (128 + numR n % 64)]
    else [UInt8.ofNat (240 + numR n / 262144), UInt8.ofNat (128 + numR n / 4096 % 64), UInt8.ofNat (128 + numR n / 64 % 64), UInt8.ofNat (128 + numR n % 64)] := by
  have e : (if Utf8.valid n = true then n.toNat else Utf8.runeError) = numR n := by
    unfold numR fixR Utf8.runeError
    by_cases h : isRune n
    · rw [if_pos h, if_pos ((valid_iff n).2 h)]
    · rw [if_neg h, if_neg (fun hv => h ((valid_iff n).1 hv))]; rfl
  unfold encR Utf8.encode
  simp only [e]
  repeat' split
  all_goals rfl
theorem encR_len (n : Int) : (encR n).length ≤ 4 ∧ 1 ≤ (encR n).length := by
  rw [encR_of]
  repeat' split
  all_goals simp
theorem encL_len : ∀ (zs : List Int), (encL zs).length ≤ 4 * zs.length
  | [] => by simp [encL_nil]
  | n :: zs => by
    rw [encL_cons, List.length_append, List.length_cons]
    have h1 := encR_len n
    have h2 := encL_len zs
    omega
theorem toNat8 {n : Nat} (h : n < 256) : (UInt8.ofNat n).toNat = n := by
  rw [UInt8.toNat_ofNat']; omega
theorem new_goes (b : Nat) : ¬ DecSt.new.goes b := fun h => h.1 rfl
theorem new_step (b : Nat) : DecSt.new.step b = fresh b := by
  unfold DecSt.step
  rw [if_neg (new_goes b)]
  simp [DecSt.flush, DecSt.new]
theorem step_more {s : DecSt} {b : Nat} (h1 : s.k ≠ 0) (h2 : s.lo ≤ b) (h3 : b ≤ s.hi) (hl : s.l ≠ 1) : s.step b = ([], s.more b) := by
  unfold DecSt.step
  rw [if_pos ⟨h1, h2, h3⟩, if_neg hl]
theorem step_last {s : DecSt} {b : Nat} (h1 : s.k ≠ 0) (h2 : s.lo ≤ b) (h3 : b ≤ s.hi) (hl : s.l = 1) : s.step b = ([((s.r * 64 + b % 64 : Nat) : Int)], .new) := by
  unfold DecSt.step
  rw [if_pos ⟨h1, h2, h3⟩, if_pos hl]
  rfl
theorem fresh_lead {b : Nat} (h : (lead b).1 ≠ 0) : fresh b = ([], .begun b) := by
  unfold fresh
  have h1 : ¬ b < 128 := by
    intro hb
    apply h
    unfold lead
    repeat' split
    all_goals first | omega | rfl
  rw [if_neg h1, if_neg h]
theorem lead1 {b : Nat} (h : 194 ≤ b ∧ b ≤ 223) : lead b = (1, 128, 191) := by unfold lead; rw [if_pos h]
/-- Of a first byte with two behind it: what the next one may be. -/
theorem lead2 {b : Nat} (h : 224 ≤ b ∧ b ≤ 239) : lead b = (2, if b = 224 then 160 else 128, if b = 237 then 159 else 191) := by
  unfold lead
  repeat' split
  all_goals first | omega | rfl
theorem lead3 {b : Nat} (h : 240 ≤ b ∧ b ≤ 244) : lead b = (3, if b = 240 then 144 else 128, if b = 244 then 143 else 191) := by
  unfold lead
  repeat' split
  all_goals first | omega | rfl
/-- What was encoded is decoded. -/
theorem run_encR (n : Int) (t : List UInt8) : DecSt.new.run (encR n ++ t) = (fixR n :: (DecSt.new.run t).1, (DecSt.new.run t).2) := by
  obtain ⟨h1, h2, h3⟩ := numR_lt n
  rw [encR_of, h3]
  generalize numR n = m at h1 h2
  by_cases a1 : m < 128
  · rw [if_pos a1]
    simp only [List.cons_append, List.nil_append, DecSt.run, new_step, toNat8 (show m < 256 by omega)]
    unfold fresh
    simp [a1]
  · rw [if_neg a1]
    by_cases a2 : m < 2048
    · rw [if_pos a2]
      have e1 : (UInt8.ofNat (192 + m / 64)).toNat = 192 + m / 64 := toNat8 (by omega)
      have e2 : (UInt8.ofNat (128 + m % 64)).toNat = 128 + m % 64 := toNat8 (by omega)
      have hl : lead (192 + m / 64) = (1, 128, 191) := lead1 (by omega)
      simp only [List.cons_append, List.nil_append, DecSt.run, new_step, e1, e2]
      rw [fresh_lead (by rw [hl]; simp)]
      simp only [DecSt.begun, hl]
      rw [step_last (by simp) (by simp) (by simp only; omega) rfl]
      simp only [List.nil_append, List.cons_append]
      congr 2
      try simp only
      omega
    · rw [if_neg a2]
      by_cases a3 : m < 65536
      · rw [if_pos a3]
        have e1 : (UInt8.ofNat (224 + m / 4096)).toNat = 224 + m / 4096 := toNat8 (by omega)
        have e2 : (UInt8.ofNat (128 + m / 64 % 64)).toNat = 128 + m / 64 % 64 := toNat8 (by omega)
        have e3 : (UInt8.ofNat (128 + m % 64)).toNat = 128 + m % 64 := toNat8 (by omega)
        have hl := lead2 (b := 224 + m / 4096) (by omega)
        simp only [List.cons_append, List.nil_append, DecSt.run, new_step, e1, e2, e3]
        rw [fresh_lead (by rw [hl]; simp)]
        simp only [DecSt.begun, hl]
        rw [step_more (by simp) (by simp only; split <;> omega) (by simp only; split <;> omega) (by simp)]
        simp only [DecSt.more]
        rw [step_last (by simp) (by simp) (by simp only; omega) rfl]
        simp only [List.nil_append, List.cons_append]
        congr 2
        try simp only
        omega
      · rw [if_neg a3]
        have e1 : (UInt8.ofNat (240 + m / 262144)).toNat = 240 + m / 262144 := toNat8 (by omega)
        have e2 : (UInt8.ofNat (128 + m / 4096 % 64)).toNat = 128 + m / 4096 % 64 := toNat8 (by omega)
        have e3 : (UInt8.ofNat (128 + m / 64 % 64)).toNat = 128 + m / 64 % 64 := toNat8 (by omega)
        have e4 : (UInt8.ofNat (128 + m % 64)).toNat = 128 + m % 64 := toNat8 (by omega)
        have hl := lead3 (b := 240 + m / 262144) (by omega)
        simp only [List.cons_append, List.nil_append, DecSt.run, new_step, e1, e2, e3, e4]
        rw [fresh_lead (by rw [hl]; simp)]
        simp only [DecSt.begun, hl]
        rw [step_more (by simp) (by simp only; split <;> omega) (by simp only; split <;> omega) (by simp)]
        simp only [DecSt.more]
        rw [step_more (by simp) (by simp) (by simp only; omega) (by simp)]
        simp only [DecSt.more]
        rw [step_last (by simp) (by simp) (by simp only; omega) rfl]
        simp only [List.nil_append, List.cons_append]
        congr 2
        try simp only
        omega
theorem run_encL : ∀ (zs : List Int), DecSt.new.run (encL zs) = (zs.map fixR, .new)
  | [] => rfl
  | n :: zs => by rw [encL_cons, run_encR, run_encL zs]; rfl
theorem decL_encL (zs : List Int) : decL (encL zs) = zs.map fixR := by
  unfold decL
  rw [run_encL]
  simp [DecSt.flush, DecSt.new]
/-- What is told has a sequence. -/
theorem isRune_fffd : isRune 65533 := by unfold isRune; omega
theorem isRune_fix (n : Int) : isRune (fixR n) := by
  unfold fixR
  split
  · assumption
  · exact isRune_fffd
theorem fix_rune {n : Int} (h : isRune n) : fixR n = n := by unfold fixR; rw [if_pos h]
end Go.Proofs.YtgnknliaeoblhabDoor
namespace Go.Proofs.YtgnknliaeoblhabDoor
open Go Go.RowKit

def spA (i : Nat) : Int := (spansTab.getD i []).getD 0 0
def spB (i : Nat) : Int := (spansTab.getD i []).getD 1 0
def spC (i : Nat) : Int := (spansTab.getD i []).getD 2 0
/-- The width that the rows from the i-th one on say. -/
def widthFrom : Nat → Nat → Int → Int
  | 0, _, _ => 1
  | n + 1, i, r => if r < spA i then 1 else if r ≤ spB i then spC i else widthFrom n (i + 1) r
def widthL (r : Int) : Int := widthFrom 18 0 r
noncomputable def spansArr : Array Value := spansCells.toArray
end Go.Proofs.YtgnknliaeoblhabDoor
namespace Go.Proofs.YtgnknliaeoblhabDoor
open Go Go.RowKit

/-- A cell: its character, its colours, how it is drawn. -/
structure Cel where
  r : Int
  f : Int
  b : Int
  a : Int
instance : DecidableEq Cel := fun x y =>
  if h : x.r = y.r ∧ x.f = y.f ∧ x.b = y.b ∧ x.a = y.a then isTrue (by cases x; cases y; simp only at h; obtain ⟨rfl, rfl, rfl, rfl⟩ := h; rfl)
  else isFalse (fun e => h (by subst e; exact ⟨rfl, rfl, rfl, rfl⟩))
def isU8 (n : Int) : Prop := 0 ≤ n ∧ n < 256
def Cel.ok (c : Cel) : Prop := isI32 c.r ∧ isU8 c.f ∧ isU8 c.b ∧ isU8 c.a
def Cel.wide (c : Cel) : Bool := decide (c.a / 64 % 2 = 1)
def Cel.tl (c : Cel) : Bool := decide (c.a / 128 = 1)
def Cel.tail (c : Cel) : Cel := ⟨0, c.f, c.b, c.a % 64 + 128⟩
/-- May the cell be? -/
def Cel.check (c : Cel) : Bool := if c.tl then !c.wide && decide (c.r = 0) else if c.wide then decide (widthL c.r = 2) else decide (widthL c.r = 1)
/-- It may be, and is neither Wide nor a Tail. -/
def Cel.plain (c : Cel) : Bool := c.check && !c.wide && !c.tl
/-- It may be, and is Wide. -/
def Cel.opens (c : Cel) : Bool := c.check && c.wide
def Cel.blank : Cel := ⟨32, 0, 0, 0⟩
def Cel.gone (c : Cel) : Cel := ⟨32, c.f, c.b, 0⟩
def Cel.step (c : Cel) : Nat := if c.wide then 2 else 1
theorem Cel.step_pos (c : Cel) : 1 ≤ c.step := by unfold Cel.step; split <;> omega
theorem Cel.step_le (c : Cel) : c.step ≤ 2 := by unfold Cel.step; split <;> omega
theorem Cel.tail_wide (c : Cel) : c.tail.wide = false := by unfold Cel.wide Cel.tail; simp; omega
theorem Cel.tail_tl (c : Cel) : c.tail.tl = true := by unfold Cel.tl Cel.tail; simp; omega
theorem Cel.tail_check (c : Cel) : c.tail.check = true := by unfold Cel.check; rw [Cel.tail_tl, Cel.tail_wide]; rfl
theorem Cel.tail_plain (c : Cel) : c.tail.plain = false := by unfold Cel.plain; rw [Cel.tail_tl]; simp
theorem Cel.tail_opens (c : Cel) : c.tail.opens = false := by unfold Cel.opens; rw [Cel.tail_wide]; simp
theorem Cel.plain_opens {c : Cel} (h : c.plain = true) : c.opens = false := by unfold Cel.plain at h; unfold Cel.opens; simp at h; simp [h.1.2]
theorem Cel.opens_plain {c : Cel} (h : c.opens = true) : c.plain = false := by unfold Cel.opens at h; unfold Cel.plain; simp at h; simp [h.2]
theorem Cel.opens_tl {c : Cel} (h : c.opens = true) : c.tl = false := by
  unfold Cel.opens Cel.check at h
  cases ht : c.tl
  · rfl
  · rw [ht] at h; simp at h; rw [h.2] at h; simp at h
theorem Cel.plain_step {c : Cel} (h : c.plain = true) : c.step = 1 := by unfold Cel.plain at h; simp at h; unfold Cel.step; rw [h.1.2]; rfl
theorem Cel.opens_step {c : Cel} (h : c.opens = true) : c.step = 2 := by unfold Cel.opens at h; simp at h; unfold Cel.step; rw [h.2]; rfl
theorem Cel.ok_tail {c : Cel} (h : c.ok) : c.tail.ok := by
  unfold Cel.ok Cel.tail at *
  refine ⟨by unfold isI32; simp only; omega, h.2.1, h.2.2.1, ?_⟩
  have := h.2.2.2
  unfold isU8 at *
  simp only at *; omega
theorem Cel.ok_gone {c : Cel} (h : c.ok) : c.gone.ok := by
  unfold Cel.ok Cel.gone at *
  exact ⟨by unfold isI32; simp only; omega, h.2.1, h.2.2.1, by unfold isU8; simp only; omega⟩
theorem width32 : widthL 32 = 1 := by decide
theorem Cel.gone_plain (c : Cel) : c.gone.plain = true := by
  unfold Cel.plain Cel.check Cel.wide Cel.tl Cel.gone
  simp only [width32]; rfl

/-- How many cells the character has that a row begins with. -/
def wholeL : List Cel → Nat
  | [] => 0
  | c :: l => if c.plain then 1 else if c.opens && decide (l.head? = some c.tail) then 2 else 0
def rightL : List Cel → Bool
  | [] => true
  | [c] => c.plain
  | c :: d :: l => if c.plain then rightL (d :: l) else c.opens && decide (d = c.tail) && rightL l
def mendL : List Cel → List Cel
  | [] => []
  | [c] => [if c.plain then c else c.gone]
  | c :: d :: l => if c.plain then c :: mendL (d :: l) else if c.opens && decide (d = c.tail) then c :: d :: mendL l else c.gone :: mendL (d :: l)
theorem wholeL_cons (c : Cel) (l : List Cel) : wholeL (c :: l) = if c.plain then 1 else if c.opens && decide (l.head? = some c.tail) then 2 else 0 := rfl
theorem rightL_one (c : Cel) : rightL [c] = c.plain := by simp only [rightL]
theorem rightL_two (c d : Cel) (l : List Cel) : rightL (c :: d :: l) = if c.plain then rightL (d :: l) else c.opens && decide (d = c.tail) && rightL l := by simp only [rightL]
theorem mendL_one (c : Cel) : mendL [c] = [if c.plain then c else c.gone] := by simp only [mendL]
theorem mendL_two (c d : Cel) (l : List Cel) : mendL (c :: d :: l) = if c.plain then c :: mendL (d :: l) else if c.opens && decide (d = c.tail) then c :: d :: mendL l else c.gone :: mendL (d :: l) := by simp only [mendL]
theorem rightL_nil : rightL [] = true := by simp only [rightL]
theorem mendL_nil : mendL [] = [] := by simp only [mendL]
theorem wholeL_le : ∀ (l : List Cel), wholeL l ≤ l.length
  | [] => Nat.le_refl _
  | [c] => by rw [wholeL_cons]; simp only [List.head?_nil, List.length_cons, List.length_nil]; split <;> simp
  | c :: d :: l => by
    rw [wholeL_cons]; simp only [List.length_cons]
    split
    · omega
    · split <;> omega
theorem wholeL_le2 : ∀ (l : List Cel), wholeL l ≤ 2
  | [] => by simp [wholeL]
  | c :: l => by
    rw [wholeL_cons]
    split
    · omega
    · split <;> omega
theorem rightL_step : ∀ (l : List Cel), l ≠ [] → rightL l = (decide (wholeL l ≠ 0) && rightL (l.drop (wholeL l)))
  | [], h => absurd rfl h
  | [c], _ => by
    rw [rightL_one, wholeL_cons]
    cases hp : c.plain
    · simp
    · simp [rightL_nil]
  | c :: d :: l, _ => by
    rw [rightL_two, wholeL_cons]
    cases hp : c.plain
    · by_cases hd : d = c.tail
      · subst hd; cases ho : c.opens <;> simp
      · simp [hd]
    · simp
theorem mendL_step : ∀ (l : List Cel), l ≠ [] → wholeL l ≠ 0 → mendL l = l.take (wholeL l) ++ mendL (l.drop (wholeL l))
  | [], h, _ => absurd rfl h
  | [c], _, hw => by
    rw [wholeL_cons] at hw ⊢
    rw [mendL_one]
    cases hp : c.plain
    · rw [hp] at hw; simp at hw
    · simp [mendL_nil]
  | c :: d :: l, _, hw => by
    rw [wholeL_cons] at hw ⊢
    rw [mendL_two]
    cases hp : c.plain
    · by_cases hd : d = c.tail
      · subst hd; cases ho : c.opens
        · rw [hp, ho] at hw; simp at hw
        · simp
      · rw [hp] at hw; simp [hd] at hw
    · simp
theorem mendL_gone : ∀ (c : Cel) (l : List Cel), wholeL (c :: l) = 0 → mendL (c :: l) = c.gone :: mendL l
  | c, [], hw => by
    rw [wholeL_cons] at hw
    rw [mendL_one, mendL_nil]
    cases hp : c.plain
    · simp
    · rw [hp] at hw; simp at hw
  | c, d :: l, hw => by
    rw [wholeL_cons] at hw
    rw [mendL_two]
    cases hp : c.plain
    · by_cases hd : d = c.tail
      · subst hd; cases ho : c.opens
        · simp
        · rw [hp, ho] at hw; simp at hw
      · simp [hd]
    · rw [hp] at hw; simp at hw

/-- Two that stand together: a Wide one that may be, and its Tail. -/
def pairs : Option Cel → Option Cel → Bool
  | some c, some d => c.opens && decide (d = c.tail)
  | _, _ => false
def pairL (l : List Cel) (i : Nat) : Bool := pairs l[i]? l[i + 1]?
def aheadP (p : Option Cel) (l : List Cel) : Nat → Bool
  | 0 => pairs p l[0]?
  | i + 1 => pairL l i
def okP (p : Option Cel) (l : List Cel) (i : Nat) (c : Cel) : Bool := c.check && (!c.wide || pairL l i) && (!c.tl || aheadP p l i)
def mendP (p : Option Cel) (l : List Cel) (i : Nat) (c : Cel) : Cel := if pairL l i || aheadP p l i || c.plain then c else c.gone
theorem pairL_succ (c : Cel) (l : List Cel) (i : Nat) : pairL (c :: l) (i + 1) = pairL l i := rfl
theorem pairL_zero (c : Cel) (l : List Cel) : pairL (c :: l) 0 = pairs (some c) l[0]? := rfl
theorem aheadP_succ (p : Option Cel) (c : Cel) (l : List Cel) (i : Nat) : aheadP p (c :: l) (i + 1) = aheadP (some c) l i := by cases i <;> rfl
theorem okP_succ (p : Option Cel) (c d : Cel) (l : List Cel) (i : Nat) : okP p (c :: l) (i + 1) d = okP (some c) l i d := by unfold okP; rw [pairL_succ, aheadP_succ]
theorem mendP_succ (p : Option Cel) (c d : Cel) (l : List Cel) (i : Nat) : mendP p (c :: l) (i + 1) d = mendP (some c) l i d := by unfold mendP; rw [pairL_succ, aheadP_succ]
theorem pairs_not {c : Cel} (h : c.opens = false) (d : Option Cel) : pairs (some c) d = false := by cases d <;> simp [pairs, h]
theorem all_cons {p : Option Cel} {c : Cel} {l : List Cel} : (∀ i d, (c :: l)[i]? = some d → okP p (c :: l) i d = true) ↔ (okP p (c :: l) 0 c = true ∧ ∀ i d, l[i]? = some d → okP (some c) l i d = true) := by
  constructor
  · intro h
    refine ⟨h 0 c rfl, fun i d hi => ?_⟩
    have := h (i + 1) d hi
    rwa [okP_succ] at this
  · rintro ⟨h1, h2⟩ i d hi
    cases i with
    | zero => obtain rfl : c = d := by simpa using hi
              exact h1
    | succ i => rw [okP_succ]; exact h2 i d hi
theorem right_iff : ∀ (n : Nat) (l : List Cel) (p : Option Cel), l.length ≤ n → pairs p l[0]? = false → ((∀ i c, l[i]? = some c → okP p l i c = true) ↔ rightL l = true) := by
  intro n
  induction n with
  | zero =>
    intro l p hl _
    obtain rfl := List.eq_nil_of_length_eq_zero (Nat.le_zero.1 hl)
    exact ⟨fun _ => rfl, fun _ i c h => by cases h⟩
  | succ n ih =>
    intro l p hl hp
    cases l with
    | nil => exact ⟨fun _ => rfl, fun _ i c h => by cases h⟩
    | cons c t =>
      have hl' : t.length ≤ n := by simp at hl; omega
      rw [all_cons]
      have ha : aheadP p (c :: t) 0 = false := hp
      cases hpl : c.plain with
      | true =>
        have ho := Cel.plain_opens hpl
        have h0 : okP p (c :: t) 0 c = true := by
          unfold Cel.plain at hpl; simp at hpl
          unfold okP; simp [hpl]
        rw [ih t (some c) hl' (pairs_not ho _)]
        have : rightL (c :: t) = rightL t := by cases t <;> simp [rightL, hpl]
        rw [this]
        exact ⟨fun h => h.2, fun h => ⟨h0, h⟩⟩
      | false =>
        cases hpr : pairs (some c) t[0]? with
        | true =>
          cases t with
          | nil => simp [pairs] at hpr
          | cons d u =>
            simp [pairs] at hpr
            obtain ⟨ho, rfl⟩ := hpr
            have hu : u.length ≤ n := by simp at hl'; omega
            rw [all_cons, ih u (some c.tail) hu (pairs_not c.tail_opens _)]
            have h0 : okP p (c :: c.tail :: u) 0 c = true := by
              unfold okP
              rw [pairL_zero, Cel.opens_tl ho]
              have hc : c.check = true := by unfold Cel.opens at ho; simp at ho; exact ho.1
              simp [pairs, ho, hc]
            have h1 : okP (some c) (c.tail :: u) 0 c.tail = true := by
              unfold okP
              simp [Cel.tail_check, Cel.tail_wide, aheadP, pairs, ho]
            have hr : rightL (c :: c.tail :: u) = rightL u := by simp [rightL, hpl, ho]
            rw [hr]
            exact ⟨fun h => h.2.2, fun h => ⟨h0, h1, h⟩⟩
        | false =>
          have h0 : okP p (c :: t) 0 c = false := by
            unfold okP
            rw [ha, pairL_zero, hpr]
            unfold Cel.plain at hpl
            cases hc : c.check <;> cases hw : c.wide <;> cases ht : c.tl <;> simp_all
          have hr : rightL (c :: t) = false := by
            cases t with
            | nil => simp [rightL, hpl]
            | cons d u => simp [pairs] at hpr; simp [rightL, hpl]; intro h1 h2; exact absurd h2 (by simpa [h1] using hpr)
          rw [h0, hr]
          simp
theorem mend_at : ∀ (n : Nat) (l : List Cel) (p : Option Cel), l.length ≤ n → pairs p l[0]? = false → ∀ i c, l[i]? = some c → (mendL l)[i]? = some (mendP p l i c) := by
  intro n
  induction n with
  | zero =>
    intro l p hl _ i c hi
    obtain rfl := List.eq_nil_of_length_eq_zero (Nat.le_zero.1 hl)
    cases hi
  | succ n ih =>
    intro l p hl hp i x hi
    cases l with
    | nil => cases hi
    | cons c t =>
      have hl' : t.length ≤ n := by simp at hl; omega
      have ha : aheadP p (c :: t) 0 = false := hp
      cases hpr : pairs (some c) t[0]? with
      | true =>
        cases t with
        | nil => simp [pairs] at hpr
        | cons d u =>
          simp [pairs] at hpr
          obtain ⟨ho, rfl⟩ := hpr
          have hu : u.length ≤ n := by simp at hl'; omega
          have hm : mendL (c :: c.tail :: u) = c :: c.tail :: mendL u := by simp [mendL, Cel.opens_plain ho, ho]
          rw [hm]
          match i, hi with
          | 0, hi =>
            obtain rfl : c = x := by simpa using hi
            simp [mendP, pairL_zero]
            simp [pairs, ho]
          | 1, hi =>
            obtain rfl : c.tail = x := by simpa using hi
            rw [mendP_succ]
            simp [mendP, aheadP, pairs, ho]
          | i + 2, hi =>
            rw [mendP_succ, mendP_succ]
            exact ih u (some c.tail) hu (pairs_not c.tail_opens _) i x hi
      | false =>
        have hm : mendL (c :: t) = (if c.plain then c else c.gone) :: mendL t := by
          cases t with
          | nil => simp [mendL]
          | cons d u =>
            simp [pairs] at hpr
            cases hpl : c.plain
            · cases ho : c.opens
              · simp [mendL, hpl, ho]
              · simp [mendL, hpl, ho, hpr ho]
            · simp [mendL, hpl]
        rw [hm]
        cases i with
        | zero =>
          obtain rfl : c = x := by simpa using hi
          simp only [List.getElem?_cons_zero]
          unfold mendP
          rw [ha, pairL_zero, hpr]
          simp
        | succ i =>
          rw [mendP_succ]
          exact ih t (some c) hl' hpr i x hi
theorem mendL_len : ∀ (n : Nat) (l : List Cel), l.length ≤ n → (mendL l).length = l.length := by
  intro n
  induction n with
  | zero => intro l hl; obtain rfl := List.eq_nil_of_length_eq_zero (Nat.le_zero.1 hl); rfl
  | succ n ih =>
    intro l hl
    match l, hl with
    | [], _ => rfl
    | [c], _ => simp [mendL]
    | c :: d :: u, hl =>
      simp only [List.length_cons] at hl
      have h1 := ih (d :: u) (by simp only [List.length_cons]; omega)
      have h2 := ih u (by omega)
      unfold mendL
      repeat' split
      all_goals simp only [List.length_cons] at *
      all_goals omega
theorem mendL_length (l : List Cel) : (mendL l).length = l.length := mendL_len _ l (Nat.le_refl _)
/-- What was mended is right. -/
theorem mendL_right : ∀ (n : Nat) (l : List Cel), l.length ≤ n → rightL (mendL l) = true := by
  intro n
  induction n with
  | zero => intro l hl; obtain rfl := List.eq_nil_of_length_eq_zero (Nat.le_zero.1 hl); rfl
  | succ n ih =>
    intro l hl
    have hcons : ∀ (x : Cel) (t : List Cel), x.plain = true → rightL t = true → rightL (x :: t) = true := fun x t hx ht => by cases t <;> simp [rightL, hx, ht]
    match l, hl with
    | [], _ => rfl
    | [c], _ =>
      unfold mendL
      cases hp : c.plain
      · exact hcons _ _ c.gone_plain rfl
      · exact hcons _ _ hp rfl
    | c :: d :: u, hl =>
      simp only [List.length_cons] at hl
      have h1 := ih (d :: u) (by simp only [List.length_cons]; omega)
      have h2 := ih u (by omega)
      unfold mendL
      split
      · rename_i hp; exact hcons _ _ hp h1
      · split
        · rename_i hp ho
          simp at ho
          obtain ⟨ho, rfl⟩ := ho
          simp [rightL, hp, ho, h2]
        · exact hcons _ _ c.gone_plain h1
/-- A right row is not changed. -/
theorem mendL_same : ∀ (n : Nat) (l : List Cel), l.length ≤ n → rightL l = true → mendL l = l := by
  intro n
  induction n with
  | zero => intro l hl _; obtain rfl := List.eq_nil_of_length_eq_zero (Nat.le_zero.1 hl); rfl
  | succ n ih =>
    intro l hl hr
    match l, hl, hr with
    | [], _, _ => rfl
    | [c], _, hr => simp [rightL] at hr; simp [mendL, hr]
    | c :: d :: u, hl, hr =>
      simp only [List.length_cons] at hl
      unfold rightL at hr
      unfold mendL
      split at hr
      · rename_i hp
        rw [if_pos hp, ih (d :: u) (by simp only [List.length_cons]; omega) hr]
      · rename_i hp
        simp at hr
        rw [if_neg hp, if_pos (by simp [hr.1]), ih u (by omega) hr.2]
theorem mendL_again (l : List Cel) : mendL (mendL l) = mendL l := mendL_same _ _ (Nat.le_refl _) (mendL_right _ l (Nat.le_refl _))
theorem kept_iff (l : List Cel) : (l = mendL l) ↔ rightL l = true :=
  ⟨fun h => by rw [h]; exact mendL_right _ l (Nat.le_refl _), fun h => (mendL_same _ l (Nat.le_refl _) h).symm⟩
theorem mendL_ok {l : List Cel} (h : ∀ c, c ∈ l → c.ok) : ∀ c, c ∈ mendL l → c.ok := by
  intro c hc
  obtain ⟨i, hi⟩ := List.getElem?_of_mem hc
  have hl : i < l.length := by rw [← mendL_length l]; exact (List.getElem?_eq_some_iff.1 hi).1
  have hli : l[i]? = some l[i] := List.getElem?_eq_getElem hl
  have := mend_at _ l none (Nat.le_refl _) rfl i _ hli
  rw [hi] at this
  injection this with this
  rw [this]
  unfold mendP
  split
  · exact h _ (List.getElem_mem hl)
  · exact Cel.ok_gone (h _ (List.getElem_mem hl))
end Go.Proofs.YtgnknliaeoblhabDoor
