/- Bytes in a row of their own: made of a text, read back, turned. -/
import Derived.Test.YtlcnicgjlddldaaDoorSumC
import Derived.Lib.ConvBytes
import Derived.Deep.CutRange
import Derived.Deep.RegionWith
import Derived.Laws.BytesArg
import Derived.Laws.IdiomStrings
namespace Go.Proofs.YtlcnicgjlddldaaDoor
open Go Go.RowKit

structure BytesAt (w : World) (g : Nat) (l : List UInt8) : Prop where
  blk : ∃ arr : Array Value, w.heap[g]? = some (.cells arr 5 (arr.size, arr.size + 1)) ∧ l.length ≤ arr.size
  cell : ∀ j b, l[j]? = some b → w.cell? ⟨g, j, none⟩ = some (.int .u8 b.toNat)
theorem BytesAt.frozen {w : World} {g : Nat} {l : List UInt8} (h : BytesAt w g l) {j : Nat} (hj : j < l.length) : w.frozen? ⟨g, j, none⟩ = false := by
  obtain ⟨arr, hb, hl⟩ := h.blk
  simp [World.frozen?, hb]
  omega
theorem heap_set_fr {w : World} {b i : Nat} {cs : Array Value} {T : TypeId} {fr : Nat × Nat} (hb : w.heap[b]? = some (.cells cs T fr)) (v : Value) :
    (w.setCell ⟨b, i, none⟩ v).heap[b]? = some (.cells (cs.setIfInBounds i v) T fr) := by
  simp [World.setCell, Array.getElem?_modify, hb]
theorem BytesAt.set {w : World} {g : Nat} {l : List UInt8} (h : BytesAt w g l) {j : Nat} (hj : j < l.length) (v : UInt8) : BytesAt (w.setCell ⟨g, j, none⟩ (.int .u8 v.toNat)) g (l.set j v) := by
  obtain ⟨⟨arr, hb, hl⟩, hc⟩ := h
  refine ⟨⟨arr.setIfInBounds j (.int .u8 v.toNat), ?_, by simpa using hl⟩, fun i b hi => ?_⟩
  · rw [heap_set_fr hb]; simp
  · by_cases he : j = i
    · subst he
      rw [List.getElem?_set_self hj] at hi
      obtain rfl := Option.some.inj hi
      exact World.cell?_setCell_same _ _ _ (hc j _ (List.getElem?_eq_getElem hj))
    · rw [List.getElem?_set_ne he] at hi
      rw [World.cell?_setCell_other _ _ _ _ (fun e => he (by injection e))]
      exact hc i b hi
theorem BytesAt.below {w w' : World} {g B : Nat} {l : List UInt8} (h : BytesAt w g l) (hb : Below B w w') (hg : g < B) : BytesAt w' g l := by
  obtain ⟨⟨arr, hb1, hz⟩, h1⟩ := h
  exact ⟨⟨arr, (hb.block g hg).trans hb1, hz⟩, fun i b hi => (hb.cell hg).trans (h1 i b hi)⟩
theorem BytesAt.lt {w : World} {g : Nat} {l : List UInt8} (h : BytesAt w g l) : g < w.heap.size := by
  obtain ⟨arr, hb, _⟩ := h.blk
  exact (Array.getElem?_eq_some_iff.1 hb).1
theorem BytesAt.ext {w w' : World} {g : Nat} {l : List UInt8} (h : BytesAt w g l) (hb : Ext w w') : BytesAt w' g l := h.below hb h.lt
theorem BytesAt.drew {w : World} {g : Nat} {l : List UInt8} (h : BytesAt w g l) : BytesAt w.drew g l := ⟨h.blk, h.cell⟩
theorem BytesAt.drewN {w : World} {g : Nat} {l : List UInt8} (h : BytesAt w g l) (n : Nat) : BytesAt (w.drewN n) g l := ⟨h.blk, h.cell⟩
/-- '[]byte(s)'. -/
theorem conv_bytes (w : World) (s : ByteArray) : (convert 9 56 (.string s)).run Tryd.prog w = .ok (.slice (some ⟨w.heap.size, 0, none⟩) s.size (grownCap w s.size 0 5)) (Lib.bytesWorld w 5 s) :=
  Lib.run_convert_string_bytes w _ _ _ s Tryd.underlying9 Tryd.underlying56 Tryd.underlying5
theorem conv_bytes_at (w : World) (s : ByteArray) : BytesAt (Lib.bytesWorld w 5 s) w.heap.size (bts s) ∧ Ext w (Lib.bytesWorld w 5 s) := by
  refine ⟨⟨⟨_, Lib.bytesWorld_at_new w _ s, ?_⟩, fun j b hj => ?_⟩, ⟨?_, ?_, ?_, ?_, fun k hk => Lib.bytesWorld_at_old w _ s k hk⟩⟩
  · simp [Lib.bytesCells, bts]
  · have hl : j < s.size := by
      have := (List.getElem?_eq_some_iff.1 hj).1
      rwa [bts_len] at this
    rw [Lib.bytesWorld_cell w _ s j hl]
    have : s.data.toList.getD j 0 = b := by
      show (bts s).getD j 0 = b
      rw [List.getD_eq_getElem?_getD, hj]; rfl
    rw [this]
  · rfl
  · rfl
  · rfl
  · rw [Lib.bytesWorld_size]; omega
theorem bts_mk (l : List UInt8) : bts ⟨l.toArray⟩ = l := by simp [bts]
theorem size_mk (l : List UInt8) : (⟨l.toArray⟩ : ByteArray).size = l.length := by rw [← bts_len, bts_mk]
/-- 'string(b)'. -/
theorem conv_back (w : World) (g cap : Nat) (l : List UInt8) (h : BytesAt w g l) : (convert 56 9 (.slice (some ⟨g, 0, none⟩) l.length cap)).run Tryd.prog w = .ok (.string ⟨l.toArray⟩) w :=
  run_convert_bytes_back w _ _ 5 ⟨g, 0, none⟩ cap l Tryd.underlying56 Tryd.underlying5 Tryd.underlying9 fun j hj => by
    have e : (⟨g, 0, none⟩ : Addr).add j = ⟨g, j, none⟩ := by unfold Addr.add; split <;> simp_all
    rw [e]
    exact h.cell j _ (List.getElem?_eq_getElem hj)

/-- The first so many of four bytes turned. -/
def flips (l : List UInt8) (k : Nat) (bf : Nat → Nat) : Nat → List UInt8
  | 0 => l
  | i + 1 => (flips l k bf i).set (k + i) (UInt8.ofNat (((flips l k bf i).getD (k + i) 0).toNat ^^^ bf i))
theorem flips_len (l : List UInt8) (k : Nat) (bf : Nat → Nat) : ∀ i, (flips l k bf i).length = l.length
  | 0 => rfl
  | i + 1 => by rw [flips, List.length_set, flips_len l k bf i]
theorem four_parts {l : List UInt8} {k : Nat} (h : k + 4 ≤ l.length) : ∃ pre a b c d post, l = pre ++ [a, b, c, d] ++ post ∧ pre.length = k := by
  refine ⟨l.take k, l[k], l[k + 1], l[k + 2], l[k + 3], l.drop (k + 4), ?_, by rw [List.length_take]; omega⟩
  conv => lhs; rw [← List.take_append_drop k l]
  rw [List.append_assoc]
  congr 1
  rw [List.drop_eq_getElem_cons (by omega), List.drop_eq_getElem_cons (by omega), List.drop_eq_getElem_cons (by omega), List.drop_eq_getElem_cons (by omega)]
  rfl
theorem set_at (pre post : List UInt8) (a v : UInt8) (k : Nat) (hk : k = pre.length) : (pre ++ a :: post).set k v = pre ++ v :: post ∧ (pre ++ a :: post).getD k 0 = a := by
  subst hk
  constructor
  · rw [List.set_append_right _ _ (Nat.le_refl _), Nat.sub_self]; rfl
  · rw [List.getD_eq_getElem?_getD, List.getElem?_append_right (Nat.le_refl _), Nat.sub_self]; rfl
def xb (a : UInt8) (b : Nat) : UInt8 := UInt8.ofNat (a.toNat ^^^ b)
theorem flips_step {l : List UInt8} {k i : Nat} {bf : Nat → Nat} {pre post : List UInt8} {a : UInt8} (h : flips l k bf i = pre ++ a :: post) (hk : k + i = pre.length) : flips l k bf (i + 1) = pre ++ xb a (bf i) :: post := by
  rw [flips, h, (set_at pre post a 0 _ hk).2, (set_at pre post a _ _ hk).1]; rfl
theorem flips_four (pre post : List UInt8) (a b c d : UInt8) (bf : Nat → Nat) : flips (pre ++ [a, b, c, d] ++ post) pre.length bf 4 = pre ++ [xb a (bf 0), xb b (bf 1), xb c (bf 2), xb d (bf 3)] ++ post := by
  have e0 : flips (pre ++ [a, b, c, d] ++ post) pre.length bf 0 = pre ++ a :: (b :: c :: d :: post) := by rw [flips]; simp
  have e1 := flips_step e0 (by simp)
  rw [show pre ++ xb a (bf 0) :: (b :: c :: d :: post) = (pre ++ [xb a (bf 0)]) ++ b :: (c :: d :: post) from by simp] at e1
  have e2 := flips_step e1 (by simp)
  rw [show (pre ++ [xb a (bf 0)]) ++ xb b (bf (0 + 1)) :: (c :: d :: post) = (pre ++ [xb a (bf 0), xb b (bf 1)]) ++ c :: (d :: post) from by simp] at e2
  have e3 := flips_step e2 (by simp)
  rw [show (pre ++ [xb a (bf 0), xb b (bf 1)]) ++ xb c (bf (0 + 1 + 1)) :: (d :: post) = (pre ++ [xb a (bf 0), xb b (bf 1), xb c (bf 2)]) ++ d :: post from by simp] at e3
  have e4 := flips_step e3 (by simp)
  rw [e4]; simp
theorem xb_same (a : UInt8) (b : Nat) (hb : b < 256) : xb a b = a ↔ b = 0 := by
  unfold xb
  have ha := a.toNat_lt
  constructor
  · intro h
    have h1 := congrArg UInt8.toNat h
    rw [UInt8.toNat_ofNat', Nat.mod_eq_of_lt (xor_lt8 ha hb)] at h1
    have h2 := congrArg (fun z => a.toNat ^^^ z) h1
    rwa [← Nat.xor_assoc, Nat.xor_self, Nat.zero_xor] at h2
  · rintro rfl
    rw [Nat.xor_zero]; simp
theorem flips_sum {l : List UInt8} {k : Nat} {bf : Nat → Nat} (h : k + 4 ≤ l.length) (hb : ∀ i, bf i < 256) : sumOf (flips l k bf 4) = sumOf l ↔ ∀ j, j < 4 → bf j = 0 := by
  obtain ⟨pre, a, b, c, d, post, rfl, rfl⟩ := four_parts h
  rw [flips_four]
  constructor
  · intro he
    obtain ⟨h0, h1, h2, h3⟩ := sumOf_differ pre post _ _ _ _ _ _ _ _ he
    intro j hj
    match j, hj with
    | 0, _ => exact (xb_same _ _ (hb 0)).1 h0
    | 1, _ => exact (xb_same _ _ (hb 1)).1 h1
    | 2, _ => exact (xb_same _ _ (hb 2)).1 h2
    | 3, _ => exact (xb_same _ _ (hb 3)).1 h3
  · intro he
    rw [(xb_same _ _ (hb 0)).2 (he 0 (by omega)), (xb_same _ _ (hb 1)).2 (he 1 (by omega)), (xb_same _ _ (hb 2)).2 (he 2 (by omega)), (xb_same _ _ (hb 3)).2 (he 3 (by omega))]
theorem tmod_bounds (a b : Int) (h : 0 < b) : -b < a.tmod b ∧ a.tmod b < b := by
  have h1 := Int.tmod_lt_of_pos a h
  have h2 := Int.lt_tmod_of_pos a h
  omega
end Go.Proofs.YtlcnicgjlddldaaDoor
