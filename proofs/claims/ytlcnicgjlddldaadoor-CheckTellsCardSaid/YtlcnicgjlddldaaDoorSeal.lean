/- The bytes that stand behind a wrapped text. -/
import Derived.Test.YtlcnicgjlddldaaDoorSumD
import Derived.Test.YtlcnicgjlddldaaDoorBytes
namespace Go.Proofs.YtlcnicgjlddldaaDoor
open Go Go.RowKit

/-- An array of four bytes of the call's own. -/
structure Arr4 (w : World) (g : Nat) (f : Nat → Nat) : Prop where
  blk : ∃ (arr : Array Value) (T : TypeId), w.heap[g]? = some (.cells arr T (0, 0))
  cell : ∀ i, i < 4 → w.cell? ⟨g, i, none⟩ = some (.int .u8 (f i))
theorem Arr4.frozen {w : World} {g : Nat} {f : Nat → Nat} (h : Arr4 w g f) (i : Nat) : w.frozen? ⟨g, i, none⟩ = false := by
  obtain ⟨arr, T, hb⟩ := h.blk
  simp [World.frozen?, hb]
theorem Arr4.set {w : World} {g : Nat} {f : Nat → Nat} (h : Arr4 w g f) {i : Nat} (hi : i < 4) (v : Nat) : Arr4 (w.setCell ⟨g, i, none⟩ (.int .u8 v)) g (fun j => if j = i then v else f j) := by
  obtain ⟨⟨arr, T, hb⟩, hc⟩ := h
  refine ⟨⟨_, T, heap_set_fr hb _⟩, fun j hj => ?_⟩
  by_cases he : j = i
  · subst he
    rw [if_pos rfl]
    exact World.cell?_setCell_same _ _ _ (hc j hj)
  · rw [if_neg he, World.cell?_setCell_other _ _ _ _ (addr_ne (fun e => he e.symm))]
    exact hc j hj
def leByte (n i : Nat) : Nat := n / 256 ^ i % 256
theorem le4_at (n i : Nat) (h : i < (le4 n).length) : (le4 n)[i].toNat = leByte n i := by
  unfold leByte
  match i, h with
  | 0, _ => show (UInt8.ofNat n).toNat = _; simp
  | 1, _ => show (UInt8.ofNat (n / 256)).toNat = _; simp
  | 2, _ => show (UInt8.ofNat (n / 65536)).toNat = _; simp
  | 3, _ => show (UInt8.ofNat (n / 16777216)).toNat = _; simp
theorem conv_le4 (w : World) (g cap n : Nat) (f : Nat → Nat) (h : Arr4 w g f) (hf : ∀ i, i < 4 → f i = leByte n i) : (convert 56 9 (.slice (some ⟨g, 0, none⟩) 4 cap)).run Tryd.prog w = .ok (.string ⟨(le4 n).toArray⟩) w :=
  run_convert_bytes_back w _ _ 5 ⟨g, 0, none⟩ cap (le4 n) Tryd.underlying56 Tryd.underlying5 Tryd.underlying9 fun j hj => by
    have e : (⟨g, 0, none⟩ : Addr).add j = ⟨g, j, none⟩ := by unfold Addr.add; split <;> simp_all
    rw [e, le4_at n j hj, ← hf j hj]
    exact h.cell j hj
set_option maxHeartbeats 4000000 in
set_option maxRecDepth 100000 in
theorem sealed_of (s : ByteArray) (w : World) (hs : s.size < 9223372036854775807) : Calls Tryd.prog 55 #[.string s] w fun e w' => e = .returned (.string ⟨(le4 (sumOf (bts s))).toArray⟩) ∧ Ext w w' := by
  have hn := sumOf_lt (bts s)
  go_enter Tryd.func55, Tryd.ntmps55
  go_wp2_with fail
  refine (Sum_text _ _ hs).mono ?_
  rintro e w2 ⟨rfl, hx2⟩
  generalize hN : sumOf (bts s) = n at hn ⊢
  have HN := Lib.hid hN; clear hN
  have HS := Lib.hid (And.intro hs hx2); clear hs hx2
  go_wp2
  go_loopg [8] 4 (fun k c wr => ∃ (i : Nat) (f : Nat → Nat), Hid (i + k = 4) ∧ c = .int .i64 i ∧ Hid (Arr4 wr w2.heap.size f ∧ (∀ j, j < i → f j = leByte n j) ∧ Ext w2 wr))
  case atStart =>
    refine ⟨0, fun _ => 0, Nat.zero_add _, rfl, ⟨⟨_, _, Go.heap_alloc_new _ _⟩, fun i hi => ?_⟩, fun j hj => absurd hj (by omega), (Ext.refl w2).alloc _⟩
    rw [Lib.cell_of_heap (Go.heap_alloc_new _ _)]
    match i, hi with
    | 0, _ => rfl
    | 1, _ => rfl
    | 2, _ => rfl
    | 3, _ => rfl
  case round =>
    obtain ⟨i, f, hi, rfl, hinv⟩ := hrel
    by_cases hi4 : i < 4
    · have c1 := hinv.out.1.cell i hi4
      have f1 := hinv.out.1.frozen i
      have hset := Lib.hid (hinv.out.1.set hi4 (leByte n i))
      have KEY := Lib.hid hset; clear hset
      have hv0 : (n : Int) % 256 = ((leByte n 0 : Nat) : Int) := by unfold leByte; omega
      have hv1 : (n : Int) / 256 % 256 = ((leByte n 1 : Nat) : Int) := by unfold leByte; omega
      have hv2 : (n : Int) / 65536 % 256 = ((leByte n 2 : Nat) : Int) := by unfold leByte; omega
      have hv3 : (n : Int) / 16777216 = ((leByte n 3 : Nat) : Int) := by unfold leByte; omega
      rcases (show i = 0 ∨ i = 1 ∨ i = 2 ∨ i = 3 by omega) with rfl | rfl | rfl | rfl
      · go_wp2
        go_roundg (gk - 1)
        case measure => have := hi.out; omega
        case rel =>
          refine ⟨1, _, ?_, by go_num, KEY.out, ?_, hinv.out.2.2.setCell (Nat.le_refl _) _⟩
          · show 1 + (gk - 1) = 4
            have := hi.out; omega
          · intro j hj
            split
            · rename_i h; rw [h]
            · exact hinv.out.2.1 j (by omega)
      · go_wp2
        go_roundg (gk - 1)
        case measure => have := hi.out; omega
        case rel =>
          refine ⟨2, _, ?_, by go_num, KEY.out, ?_, hinv.out.2.2.setCell (Nat.le_refl _) _⟩
          · show 2 + (gk - 1) = 4
            have := hi.out; omega
          · intro j hj
            split
            · rename_i h; rw [h]
            · exact hinv.out.2.1 j (by omega)
      · go_wp2
        go_roundg (gk - 1)
        case measure => have := hi.out; omega
        case rel =>
          refine ⟨3, _, ?_, by go_num, KEY.out, ?_, hinv.out.2.2.setCell (Nat.le_refl _) _⟩
          · show 3 + (gk - 1) = 4
            have := hi.out; omega
          · intro j hj
            split
            · rename_i h; rw [h]
            · exact hinv.out.2.1 j (by omega)
      · go_wp2
        go_roundg (gk - 1)
        case measure => have := hi.out; omega
        case rel =>
          refine ⟨4, _, ?_, by go_num, KEY.out, ?_, hinv.out.2.2.setCell (Nat.le_refl _) _⟩
          · show 4 + (gk - 1) = 4
            have := hi.out; omega
          · intro j hj
            split
            · rename_i h; rw [h]
            · exact hinv.out.2.1 j (by omega)
    · go_wp2
      have hi' : i = 4 := by have := hi.out; omega
      have hc := conv_le4 wr w2.heap.size 4 n f hinv.out.1 (fun j hj => hinv.out.2.1 j (by omega))
      rw [hc]
      go_wp2
      go_ret
      exact ⟨by rw [HN.out]; rfl, HS.out.2.trans hinv.out.2.2⟩
end Go.Proofs.YtlcnicgjlddldaaDoor
