/- The law CheckTells, walked whole. -/
import Derived.Test.YtlcnicgjlddldaaDoorTells
import Derived.Laws.MakeOwn
namespace Go.Proofs.YtlcnicgjlddldaaDoor
open Go Go.RowKit

theorem infoU8 : (Tryd.prog.info? 5).map (fun i => (i.zero, i.size, i.bytes)) = some (some (.int .u8 0), 1, 1) := by kernel_rfl
theorem i64_and15 (n : Int) : bits .and .i64 n 15 = n % 16 := by
  have h127 : (BitVec.ofInt 64 15).toNat = 2 ^ 4 - 1 := by decide
  have key : (BitVec.ofInt 64 n &&& BitVec.ofInt 64 15).toNat = (n % ((2 ^ 64 : Nat) : Int)).toNat % 2 ^ 4 := by
    rw [BitVec.toNat_and, BitVec.toNat_ofInt, h127, Nat.and_two_pow_sub_one_eq_mod]
  show IntKind.i64.wrap ((BitVec.ofInt 64 n &&& BitVec.ofInt 64 15).toNat : Nat) = n % 16
  rw [key, IntKind.wrap_i64]
  omega
theorem made_zero (n j : Nat) (h : j < n) : (madeCells (Value.int .u8 0).cells (n * 1))[j]? = some (.int .u8 0) := by
  unfold madeCells
  rw [Array.getElem?_map, Array.getElem?_range, if_pos (by omega)]
  simp [Value.cells]
  rw [Nat.mod_one]; rfl
/-- A row of bytes of the call's own. -/
structure BytesOn (w : World) (g : Nat) (f : Nat → Nat) (n : Nat) : Prop where
  blk : ∃ (arr : Array Value) (T : TypeId), w.heap[g]? = some (.cells arr T (0, 0))
  cell : ∀ i, i < n → w.cell? ⟨g, i, none⟩ = some (.int .u8 (f i))
theorem BytesOn.frozen {w : World} {g n : Nat} {f : Nat → Nat} (h : BytesOn w g f n) (i : Nat) : w.frozen? ⟨g, i, none⟩ = false := by
  obtain ⟨arr, T, hb⟩ := h.blk
  simp [World.frozen?, hb]
theorem BytesOn.set {w : World} {g n : Nat} {f : Nat → Nat} (h : BytesOn w g f n) {i : Nat} (hi : i < n) (v : Nat) : BytesOn (w.setCell ⟨g, i, none⟩ (.int .u8 v)) g (fun j => if j = i then v else f j) n := by
  obtain ⟨⟨arr, T, hb⟩, hc⟩ := h
  refine ⟨⟨_, T, heap_set_fr hb _⟩, fun j hj => ?_⟩
  by_cases he : j = i
  · subst he
    rw [if_pos rfl]
    exact World.cell?_setCell_same _ _ _ (hc j hj)
  · rw [if_neg he, World.cell?_setCell_other _ _ _ _ (addr_ne (fun e => he e.symm))]
    exact hc j hj
theorem BytesOn.ext {w w' : World} {g n : Nat} {f : Nat → Nat} (h : BytesOn w g f n) (hx : Ext w w') : BytesOn w' g f n := by
  obtain ⟨⟨arr, T, hb⟩, hc⟩ := h
  exact ⟨⟨arr, T, (hx.block g (Array.getElem?_eq_some_iff.1 hb).1).trans hb⟩, fun i hi => hx.cell (hc i hi)⟩
theorem conv_on (w : World) (g cap n : Nat) (c : Nat) (f : Nat → Nat) (h : BytesOn w g f n) (hc : c < 256) (hf : ∀ i, i < n → f i = c) : (convert 56 9 (.slice (some ⟨g, 0, none⟩) n cap)).run Tryd.prog w = .ok (.string ⟨(List.replicate n (UInt8.ofNat c)).toArray⟩) w := by
  have hl : (List.replicate n (UInt8.ofNat c)).length = n := List.length_replicate
  have := run_convert_bytes_back (P := Tryd.prog) w 56 9 5 ⟨g, 0, none⟩ cap (List.replicate n (UInt8.ofNat c)) Tryd.underlying56 Tryd.underlying5 Tryd.underlying9 (fun j hj => by
    have e : (⟨g, 0, none⟩ : Addr).add j = ⟨g, j, none⟩ := by unfold Addr.add; split <;> simp_all
    rw [e, h.cell j (by omega), hf j (by omega), List.getElem_replicate, UInt8.toNat_ofNat', Nat.mod_eq_of_lt hc])
  rwa [hl] at this
set_option maxHeartbeats 4000000 in
set_option maxRecDepth 100000 in
theorem tellsAll_true (s : ByteArray) (long : Int) (c : Nat) (w : World) (hc : c < 256) (hg : ErrType w) : Calls Tryd.prog 8 #[.string s, .int .i64 long, .int .u8 c] w fun e w' => e = .returned (.bool true) ∧ Ext w w' := by
  have HG := Lib.hid hg; clear hg
  have hsz := shortOf_le s 300
  go_enter Tryd.func8, Tryd.ntmps8
  go_wp2_with fail
  refine (awakeC_true _).mono ?_
  rintro e w1 ⟨rfl, hx1⟩
  go_wp2_with (go_at_call 28; refine (short_of _ 300 _ (by decide)).mono ?_; rintro e w2 ⟨rfl, rfl⟩)
  generalize shortOf s 300 = x at hsz ⊢
  obtain ⟨K, hK, hK15⟩ : ∃ K : Nat, bits .and .i64 long 15 = (K : Int) ∧ K ≤ 15 := by
    refine ⟨(long % 16).toNat, ?_, by omega⟩
    rw [i64_and15]; omega
  obtain ⟨N, hN⟩ : ∃ N : Nat, N = 4090 + K := ⟨_, rfl⟩
  have hw : wrap64 (4090 + (K : Int)) = (N : Int) := by
    rw [show (4090 : Int) + (K : Int) = (N : Int) by omega]
    unfold wrap64; omega
  obtain ⟨i0, hi, hz0, hz1, hz2⟩ := info_parts infoU8
  have hmk := run_make (P := Tryd.prog) w2 56 5 i0 (.int .u8 0) Tryd.underlying56 hi hz0 .i64 .i64 (N : Int) (N : Int) (by omega) (by omega) (by rw [hz2]; omega) (by omega)
  rw [hK, hw, hmk]
  have hM : ∃ M, M = madeCells (Value.int .u8 0).cells ((N : Int).toNat * i0.size) := ⟨_, rfl⟩
  obtain ⟨M, hM⟩ := hM
  rw [← hM]
  have hMa : ∀ j, j < N → M[j]? = some (.int .u8 0) := by
    intro j hj
    rw [hM, hz1]
    exact made_zero _ j (by omega)
  have hO : BytesOn (w2.alloc (.cells M 5)) w2.heap.size (fun _ => 0) N := ⟨⟨_, _, Go.heap_alloc_new _ _⟩, fun j hj => by
    rw [Lib.cell_of_heap (Go.heap_alloc_new _ _)]; exact hMa j hj⟩
  have hX : Ext w (w2.alloc (.cells M 5)) := hx1.alloc _
  generalize w2.alloc (.cells M 5) = w3 at hO hX ⊢
  have hgs := hx1.size
  generalize w2.heap.size = g at hO hgs ⊢
  have hN1 : N ≤ 4105 := by omega
  have hN0 : 4090 ≤ N := by omega
  clear hM hMa hmk hw hK hi hz0 hz1 hz2 hx1
  have HN := Lib.hid hN; clear hN
  have HO := Lib.hid (And.intro hO (And.intro hX hgs)); clear hO hX hgs
  go_wp2
  go_loopg [9] N (fun k i wr => ∃ (j : Nat) (f : Nat → Nat), Hid (j + k = N) ∧ i = .int .i64 j ∧ Hid (BytesOn wr g f N ∧ (∀ m, m < j → f m = c) ∧ Ext w wr))
  case atStart => exact ⟨0, _, Nat.zero_add _, rfl, HO.out.1, fun m hm => absurd hm (by omega), HO.out.2.1⟩
  case round =>
    obtain ⟨j, f, hj, rfl, hinv⟩ := hrel
    by_cases hlt : j < N
    · have c1 := hinv.out.1.cell j hlt
      have f1 := hinv.out.1.frozen j
      have hs := hinv.out.1.set hlt c
      have hE := hinv.out.2.2.setCell (p := ⟨g, j, none⟩) HO.out.2.2 (.int .u8 c)
      have HS := Lib.hid (And.intro hs hE); clear hs hE
      go_wp2
      go_roundg (gk - 1)
      case measure => have := hj.out; omega
      case rel =>
        refine ⟨j + 1, _, ?_, by go_num, HS.out.1, ?_, HS.out.2⟩
        · show j + 1 + (gk - 1) = N
          have := hj.out; omega
        · intro m hm
          split
          · rfl
          · exact hinv.out.2.1 m (by omega)
    · have hE := hinv.out.2.2
      go_wp2_with fail
      refine (tells_true x _ (HG.out.ext hE) (by omega)).mono ?_
      rintro e w4 ⟨rfl, hx4⟩
      have hcv := conv_on w4 g N N c f (hinv.out.1.ext hx4) hc (fun i hi => hinv.out.2.1 i (by omega))
      have hz : (⟨(List.replicate N (UInt8.ofNat c)).toArray⟩ : ByteArray).size = N := by rw [size_mk (List.replicate _ _), List.length_replicate]
      generalize (⟨(List.replicate N (UInt8.ofNat c)).toArray⟩ : ByteArray) = y at hcv hz
      have hE4 := hE.trans hx4
      clear hx4 hE
      go_wp2_with fail
      try rw [hcv]
      try go_wp2_with fail
      refine (tells_true y _ (HG.out.ext hE4) (by omega)).mono ?_
      rintro e w5 ⟨rfl, hx5⟩
      have hE5 := hE4.trans hx5
      clear hx5 hE4 hcv
      go_wp2_with fail
      refine (Sum_text x _ (by omega)).mono ?_
      rintro e w6 ⟨rfl, hx6⟩
      have hE6 := hE5.trans hx6
      clear hx6 hE5
      go_wp2_with fail
      refine (refSum_of x _ (by omega)).mono ?_
      rintro e w7 ⟨rfl, rfl⟩
      go_wp2
      go_ret
      exact ⟨rfl, hE6⟩
end Go.Proofs.YtlcnicgjlddldaaDoor
