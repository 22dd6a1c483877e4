/- The chapter's example; the law PenColours, walked. -/
import Derived.Test.YtgnknliaeoblhabDoorPenF
import Derived.Test.YtgnknliaeoblhabDoorClass
import Derived.Deep.RegionLaw
import Derived.StillTailTactics
namespace Go.Proofs.YtgnknliaeoblhabDoor
open Go Go.RowKit

theorem IsInts.of_blk {W : World} {g : Nat} {t : TypeId} {l : List Int} (h : Blk W g t (l.map fun x => Value.int .i64 x).toArray) (hk : ∀ x, x ∈ l → isI64 x) : IsInts W (.slice (some ⟨g, 0, none⟩) l.length l.length) l := by
  refine ⟨_, _, rfl, ⟨Nat.le_refl _, fun e => by cases e⟩, fun i n hi => ⟨hk n (List.mem_of_getElem? hi), g, 0, rfl, ?_⟩⟩
  rw [Nat.zero_add, Blk.cell h i, List.getElem?_toArray, List.getElem?_map, hi]; rfl
theorem awake_pen : penP ⟨0, 0, 0, 0⟩ 4 109 0 0 5 [1, 38, 5, 9, 7, 0, 0, 0] = ⟨0, 9, 0, 33⟩ := by decide +kernel
set_option maxHeartbeats 2000000 in
set_option maxRecDepth 100000 in
theorem awakeP_true (w : World) (hW : Ways w) : Calls Tryd.prog 7 #[] w fun e w' => e = .returned (.bool true) ∧ Ext w w' := by
  have H := Lib.hid (fun V (h : Ext w V) => Apply_of ⟨0, 0, 0, 0⟩ 4 109 0 0 5 1 38 5 9 7 0 0 0 V (hW.ext h)); clear hW
  rw [awake_pen] at H
  go_enter Tryd.func7, Tryd.ntmps7
  go_wp2_with fail
  refine (H.out _ (Ext.refl w)).mono ?_
  rintro e w1 ⟨rfl, hx⟩
  dsimp only [Cel.val]
  have H1 := Lib.hid hx; clear hx
  go_wp2
  go_ret
  exact ⟨rfl, H1.out.alloc _⟩
theorem low8 (m : Int) : ∃ K : Nat, K < 256 ∧ bits .and .i64 m 255 = (K : Int) := by
  have h := i64_mask m 8 (by decide) 255 (by decide)
  have e : ((2 ^ 8 : Nat) : Int) = 256 := by decide
  rw [e] at h
  exact ⟨(m % 256).toNat, by omega, by rw [h]; omega⟩
theorem col48 (k : Nat) (h : k < 256) : penP ⟨0, 0, 0, 0⟩ 4 109 0 0 3 [48, 5, k, 0, 0, 0, 0, 0] = ⟨0, 0, max (k : Int) 1, 0⟩ := by
  have e : penP ⟨0, 0, 0, 0⟩ 4 109 0 0 3 [48, 5, k, 0, 0, 0, 0, 0] = ⟨0, 0, if 0 ≤ (k : Int) ∧ (k : Int) ≤ 255 then colP k else 0, 0⟩ := rfl
  rw [e, if_pos (by omega)]; rfl
theorem col38 : penP ⟨0, 0, 0, 0⟩ 4 109 0 0 3 [38, 5, 0, 0, 0, 0, 0, 0] = ⟨0, 1, 0, 0⟩ := by decide +kernel
theorem pad38 : padP [38, 5, 0] 3 = [38, 5, 0, 0, 0, 0, 0, 0] := by decide
set_option maxHeartbeats 4000000 in
set_option maxRecDepth 100000 in
theorem penColours_true (q0 q1 q2 n : Int) (w : World) (hW : Ways w) : Calls Tryd.prog 6 #[.agg #[.int .i64 q0, .int .i64 q1, .int .i64 q2], .int .i64 n] w fun e w' => e = .returned (.bool true) ∧ Ext w w' := by
  have hb1 := rgbP_in q0 q1 q2
  have hb2 := rgbP_in (max q0 100) (max q1 100) (max q2 100)
  have hb3 : rgbP q0 q1 q2 ≤ rgbP (max q0 100) (max q1 100) (max q2 100) := rgbP_mono (by omega) (by omega) (by omega)
  have hc1 := fun V => Colour_of q0 q1 q2 V
  have hc2 := fun V => Colour_of (max q0 100) (max q1 100) (max q2 100) V
  obtain ⟨K, hK, hKb⟩ := low8 n
  have HC := Lib.hid (And.intro hc1 (And.intro hc2 hW)); clear hc1 hc2 hW
  generalize rgbP q0 q1 q2 = a at HC hb1 hb3
  generalize rgbP (max q0 100) (max q1 100) (max q2 100) = b at HC hb2 hb3
  generalize hm0 : max q0 100 = m0 at HC
  generalize hm1 : max q1 100 = m1 at HC
  generalize hm2 : max q2 100 = m2 at HC
  have ha64 : wrap64 a = a := by unfold wrap64; omega
  have hb64 : wrap64 b = b := by unfold wrap64; omega
  have hblk : Blk (w.alloc (.cells #[.int .i64 q0, .int .i64 q1, .int .i64 q2] 43)) w.heap.size 43 #[.int .i64 q0, .int .i64 q1, .int .i64 q2] := Go.heap_alloc_new w _
  have hx0 : Ext w (w.alloc (.cells #[.int .i64 q0, .int .i64 q1, .int .i64 q2] 43)) := (Ext.refl w).alloc _
  have HB := Lib.hid (And.intro hblk hx0); clear hblk hx0
  go_enter Tryd.func6, Tryd.ntmps6
  go_wp2_with fail
  refine (awakeP_true _ (HC.out.2.2.ext HB.out.2)).mono ?_
  rintro e w1 ⟨rfl, hx⟩
  have H1 := Lib.hid (And.intro (Blk.ext HB.out.1 hx) (HB.out.2.trans hx)); clear hx HB
  have k0 : w1.cell? ⟨w.heap.size, 0, none⟩ = some (.int .i64 q0) := H1.out.1.cell 0
  have k1 : w1.cell? ⟨w.heap.size, 1, none⟩ = some (.int .i64 q1) := H1.out.1.cell 1
  have k2 : w1.cell? ⟨w.heap.size, 2, none⟩ = some (.int .i64 q2) := H1.out.1.cell 2
  go_wp2_with fail
  refine (HC.out.1 _).mono ?_
  rintro e w2 ⟨rfl, hx⟩
  have H2 := Lib.hid (And.intro (Blk.ext H1.out.1 hx) (H1.out.2.trans hx)); clear hx H1 k0 k1 k2
  have k0 : w2.cell? ⟨w.heap.size, 0, none⟩ = some (.int .i64 q0) := H2.out.1.cell 0
  have k1 : w2.cell? ⟨w.heap.size, 1, none⟩ = some (.int .i64 q1) := H2.out.1.cell 1
  have k2 : w2.cell? ⟨w.heap.size, 2, none⟩ = some (.int .i64 q2) := H2.out.1.cell 2
  go_wp2_with fail
  refine (HC.out.2.1 _).mono ?_
  rintro e w3 ⟨rfl, hx⟩
  have H3 := Lib.hid (H2.out.2.trans hx); clear hx H2 k0 k1 k2
  go_wp2_with fail
  have hi3 : IsInts (w3.alloc (.cells #[.int .i64 38, .int .i64 5, .int .i64 0] 3)) (.slice (some ⟨w3.heap.size, 0, none⟩) 3 3) [38, 5, 0] := IsInts.of_blk (l := [38, 5, 0]) (t := 3) (Go.heap_alloc_new w3 _) (by intro x hx; simp at hx; unfold isI64; omega)
  refine (act_of [38, 5, 0] _ _ hi3 (by decide)).mono ?_
  rintro e w4 ⟨n0, n1, n2, n3, n4, n5, n6, n7, rfl, hp, hx⟩
  rw [show min ([38, 5, 0] : List Int).length 8 = 3 from rfl, pad38] at hp
  injection hp with e0 hp
  injection hp with e1 hp
  injection hp with e2 hp
  injection hp with e3 hp
  injection hp with e4 hp
  injection hp with e5 hp
  injection hp with e6 hp
  injection hp with e7 hp
  subst e0 e1 e2 e3 e4 e5 e6 e7
  rw [show ((min ([38, 5, 0] : List Int).length 8 : Nat) : Int) = 3 from rfl]
  have H4 := Lib.hid ((H3.out.alloc (.cells #[.int .i64 38, .int .i64 5, .int .i64 0] 3)).trans hx); clear hx hi3 hp H3
  have HA := Lib.hid (Apply_of ⟨0, 0, 0, 0⟩ 4 109 0 0 3 38 5 0 0 0 0 0 0 w4 (HC.out.2.2.ext H4.out))
  rw [col38] at HA
  go_wp2_with fail
  refine HA.out.mono ?_
  rintro e w5 ⟨rfl, hx⟩
  dsimp only [Cel.val]
  have HBl := Lib.hid (show Blk (w5.alloc (.cells #[.int .i32 0, .int .u8 1, .int .u8 0, .int .u8 0] 23)) w5.heap.size 23 #[.int .i32 0, .int .u8 1, .int .u8 0, .int .u8 0] from Go.heap_alloc_new w5 _)
  have H5 := Lib.hid ((H4.out.trans hx).alloc (.cells #[.int .i32 0, .int .u8 1, .int .u8 0, .int .u8 0] 23)); clear hx HA H4
  have HA := Lib.hid (Apply_of ⟨0, 0, 0, 0⟩ 4 109 0 0 3 48 5 K 0 0 0 0 0 _ (HC.out.2.2.ext H5.out))
  rw [col48 K hK] at HA
  go_wp2_with fail
  refine HA.out.mono ?_
  rintro e w6 ⟨rfl, hx⟩
  dsimp only [Cel.val]
  have c1 : w6.cell? ⟨w5.heap.size, 1, none⟩ = some (.int .u8 1) := Blk.cell (Blk.ext HBl.out hx) 1
  have hx6 := Lib.hid (H5.out.trans hx); clear hx HA H5 HBl
  obtain ⟨Z, hZ⟩ : ∃ Z, max (K : Int) 1 = Z := ⟨_, rfl⟩
  have hZ8 : 1 ≤ Z ∧ Z ≤ 255 := by omega
  have hZw : wrap64 Z = Z := by unfold wrap64; omega
  rw [hZ]
  have hlt : w5.heap.size < w6.heap.size := lt_of_cell c1
  go_wp2
  go_ret
  exact ⟨by simp, hx6.out.alloc _⟩
end Go.Proofs.YtgnknliaeoblhabDoor
