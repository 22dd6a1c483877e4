/- The law PenSets, walked. · The end of a row's proof where of the world behind the call 'Ext' alone is known, and the row's specification hands the arguments back and reads no variable. · Arguments opened: a slice of characters; it reads behind the call as it did. · Arguments that are rows of cells, or a cell, opened; they read behind the call as they did. · From the rows' condition on the listed variables to the walks' facts; a world that meets it. -/
import Derived.Test.YtgnknliaeoblhabDoorV1
import Derived.Test.YtgnknliaeoblhabDoorV2
import Derived.Test.YtgnknliaeoblhabDoorV5
import Derived.Test.YtgnknliaeoblhabDoorV6
import Derived.Test.YtgnknliaeoblhabDoorV7
import Derived.Test.YtgnknliaeoblhabDoorV9
import Derived.Test.YtgnknliaeoblhabDoorV10
import Derived.Deep.CutBlock
import Derived.ChangeSame
import Derived.ProofKit
import Derived.OpenShut
import Derived.ChangeSlices
import Derived.ChangeMaps5
import Derived.WideKeyArgs
import Derived.ChangeArms
import Derived.Deep.Slices
import Derived.Deep.Fields
import Derived.Test.YtgnknliaeoblhabDoorCards
import Derived.Test.YtgnknliaeoblhabDoorTie
import Derived.LaidMore
import Derived.LaidHandle
import Derived.LaidSub
import Derived.Deep.DeepHandedRow
namespace Go.Proofs.YtgnknliaeoblhabDoor
open Go Go.RowKit

abbrev zeroPar : Array Value := #[.int .i64 0, .int .i64 0, .int .i32 0, .int .u8 0, .int .u8 0, .int .i64 0, .int .i64 0, .int .i64 0, .int .i64 0, .int .i64 0, .int .i64 0, .int .i64 0, .int .i64 0, .int .i64 0, .bool false]
theorem rel_zero (W : World) : RelAt (W.alloc (.cells zeroPar 30)) W.heap.size .new :=
  ⟨⟨0, .none, false⟩, Go.heap_alloc_new _ _, ⟨by decide, by decide, by decide, rfl, z8_in⟩, rel_inn 0 _ rfl (by decide) (by decide)⟩
theorem RelAt.rest {w : World} {g : Nat} (h : RelAt w g .new) : w.cell? ⟨g, 0, none⟩ = some (.int .i64 0) := by
  obtain ⟨t, h1, _, h3⟩ := h
  have := Blk.cell h1 0
  rw [this]
  show some (Value.int .i64 t.inn) = _
  rw [h3.inn]
theorem setC_small {a : Int} {f b : Nat} (hf : f < 256) (hb : b < 256) : ∀ x, x ∈ setC a f b → x.toNat < 128 := by
  intro x hx
  unfold setC numsC at hx
  simp only [List.mem_append, List.mem_flatMap, List.mem_cons, List.not_mem_nil, or_false] at hx
  rcases hx with (hx | ⟨k, hk, hx⟩) | hx
  · rcases hx with rfl | rfl | rfl <;> decide
  · unfold numC at hx
    rcases List.mem_cons.1 hx with rfl | hx
    · decide
    · exact dec_small (setN_small hf hb k hk) x hx
  · rw [hx]; decide
theorem dec_set {a : Int} {f b : Nat} (hf : f < 256) (hb : b < 256) : decL (setC a f b) = toI (setC a f b) := by
  unfold decL
  rw [decL_plain _ (setC_small hf hb)]
  simp [DecSt.flush, DecSt.new, toI]
theorem setC_len {a : Int} {f b : Nat} {E : ByteArray} (h : bts E = setC a f b) (h6 : E.size ≤ 60) : (toI (setC a f b)).length ≤ 60 := by
  unfold toI
  rw [List.length_map, ← h, bts_len]; exact h6
theorem cell_new {w0 : World} (w5 : World) (r f b a : Int) (hx : Ext w0 w5) : Blk (w5.alloc (.cells #[.int .i32 r, .int .u8 f, .int .u8 b, .int .u8 a] 23)) w5.heap.size 23 #[.int .i32 r, .int .u8 f, .int .u8 b, .int .u8 a] ∧ Ext w0 (w5.alloc (.cells #[.int .i32 r, .int .u8 f, .int .u8 b, .int .u8 a] 23)) :=
  ⟨Go.heap_alloc_new w5 _, hx.alloc _⟩
theorem cell_laid {w0 W : World} {g : Nat} (h : Blk W g 23 zeroA) (hx : Ext w0 W) (hg : w0.heap.size ≤ g) (r f b a : Int) :
    Blk ((((W.setCell ⟨g, 0, none⟩ (.int .i32 r)).setCell ⟨g, 1, none⟩ (.int .u8 f)).setCell ⟨g, 2, none⟩ (.int .u8 b)).setCell ⟨g, 3, none⟩ (.int .u8 a)) g 23 #[.int .i32 r, .int .u8 f, .int .u8 b, .int .u8 a] ∧
    Ext w0 ((((W.setCell ⟨g, 0, none⟩ (.int .i32 r)).setCell ⟨g, 1, none⟩ (.int .u8 f)).setCell ⟨g, 2, none⟩ (.int .u8 b)).setCell ⟨g, 3, none⟩ (.int .u8 a)) :=
  ⟨(((h.set_ 0 (.int .i32 r)).set_ 1 (.int .u8 f)).set_ 2 (.int .u8 b)).set_ 3 (.int .u8 a), (((hx.setCell (p := ⟨g, 0, none⟩) hg _).setCell (p := ⟨g, 1, none⟩) hg _).setCell (p := ⟨g, 2, none⟩) hg _).setCell (p := ⟨g, 3, none⟩) hg _⟩
set_option maxHeartbeats 4000000 in
set_option maxRecDepth 100000 in
theorem penSets_true (x y : Cel) (w : World) (hx : x.ok) (hy : y.ok) (hW : Ways w) (hp : Pow10 w) : Calls Tryd.prog 3 #[x.val, y.val] w fun e w' => e = .returned (.bool true) ∧ Ext w w' := by
  obtain ⟨xr, f, b, a⟩ := x
  obtain ⟨yr, yf, yb, ya⟩ := y
  obtain ⟨_, hf, hb, ha⟩ := hx
  simp only at hf hb ha
  dsimp only [Cel.val]
  obtain ⟨f, rfl⟩ : ∃ n : Nat, f = (n : Int) := ⟨f.toNat, by unfold isU8 at hf; omega⟩
  obtain ⟨b, rfl⟩ : ∃ n : Nat, b = (n : Int) := ⟨b.toNat, by unfold isU8 at hb; omega⟩
  have hf8 : f < 256 := by unfold isU8 at hf; omega
  have hb8 : b < 256 := by unfold isU8 at hb; omega
  have ha8 := ha
  unfold isU8 at ha8
  have hx0 : Ext w ((w.alloc (.cells #[.int .i32 xr, .int .u8 f, .int .u8 b, .int .u8 a] 23)).alloc (.cells #[.int .i32 yr, .int .u8 yf, .int .u8 yb, .int .u8 ya] 23)) := ((Ext.refl w).alloc _).alloc _
  have hb1 : Blk ((w.alloc (.cells #[.int .i32 xr, .int .u8 f, .int .u8 b, .int .u8 a] 23)).alloc (.cells #[.int .i32 yr, .int .u8 yf, .int .u8 yb, .int .u8 ya] 23)) w.heap.size 23 #[.int .i32 xr, .int .u8 f, .int .u8 b, .int .u8 a] := Blk.ext (Go.heap_alloc_new w _) ((Ext.refl _).alloc _)
  have hb2 : Blk ((w.alloc (.cells #[.int .i32 xr, .int .u8 f, .int .u8 b, .int .u8 a] 23)).alloc (.cells #[.int .i32 yr, .int .u8 yf, .int .u8 yb, .int .u8 ya] 23)) (w.heap.size + 1) 23 #[.int .i32 yr, .int .u8 yf, .int .u8 yb, .int .u8 ya] := heap_two _ _ _
  have H := Lib.hid (And.intro hW (And.intro hp (And.intro ha hy))); clear hW hp ha hy hf hb
  have H0 := Lib.hid (And.intro hb1 (And.intro hb2 hx0)); clear hb1 hb2 hx0
  go_enter Tryd.func3, Tryd.ntmps3
  go_wp2_with fail
  refine (awakeP_true _ (H.out.1.ext H0.out.2.2)).mono ?_
  rintro e w1 ⟨rfl, hx⟩
  have hpar := rel_zero w1
  have hx1 := hx.alloc (.cells zeroPar 30)
  have H1 := Lib.hid (And.intro (Blk.ext H0.out.1 hx1) (And.intro (Blk.ext H0.out.2.1 hx1) (And.intro (H0.out.2.2.trans hx1) (And.intro hpar (show w.heap.size + 2 ≤ w1.heap.size by have := hx.size; simp only [World.size_alloc] at this; omega))))); clear hpar hx1 hx H0
  have k0 : (w1.alloc (.cells zeroPar 30)).cell? ⟨w.heap.size, 0, none⟩ = some (.int .i32 xr) := H1.out.1.cell 0
  have k1 : (w1.alloc (.cells zeroPar 30)).cell? ⟨w.heap.size, 1, none⟩ = some (.int .u8 f) := H1.out.1.cell 1
  have k2 : (w1.alloc (.cells zeroPar 30)).cell? ⟨w.heap.size, 2, none⟩ = some (.int .u8 b) := H1.out.1.cell 2
  have k3 : (w1.alloc (.cells zeroPar 30)).cell? ⟨w.heap.size, 3, none⟩ = some (.int .u8 a) := H1.out.1.cell 3
  go_wp2_with fail
  refine (Set_of xr f b a _ hf8 hb8 (H.out.1.ext H1.out.2.2.1) (H.out.2.1.ext H1.out.2.2.1)).mono ?_
  rintro e w2 ⟨E, rfl, hE, hE6, hx2⟩
  have H2 := Lib.hid (And.intro hE (And.intro (H1.out.2.2.1.trans hx2) (And.intro (H1.out.2.2.2.1.ext hx2) (And.intro (Blk.ext H1.out.1 hx2) (And.intro (Blk.ext H1.out.2.1 hx2) (And.intro H1.out.2.2.2.2 (show w1.heap.size < w2.heap.size by have := hx2.size; simp only [World.size_alloc] at this; omega))))))); clear hE hx2 H1 k0 k1 k2 k3
  go_wp2_with fail
  refine (RefDecode_any E w2 (by omega)).mono ?_
  rintro e w3 ⟨v, rfl, hv, hx3⟩
  rw [H2.out.1, dec_set hf8 hb8] at hv
  have hlen := setC_len H2.out.1 hE6
  have hir := hv.isRunes (fun n hn => by
    obtain ⟨q, hq, rfl⟩ := List.mem_map.1 hn
    have := setC_small hf8 hb8 q hq
    unfold isI32; omega)
  have hbe : 0 < (toI (setC a f b)).length → ∀ g' off n c, v = .slice (some ⟨g', off, none⟩) n c → g' ≠ w1.heap.size := by
    intro h0 g' off n c e
    obtain ⟨g, c2, e2, hbg, _⟩ := World.ownsRow.form hv h0
    rw [e] at e2
    injection e2 with e3 _ _
    injection e3 with e3
    injection e3 with e3 _ _
    have := H2.out.2.2.2.2.2.2
    omega
  have hfeed := RFeed_of w3 w1.heap.size .new v (toI (setC a f b)) (H2.out.2.2.1.ext hx3) (ok_innE 0 (by decide) (by decide)) hir hbe (by omega)
  rw [run_set a f b (setN_small hf8 hb8)] at hfeed
  have H3 := Lib.hid (And.intro hfeed (And.intro (H2.out.2.1.trans hx3) (And.intro (Blk.ext H2.out.2.2.2.1 hx3) (And.intro (Blk.ext H2.out.2.2.2.2.1 hx3) H2.out.2.2.2.2.2.1)))); clear hfeed hbe hir hlen hv hx3 H2
  go_wp2_with fail
  refine H3.out.1.mono ?_
  rintro e w4 ⟨v4, rfl, hown, hrel, honly⟩
  obtain ⟨M, hM⟩ : ∃ M, addN z8 1 (setN a f b) = M := ⟨_, rfl⟩
  have hM8 : M.length = 8 := by rw [← hM, addN_len]; rfl
  obtain ⟨m0, m1, m2, m3, m4, m5, m6, m7, rfl⟩ := eight' M hM8
  rw [hM] at hown
  obtain ⟨T, hT⟩ : ∃ T, 1 + (setN a f b).length = T := ⟨_, rfl⟩
  rw [hT] at hown
  obtain ⟨g, cap, e4, hg, _⟩ := World.ownsRow.form hown (show 0 < 1 by decide)
  subst e4
  have hnews := OwnA.news hown _ rfl
  have hact : Blk w4 0 0 #[] → True := fun _ => trivial
  clear hact
  have hcells : ∀ j u, (actC ⟨4, 109, 0, 0, min T 8, [m0, m1, m2, m3, m4, m5, m6, m7]⟩)[j]? = some u → w4.cell? ⟨g, j, none⟩ = some u := fun j u hj => by
    have := hnews j u (by rw [show cellsA [_] = actC _ ++ [] from rfl, List.append_nil]; exact hj)
    rw [add_off, Nat.zero_add] at this
    exact this
  have H4 := Lib.hid (And.intro hcells (And.intro hrel.rest (And.intro (Blk.only H3.out.2.2.1 honly (by have := H3.out.2.2.2.2; omega)) (And.intro (Blk.only H3.out.2.2.2.1 honly (by have := H3.out.2.2.2.2; omega)) (And.intro (Below.trans H3.out.2.1 (honly.below (by have := H3.out.2.2.2.2; omega) H3.out.2.1.size) : Ext w w4) (And.intro hT hM)))))); clear hcells hrel honly hT hM hnews hown H3 hg hM8
  go_wp2_with fail
  go_loopg [8, 9] 6 (fun k u v wr => ∃ (i N : Nat), u = .int .i64 N ∧ v = .int .i64 i ∧ Hid (i + k = 6 ∧ N = 1 + (onsN a i).length ∧ N ≤ 1 + i) ∧ wr = w4)
  case atStart => exact ⟨0, 1, rfl, rfl, Lib.hid ⟨rfl, rfl, Nat.le_refl _⟩, rfl⟩
  case round =>
    obtain ⟨i, N, rfl, rfl, hin, rfl⟩ := hrel
    by_cases hi : i < 6
    · have hiI : (i : Int) < 6 := by omega
      have k3 : wr.cell? ⟨w.heap.size, 3, none⟩ = some (.int .u8 a) := H4.out.2.2.1.cell 3
      have hbit := bit_on H.out.2.2.1 i hi
      have hsucc := onsN_succ a i
      have hN7 : N ≤ 7 := by have := hin.out.2.2; omega
      generalize isOn a i = B at hbit hsucc
      have HS := Lib.hid hsucc; clear hsucc
      cases B with
      | false =>
        go_wp2_with fail
        go_roundg (gk - 1)
        case measure => have := hin.out.1; omega
        case rel => exact ⟨i + 1, N, rfl, by go_num, Lib.hid ⟨by have := hin.out.1; omega, by rw [HS.out, hin.out.2.1]; simp, by have := hin.out.2.2; omega⟩, rfl⟩
      | true =>
        go_wp2_with fail
        go_roundg (gk - 1)
        case measure => have := hin.out.1; omega
        case rel => exact ⟨i + 1, N + 1, by go_num, by go_num, Lib.hid ⟨by have := hin.out.1; omega, by rw [HS.out, hin.out.2.1]; simp; omega, by have := hin.out.2.2; omega⟩, rfl⟩
    · obtain rfl : i = 6 := by have := hin.out.1; omega
      have hN7 : N ≤ 7 := by have := hin.out.2.2; omega
      have k1 : wr.cell? ⟨w.heap.size, 1, none⟩ = some (.int .u8 f) := H4.out.2.2.1.cell 1
      have k2 : wr.cell? ⟨w.heap.size, 2, none⟩ = some (.int .u8 b) := H4.out.2.2.1.cell 2
      have hTT : T = N + (colN 38 f).length + (colN 48 b).length := by
        have := H4.out.2.2.2.2.2.1
        unfold setN at this
        simp only [List.length_append] at this
        rw [hin.out.2.1]; omega
      have hcf : (colN 38 f).length = if f = 0 then 0 else 3 := by unfold colN; split <;> rfl
      have hcb : (colN 48 b).length = if b = 0 then 0 else 3 := by unfold colN; split <;> rfl
      rw [hcf, hcb] at hTT
      have HT := Lib.hid hTT; clear hTT hcf hcb
      go_upto_if 34 with (fail)
      go_cut [8] from 35 to 36 (fun u wc => ∃ N1 : Nat, u = .int .i64 N1 ∧ Hid (N1 = N + if f = 0 then 0 else 3) ∧ wc = wr)
      case first =>
        by_cases hf0 : f = 0
        · have ef : ((f : Int) != 0) = false := by simp [hf0]
          have HZ := Lib.hid hf0; clear hf0
          go_wp2_with fail
          go_meet
          exact ⟨N, rfl, Lib.hid (by simp [HZ.out]), rfl⟩
        · have ef : ((f : Int) != 0) = true := by simp [hf0]
          have HZ := Lib.hid hf0; clear hf0
          go_wp2_with fail
          go_meet
          exact ⟨N + 3, by simp, Lib.hid (by simp [HZ.out]), rfl⟩
      case rest =>
      obtain ⟨N1, rfl, HN1, rfl⟩ := hcut
      have hN1 : N1 ≤ 10 := by have := HN1.out; split at this <;> omega
      go_upto_if 39 with (fail)
      go_cut [8] from 40 to 41 (fun u wz => u = .int .i64 (T : Nat) ∧ wz = wc)
      case first =>
        by_cases hb0 : b = 0
        · have eb : ((b : Int) != 0) = false := by simp [hb0]
          have HZ := Lib.hid (show (N1 : Int) = (T : Int) by have := HT.out; have := HN1.out; rw [if_pos hb0] at *; omega); clear hb0
          go_wp2_with fail
          go_meet
          exact ⟨congrArg (Value.int .i64) HZ.out, rfl⟩
        · have eb : ((b : Int) != 0) = true := by simp [hb0]
          have HZ := Lib.hid (show (N1 : Int) + 3 = (T : Int) by have := HT.out; have := HN1.out; rw [if_neg hb0] at *; omega); clear hb0
          go_wp2_with fail
          go_meet
          exact ⟨congrArg (Value.int .i64) HZ.out, rfl⟩
      case rest =>
      obtain ⟨rfl, rfl⟩ := hcut
      clear k1 k2
      obtain ⟨wr, hwr⟩ : ∃ wy, wy = wc := ⟨_, rfl⟩
      subst hwr
      have hT13 : T ≤ 13 := by have := HT.out; split at this <;> split at this <;> omega
      obtain ⟨Q, hQ⟩ : ∃ Q : Nat, min (T) 8 = Q := ⟨_, rfl⟩
      have hQI : min ((T : Int)) 8 = (Q : Int) := by omega
      have hcl := H4.out.1
      rw [hQ] at hcl
      have HG := Lib.hid hcl; clear hcl
      have kp : wr.cell? ⟨w1.heap.size, 0, none⟩ = some (.int .i64 0) := H4.out.2.1
      have ky0 : wr.cell? ⟨w.heap.size + 1, 0, none⟩ = some (.int .i32 yr) := H4.out.2.2.2.1.cell 0
      have ky1 : wr.cell? ⟨w.heap.size + 1, 1, none⟩ = some (.int .u8 yf) := H4.out.2.2.2.1.cell 1
      have ky2 : wr.cell? ⟨w.heap.size + 1, 2, none⟩ = some (.int .u8 yb) := H4.out.2.2.2.1.cell 2
      have ky3 : wr.cell? ⟨w.heap.size + 1, 3, none⟩ = some (.int .u8 ya) := H4.out.2.2.2.1.cell 3
      have kg0 : wr.cell? ⟨g, 0, none⟩ = some (.int .i64 4) := HG.out 0 _ rfl
      have kg1 : wr.cell? ⟨g, 1, none⟩ = some (.int .i32 109) := HG.out 1 _ rfl
      have kg2 : wr.cell? ⟨g, 2, none⟩ = some (.int .u8 0) := HG.out 2 _ rfl
      have kg3 : wr.cell? ⟨g, 3, none⟩ = some (.int .u8 0) := HG.out 3 _ rfl
      have kg4 : wr.cell? ⟨g, 4, none⟩ = some (.int .i64 Q) := HG.out 4 _ rfl
      have kg5 : wr.cell? ⟨g, 5, none⟩ = some (.int .i64 m0) := HG.out 5 _ rfl
      have kg6 : wr.cell? ⟨g, 6, none⟩ = some (.int .i64 m1) := HG.out 6 _ rfl
      have kg7 : wr.cell? ⟨g, 7, none⟩ = some (.int .i64 m2) := HG.out 7 _ rfl
      have kg8 : wr.cell? ⟨g, 8, none⟩ = some (.int .i64 m3) := HG.out 8 _ rfl
      have kg9 : wr.cell? ⟨g, 9, none⟩ = some (.int .i64 m4) := HG.out 9 _ rfl
      have kg10 : wr.cell? ⟨g, 10, none⟩ = some (.int .i64 m5) := HG.out 10 _ rfl
      have kg11 : wr.cell? ⟨g, 11, none⟩ = some (.int .i64 m6) := HG.out 11 _ rfl
      have kg12 : wr.cell? ⟨g, 12, none⟩ = some (.int .i64 m7) := HG.out 12 _ rfl
      have HA := Lib.hid (fun (U : World) (hU : Ext w U) => Apply_of ⟨yr, yf, yb, ya⟩ 4 109 0 0 Q m0 m1 m2 m3 m4 m5 m6 m7 U (H.out.1.ext hU))
      generalize hR : penP ⟨yr, yf, yb, ya⟩ 4 109 0 0 Q [m0, m1, m2, m3, m4, m5, m6, m7] = R at HA
      have HR := Lib.hid hR; clear hR
      have HQ2 := Lib.hid hQ; clear hQ
      go_wp2_with fail
      go_cut [10] from 61 to 65 (fun c wc => ∃ B : Nat, c = .pointer (some ⟨B, 0, none⟩) ∧ Hid (Blk wc B 23 #[.int .i32 R.r, .int .u8 R.f, .int .u8 R.b, .int .u8 R.a] ∧ Ext wr wc))
      case first =>
        obtain ⟨rr, rf, rb, ra⟩ := R
        dsimp only [Cel.val] at HA
        have ny0 : (wr.alloc (.cells #[.int .i32 0, .int .u8 0, .int .u8 0, .int .u8 0] 23)).cell? ⟨w.heap.size + 1, 0, none⟩ = some (.int .i32 yr) := ((Ext.refl wr).alloc _).cell (H4.out.2.2.2.1.cell 0)
        have ny1 : (wr.alloc (.cells #[.int .i32 0, .int .u8 0, .int .u8 0, .int .u8 0] 23)).cell? ⟨w.heap.size + 1, 1, none⟩ = some (.int .u8 yf) := ((Ext.refl wr).alloc _).cell (H4.out.2.2.2.1.cell 1)
        have ny2 : (wr.alloc (.cells #[.int .i32 0, .int .u8 0, .int .u8 0, .int .u8 0] 23)).cell? ⟨w.heap.size + 1, 2, none⟩ = some (.int .u8 yb) := ((Ext.refl wr).alloc _).cell (H4.out.2.2.2.1.cell 2)
        have ny3 : (wr.alloc (.cells #[.int .i32 0, .int .u8 0, .int .u8 0, .int .u8 0] 23)).cell? ⟨w.heap.size + 1, 3, none⟩ = some (.int .u8 ya) := ((Ext.refl wr).alloc _).cell (H4.out.2.2.2.1.cell 3)
        have ng0 : (wr.alloc (.cells #[.int .i32 0, .int .u8 0, .int .u8 0, .int .u8 0] 23)).cell? ⟨g, 0, none⟩ = some (.int .i64 4) := ((Ext.refl wr).alloc _).cell (HG.out 0 _ rfl)
        have ng1 : (wr.alloc (.cells #[.int .i32 0, .int .u8 0, .int .u8 0, .int .u8 0] 23)).cell? ⟨g, 1, none⟩ = some (.int .i32 109) := ((Ext.refl wr).alloc _).cell (HG.out 1 _ rfl)
        have ng2 : (wr.alloc (.cells #[.int .i32 0, .int .u8 0, .int .u8 0, .int .u8 0] 23)).cell? ⟨g, 2, none⟩ = some (.int .u8 0) := ((Ext.refl wr).alloc _).cell (HG.out 2 _ rfl)
        have ng3 : (wr.alloc (.cells #[.int .i32 0, .int .u8 0, .int .u8 0, .int .u8 0] 23)).cell? ⟨g, 3, none⟩ = some (.int .u8 0) := ((Ext.refl wr).alloc _).cell (HG.out 3 _ rfl)
        have ng4 : (wr.alloc (.cells #[.int .i32 0, .int .u8 0, .int .u8 0, .int .u8 0] 23)).cell? ⟨g, 4, none⟩ = some (.int .i64 Q) := ((Ext.refl wr).alloc _).cell (HG.out 4 _ rfl)
        have ng5 : (wr.alloc (.cells #[.int .i32 0, .int .u8 0, .int .u8 0, .int .u8 0] 23)).cell? ⟨g, 5, none⟩ = some (.int .i64 m0) := ((Ext.refl wr).alloc _).cell (HG.out 5 _ rfl)
        have ng6 : (wr.alloc (.cells #[.int .i32 0, .int .u8 0, .int .u8 0, .int .u8 0] 23)).cell? ⟨g, 6, none⟩ = some (.int .i64 m1) := ((Ext.refl wr).alloc _).cell (HG.out 6 _ rfl)
        have ng7 : (wr.alloc (.cells #[.int .i32 0, .int .u8 0, .int .u8 0, .int .u8 0] 23)).cell? ⟨g, 7, none⟩ = some (.int .i64 m2) := ((Ext.refl wr).alloc _).cell (HG.out 7 _ rfl)
        have ng8 : (wr.alloc (.cells #[.int .i32 0, .int .u8 0, .int .u8 0, .int .u8 0] 23)).cell? ⟨g, 8, none⟩ = some (.int .i64 m3) := ((Ext.refl wr).alloc _).cell (HG.out 8 _ rfl)
        have ng9 : (wr.alloc (.cells #[.int .i32 0, .int .u8 0, .int .u8 0, .int .u8 0] 23)).cell? ⟨g, 9, none⟩ = some (.int .i64 m4) := ((Ext.refl wr).alloc _).cell (HG.out 9 _ rfl)
        have ng10 : (wr.alloc (.cells #[.int .i32 0, .int .u8 0, .int .u8 0, .int .u8 0] 23)).cell? ⟨g, 10, none⟩ = some (.int .i64 m5) := ((Ext.refl wr).alloc _).cell (HG.out 10 _ rfl)
        have ng11 : (wr.alloc (.cells #[.int .i32 0, .int .u8 0, .int .u8 0, .int .u8 0] 23)).cell? ⟨g, 11, none⟩ = some (.int .i64 m6) := ((Ext.refl wr).alloc _).cell (HG.out 11 _ rfl)
        have ng12 : (wr.alloc (.cells #[.int .i32 0, .int .u8 0, .int .u8 0, .int .u8 0] 23)).cell? ⟨g, 12, none⟩ = some (.int .i64 m7) := ((Ext.refl wr).alloc _).cell (HG.out 12 _ rfl)
        go_region_law (first | (go_simp; refine (HA.out _ (Ext.trans H4.out.2.2.2.2.1 ((Ext.refl wr).drew))).mono ?_; rintro e w5 ⟨rfl, hx5⟩; have HFin := Lib.hid (cell_new w5 rr rf rb ra ((Ext.refl wr).drew.trans hx5)); clear hx5) | (go_simp; refine (HA.out _ (Ext.trans H4.out.2.2.2.2.1 (((Ext.refl wr).alloc _).drew))).mono ?_; rintro e w5 ⟨rfl, hx5⟩; have hbz : Blk w5 wr.heap.size 23 #[.int .i32 0, .int .u8 0, .int .u8 0, .int .u8 0] := Blk.ext (Blk.ext (Go.heap_alloc_new wr _) (Ext.refl _).drew) hx5; have s0 := hbz.cell 0; have s1 := hbz.cell 1; have s2 := hbz.cell 2; have s3 := hbz.cell 3; have f0 := hbz.frozen 0; have f1 := hbz.frozen 1; have f2 := hbz.frozen 2; have f3 := hbz.frozen 3; have HFin := Lib.hid (cell_laid hbz (((Ext.refl wr).alloc _).drew.trans hx5) (Nat.le_refl _) rr rf rb ra); clear hx5 hbz))
        all_goals (go_wp2_with fail)
        all_goals (go_meet)
        all_goals exact ⟨_, rfl, HFin⟩
      case rest =>
      obtain ⟨B, rfl, HB⟩ := hcut
      have hRr : R.r = yr := by rw [← HR.out]; exact pen_r _ _ _
      have HX := Lib.hid (Ext.trans H4.out.2.2.2.2.1 HB.out.2)
      have c0 : wc.cell? ⟨B, 0, none⟩ = some (.int .i32 R.r) := HB.out.1.cell 0
      have b0 : wc.cell? ⟨w.heap.size + 1, 0, none⟩ = some (.int .i32 yr) := HB.out.2.cell (H4.out.2.2.2.1.cell 0)
      rw [hRr] at c0
      by_cases h8 : 8 < T
      · have h8I : (8 : Int) < (T : Int) := by omega
        go_wp2
        go_ret
        exact ⟨rfl, HX.out⟩
      · have h8I : ¬ (8 : Int) < (T : Int) := by omega
        have hset := pen_set ⟨yr, yf, yb, ya⟩ H.out.2.2.1 hf8 hb8 (by rw [H4.out.2.2.2.2.2.1]; omega)
        rw [H4.out.2.2.2.2.2.1, H4.out.2.2.2.2.2.2, show T = Q by have := HQ2.out; omega, HR.out] at hset
        subst hset
        have c1 : wc.cell? ⟨B, 1, none⟩ = some (.int .u8 f) := HB.out.1.cell 1
        have c2 : wc.cell? ⟨B, 2, none⟩ = some (.int .u8 b) := HB.out.1.cell 2
        have c3 : wc.cell? ⟨B, 3, none⟩ = some (.int .u8 (a % 64)) := HB.out.1.cell 3
        have x1 : wc.cell? ⟨w.heap.size, 1, none⟩ = some (.int .u8 f) := HB.out.2.cell (H4.out.2.2.1.cell 1)
        have x2 : wc.cell? ⟨w.heap.size, 2, none⟩ = some (.int .u8 b) := HB.out.2.cell (H4.out.2.2.1.cell 2)
        have x3 : wc.cell? ⟨w.heap.size, 3, none⟩ = some (.int .u8 a) := HB.out.2.cell (H4.out.2.2.1.cell 3)
        have hand := and63 H.out.2.2.1
        clear hRr
        go_wp2
        go_ret
        exact ⟨rfl, HX.out⟩
end Go.Proofs.YtgnknliaeoblhabDoor
namespace Go.Proofs.YtgnknliaeoblhabDoor
open Go Go.RowKit Go.WideShapes Go.ChangeShapes

theorem wf_i64 {n : Int} (h : (Lit.int .i64 n).wf = true) : -9223372036854775808 ≤ n ∧ n ≤ 9223372036854775807 := by
  have h' : (decide (IntKind.i64.min ≤ n) && decide (n ≤ IntKind.i64.max)) = true := h
  have e1 : IntKind.i64.min = -9223372036854775808 := by decide
  have e2 : IntKind.i64.max = 9223372036854775807 := by decide
  rw [e1, e2] at h'
  simpa using h'

theorem post_of_ext {H : Type} {enc : TypeId × Value → H} {P : Program} {f : Func} {s : ChangeSpec} {a1 a2 a3 : Bool} {W W' : World} {args : Array Value} {v : Value} {ds : List (DataW H)} {ps : List MemPlace}
    (hs : s.vars = []) (hsv : (s.fn H (ds ++ [])).vars = [])
    (hW : DataW.Whole enc P f.params.toList s.vars a1 W args.toList ds [] ps)
    (hr : ∀ (b : Nat) (sp : Nat → Bool) (hd : Bool), DataW.TrodAll enc P W' b sp hd f.resultTypes.toList (v.resultList f.resultTypes.size) (s.fn H (ds ++ [])).results [])
    (ha : ∀ sp : Nat → Bool, (∀ p ∈ ps, sp p.block = true) → DataW.TrodAll enc P W' 0 sp true f.params.toList args.toList (s.fn H (ds ++ [])).args ps)
    (hx : Ext W W') :
    s.post enc P f a1 a2 a3 false W args v W' := by
  have hb : Below W.heap.size W W' := hx
  have hnil : ∀ sp : Nat → Bool, DataW.TrodVars enc P W' sp s.vars (s.fn H (ds ++ [])).vars [] := by
    intro sp; rw [hs, hsv]; rfl
  have hin : ∀ p ∈ ps, (fun k => decide (k < W.heap.size)) p.block = true := fun p hp => by simpa using hW.lt p hp
  exact ⟨ds, [], ps, [], ps, [], hW, hr _ _ _, ha _ hin, hnil _, World.keptBut_mono (fun p hp => ⟨hp, .inr (.inl hp)⟩) (hb.frame (· ∈ ps)), fun h => by cases h⟩
end Go.Proofs.YtgnknliaeoblhabDoor
namespace Go.Proofs.YtgnknliaeoblhabDoor
open Go Go.ChangeShapes Go.WideShapes Go.ChangeAt Go.RowKit

theorem wf_i32 {n : Int} (h : (Lit.int .i32 n).wf = true) : -2147483648 ≤ n ∧ n ≤ 2147483647 := by
  have h' : (decide (IntKind.i32.min ≤ n) && decide (n ≤ IntKind.i32.max)) = true := h
  have e1 : IntKind.i32.min = -2147483648 := by decide
  have e2 : IntKind.i32.max = 2147483647 := by decide
  rw [e1, e2] at h'
  simpa using h'
theorem typesSizeN : Tryd.prog.types.size = 96 := by kernel_rfl
theorem laidOutN : laidOutB Tryd.prog = true := by kernel_rfl
theorem cellsI32 : Tryd.prog.cellsOf 21 = 1 := by kernel_rfl
theorem readRunes : Tryd.prog.readableRec 33 = true := by kernel_rfl
theorem ext_sameN {w w' : World} (hx : Ext w w') {p : MemPlace} (hp : p.block < w.heap.size) : w.sameAt w' p := by
  cases p with
  | cell b o => exact World.cell?_of_block (Below.block hx b hp)
  | map b => exact Below.block hx b hp
set_option maxRecDepth 100000 in
theorem runes_of {H : Type} {enc : TypeId × Value → H} {W : World} {r : Reach} {b0 : Nat} {v : Value} {d : DataW H} {p : List MemPlace} (hv : Value.okWide Tryd.prog W r b0 33 v) (h : DataW.Trod enc Tryd.prog W 0 (fun _ => true) true 33 v d p) : ∃ zs, IsRunes W v zs ∧ zs.length ≤ maxLen := by
  obtain ⟨a, len, cap, rfl⟩ := okWide_slice Tryd.underlying33 hv
  obtain ⟨n, hn⟩ := h
  rcases open_ints Tryd.underlying33 Tryd.underlying21 cellsI32 hn with ⟨hcs, _⟩ | ⟨ad, len', cap', zs, hcs, hb, hl, hm, hz, hx, hc, hw⟩
  · have e : Value.slice a len cap = .slice none 0 0 := by simpa [Value.cells] using hcs
    injection e with e1 e2 e3
    subst e1 e2 e3
    exact ⟨[], ⟨none, 0, rfl, ⟨Nat.le_refl _, fun _ => rfl⟩, fun i n h => by cases h⟩, Nat.zero_le _⟩
  · have e : Value.slice a len cap = .slice (some ad) len' cap' := by simpa [Value.cells] using hcs
    injection e with e1 e2 e3
    subst e1 e2 e3
    have hzl : zs.length = cap := by simpa using hz
    have htl : (zs.take len).length = len := by rw [List.length_take]; omega
    refine ⟨zs.take len, ⟨some ad, cap, by rw [htl], ⟨by omega, fun h => by cases h⟩, fun i m hi => ?_⟩, by omega⟩
    have hil : i < len := by
      have := (List.getElem?_eq_some_iff.1 hi).1
      omega
    rw [List.getElem?_take_of_lt hil] at hi
    have hmem : m ∈ zs := List.mem_of_getElem? hi
    have hcell := hc i (by omega)
    have hgd : zs.getD i 0 = m := by rw [List.getD_eq_getElem?_getD, hi]; rfl
    rw [hgd] at hcell
    obtain ⟨g, off, spot⟩ := ad
    have hsp : spot = none := by
      cases spot with
      | none => rfl
      | some s =>
        exfalso
        have h0 := hc 0 (by omega)
        rw [show (⟨g, off, some s⟩ : Addr).add 0 = ⟨g, off, some s⟩ from by unfold Addr.add; simp] at h0
        unfold World.cell? at h0
        simp at h0
        split at h0 <;> simp at h0
    subst hsp
    rw [add_off] at hcell
    exact ⟨wf_i32 (hw m hmem), g, off, rfl, hcell⟩
theorem runes_stays {H : Type} {enc : TypeId × Value → H} {W W' : World} {sp : Nat → Bool} {v : Value} {d : DataW H} {p : List MemPlace} (h : DataW.Trod enc Tryd.prog W 0 (fun _ => true) true 33 v d p) (hx : Ext W W') (hlt : ∀ q ∈ p, q.block < W.heap.size) (hsp : ∀ q ∈ p, sp q.block = true) :
    DataW.Trod enc Tryd.prog W' 0 sp true 33 v d p :=
  Go.WideElems.Trod_stays laidOutN readRunes (by rw [typesSizeN]; decide) h (fun q hq => ext_sameN hx (hlt q hq)) hsp

end Go.Proofs.YtgnknliaeoblhabDoor
namespace Go.Proofs.YtgnknliaeoblhabDoor
open Go Go.ChangeShapes Go.WideShapes Go.ChangeAt Go.RowKit Go.Deep

theorem wf_u8c {n : Int} (h : (Lit.int .u8 n).wf = true) : isU8 n := by
  have h' : (decide (IntKind.u8.min ≤ n) && decide (n ≤ IntKind.u8.max)) = true := h
  have e1 : IntKind.u8.min = 0 := by decide
  have e2 : IntKind.u8.max = 255 := by decide
  rw [e1, e2] at h'
  simp at h'
  unfold isU8
  omega
theorem oneCel : oneCellFields Tryd.prog #[{ name := "R", type := 21, offset := 0, embedded := false, tag := "", pkgPath := "", byteOffset := 0 }, { name := "Fg", type := 5, offset := 1, embedded := false, tag := "", pkgPath := "", byteOffset := 4 }, { name := "Bg", type := 5, offset := 2, embedded := false, tag := "", pkgPath := "", byteOffset := 5 }, { name := "Attr", type := 5, offset := 3, embedded := false, tag := "", pkgPath := "", byteOffset := 6 }] = true := by kernel_rfl
theorem cellsCel : Tryd.prog.cellsOf 23 = 4 := by kernel_rfl
theorem cellsU8c : Tryd.prog.cellsOf 5 = 1 := by kernel_rfl
theorem readCel : Tryd.prog.readableRec 23 = true := by kernel_rfl
set_option maxRecDepth 100000 in
theorem cell_of {H : Type} {enc : TypeId × Value → H} {W : World} {r : Reach} {b0 : Nat} {v : Value} {d : DataW H} {p : List MemPlace} (hv : Value.okWide Tryd.prog W r b0 23 v) (h : DataW.Trod enc Tryd.prog W 0 (fun _ => true) true 23 v d p) :
    ∃ c : Cel, v = c.val ∧ c.ok := by
  unfold Value.okWide at hv
  rw [Tryd.underlying23] at hv
  obtain ⟨cs, rfl, hz, _⟩ := hv
  rw [cellsCel] at hz
  obtain ⟨n, hn⟩ := h
  cases n with
  | zero => simp [DataW.trod] at hn
  | succ n =>
    unfold DataW.trod at hn
    rw [Tryd.underlying23] at hn
    obtain ⟨l, rfl⟩ : ∃ l : List Value, cs = l.toArray := ⟨cs.toList, by simp⟩
    match l, hz with
    | [a, b, c, e], _ =>
      simp only [Value.cells, cellsU8c, cellsI32, List.mapM_cons, List.mapM_nil, Option.bind_eq_bind] at hn
      rw [if_pos (by rw [cellsCel]; rfl), Option.map_eq_some_iff] at hn
      obtain ⟨xs, hxs, _⟩ := hn
      simp only [Option.bind_eq_some_iff] at hxs
      obtain ⟨x0, t0, y0, ⟨x1, t1, y1, ⟨x2, t2, y2, ⟨x3, t3, _⟩, _⟩, _⟩, _⟩ := hxs
      obtain ⟨n0, e0, _, w0⟩ := DataW.trod_int Tryd.underlying21 t0
      obtain ⟨n1, e1, _, w1⟩ := DataW.trod_int Tryd.underlying5 t1
      obtain ⟨n2, e2, _, w2⟩ := DataW.trod_int Tryd.underlying5 t2
      obtain ⟨n3, e3, _, w3⟩ := DataW.trod_int Tryd.underlying5 t3
      have f0 : a = .int .i32 n0 := List.cons.inj e0 |>.1
      have f1 : b = .int .u8 n1 := List.cons.inj e1 |>.1
      have f2 : c = .int .u8 n2 := List.cons.inj e2 |>.1
      have f3 : e = .int .u8 n3 := List.cons.inj e3 |>.1
      subst f0 f1 f2 f3
      exact ⟨⟨n0, n1, n2, n3⟩, rfl, wf_i32 w0, wf_u8c w1, wf_u8c w2, wf_u8c w3⟩
theorem cell_stays {H : Type} {enc : TypeId × Value → H} {W W' : World} {sp : Nat → Bool} {v : Value} {d : DataW H} {p : List MemPlace} (h : DataW.Trod enc Tryd.prog W 0 (fun _ => true) true 23 v d p) (hx : Ext W W') (hlt : ∀ q ∈ p, q.block < W.heap.size) (hsp : ∀ q ∈ p, sp q.block = true) :
    DataW.Trod enc Tryd.prog W' 0 sp true 23 v d p :=
  Go.WideElems.Trod_stays laidOutN readCel (by rw [typesSizeN]; decide) h (fun q hq => ext_sameN hx (hlt q hq)) hsp
end Go.Proofs.YtgnknliaeoblhabDoor
namespace Go.Proofs.YtgnknliaeoblhabDoor
open Go Go.ChangeShapes Go.WideShapes Go.ChangeAt Go.RowKit

theorem own : ownKnob Tryd.prog.godebug = none := by kernel_rfl
theorem tPow : (Tryd.prog.globals[1]?).map (·.type) = some 72 := by kernel_rfl
theorem cPow : Tryd.prog.cellsOf 72 = 20 := by kernel_rfl
theorem cU64 : Tryd.prog.cellsOf 65 = 1 := by kernel_rfl
theorem pow_of {L : List (String × DataW Unit)} {W : World} (h : laidMetH Tryd.prog L W) (hL : L.filter (fun x => x.1 == "internal/strconv.uint64pow10") = [("internal/strconv.uint64pow10", Rows.laid_internal_strconv_uint64pow10)]) : Pow10 W := by
  have h1 := laidMetH.filter (fun x => x.1 == "internal/strconv.uint64pow10") h
  rw [hL] at h1
  have h2 : laidMet Tryd.prog [("internal/strconv.uint64pow10", Lib.tabData .u64 Lib.pow10Tab)] W := (laidMetH_iff.1 h1).1
  exact Lib.tabIs_of_head gPow tPow Tryd.underlying72 Tryd.underlying65 cU64 cPow h2

theorem typesSize : Tryd.prog.types.size = 96 := by kernel_rfl
end Go.Proofs.YtgnknliaeoblhabDoor
