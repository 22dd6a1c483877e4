/- A step of the document's parser. · Characters are fed to the document's parser. · What the document says follows a first byte: lyceumref04.follows. -/
import Derived.Test.YtgnknliaeoblhabDoorV2
import Derived.Test.YtgnknliaeoblhabDoorV8
import Derived.WalkLawsBesides
import Derived.IntWalk
import Derived.Deep.LoopGhost
import Derived.Deep.QuietTactic
import Derived.BigQuiet
import Derived.Deep.RegionWith
import Derived.Deep.RegionLaw
import Derived.WalkKit
import Derived.Laws.BytesString
import Derived.Laws.IdiomStrings
import Derived.Laws.BytesArg
import Derived.RegionTactic
import Derived.BigRegion
namespace Go.Proofs.YtgnknliaeoblhabDoor
open Go Go.RowKit

set_option maxHeartbeats 4000000 in
set_option maxRecDepth 100000 in
theorem rstep_new (w : World) (g : Nat) (i kd rr pp m n0 n1 n2 n3 n4 n5 n6 n7 : Int) (n : Nat) (b : Bool) (h : RefPar w g ⟨i, ⟨kd, rr, pp, m, n, [n0, n1, n2, n3, n4, n5, n6, n7]⟩, b⟩) :
    Calls Tryd.prog 14 #[.pointer (some ⟨g, 0, none⟩), .int .i32 27] w fun e w' => e = .returned (actV .none) ∧ RefPar w' g ⟨1, .none, false⟩ ∧ Only g w w' := by
  obtain ⟨c0, c1, c2, c3, c4, c5, c6, c7, c8, c9, ca, cb, cc, cd, ce⟩ := h.facts
  have z0 := Blk.frozen h 0
  have z1 := Blk.frozen h 1
  have z2 := Blk.frozen h 2
  have z3 := Blk.frozen h 3
  have z4 := Blk.frozen h 4
  have z5 := Blk.frozen h 5
  have z6 := Blk.frozen h 6
  have z7 := Blk.frozen h 7
  have z8 := Blk.frozen h 8
  have z9 := Blk.frozen h 9
  have z10 := Blk.frozen h 10
  have z11 := Blk.frozen h 11
  have z12 := Blk.frozen h 12
  have z13 := Blk.frozen h 13
  have z14 := Blk.frozen h 14
  have hlt := h.lt
  have H := Lib.hid h; clear h
  have HP : RefPar (((((((((((((((w.setCell ⟨g, 0, none⟩ (.int .i64 1)).setCell ⟨g, 1, none⟩ (.int .i64 0)).setCell ⟨g, 2, none⟩ (.int .i32 0)).setCell ⟨g, 3, none⟩ (.int .u8 0)).setCell ⟨g, 4, none⟩ (.int .u8 0)).setCell ⟨g, 5, none⟩ (.int .i64 0)).setCell ⟨g, 6, none⟩ (.int .i64 0)).setCell ⟨g, 7, none⟩ (.int .i64 0)).setCell ⟨g, 8, none⟩ (.int .i64 0)).setCell ⟨g, 9, none⟩ (.int .i64 0)).setCell ⟨g, 10, none⟩ (.int .i64 0)).setCell ⟨g, 11, none⟩ (.int .i64 0)).setCell ⟨g, 12, none⟩ (.int .i64 0)).setCell ⟨g, 13, none⟩ (.int .i64 0)).setCell ⟨g, 14, none⟩ (.bool false)) g ⟨1, .none, false⟩ := by
    have q0 : Blk w g 30 #[.int .i64 i, .int .i64 kd, .int .i32 rr, .int .u8 pp, .int .u8 m, .int .i64 n, .int .i64 n0, .int .i64 n1, .int .i64 n2, .int .i64 n3, .int .i64 n4, .int .i64 n5, .int .i64 n6, .int .i64 n7, .bool b] := H.out
    have q1 : Blk _ g 30 #[.int .i64 1, .int .i64 kd, .int .i32 rr, .int .u8 pp, .int .u8 m, .int .i64 n, .int .i64 n0, .int .i64 n1, .int .i64 n2, .int .i64 n3, .int .i64 n4, .int .i64 n5, .int .i64 n6, .int .i64 n7, .bool b] := Blk.set_ q0 0 (.int .i64 1)
    have q2 : Blk _ g 30 #[.int .i64 1, .int .i64 0, .int .i32 rr, .int .u8 pp, .int .u8 m, .int .i64 n, .int .i64 n0, .int .i64 n1, .int .i64 n2, .int .i64 n3, .int .i64 n4, .int .i64 n5, .int .i64 n6, .int .i64 n7, .bool b] := Blk.set_ q1 1 (.int .i64 0)
    have q3 : Blk _ g 30 #[.int .i64 1, .int .i64 0, .int .i32 0, .int .u8 pp, .int .u8 m, .int .i64 n, .int .i64 n0, .int .i64 n1, .int .i64 n2, .int .i64 n3, .int .i64 n4, .int .i64 n5, .int .i64 n6, .int .i64 n7, .bool b] := Blk.set_ q2 2 (.int .i32 0)
    have q4 : Blk _ g 30 #[.int .i64 1, .int .i64 0, .int .i32 0, .int .u8 0, .int .u8 m, .int .i64 n, .int .i64 n0, .int .i64 n1, .int .i64 n2, .int .i64 n3, .int .i64 n4, .int .i64 n5, .int .i64 n6, .int .i64 n7, .bool b] := Blk.set_ q3 3 (.int .u8 0)
    have q5 : Blk _ g 30 #[.int .i64 1, .int .i64 0, .int .i32 0, .int .u8 0, .int .u8 0, .int .i64 n, .int .i64 n0, .int .i64 n1, .int .i64 n2, .int .i64 n3, .int .i64 n4, .int .i64 n5, .int .i64 n6, .int .i64 n7, .bool b] := Blk.set_ q4 4 (.int .u8 0)
    have q6 : Blk _ g 30 #[.int .i64 1, .int .i64 0, .int .i32 0, .int .u8 0, .int .u8 0, .int .i64 0, .int .i64 n0, .int .i64 n1, .int .i64 n2, .int .i64 n3, .int .i64 n4, .int .i64 n5, .int .i64 n6, .int .i64 n7, .bool b] := Blk.set_ q5 5 (.int .i64 0)
    have q7 : Blk _ g 30 #[.int .i64 1, .int .i64 0, .int .i32 0, .int .u8 0, .int .u8 0, .int .i64 0, .int .i64 0, .int .i64 n1, .int .i64 n2, .int .i64 n3, .int .i64 n4, .int .i64 n5, .int .i64 n6, .int .i64 n7, .bool b] := Blk.set_ q6 6 (.int .i64 0)
    have q8 : Blk _ g 30 #[.int .i64 1, .int .i64 0, .int .i32 0, .int .u8 0, .int .u8 0, .int .i64 0, .int .i64 0, .int .i64 0, .int .i64 n2, .int .i64 n3, .int .i64 n4, .int .i64 n5, .int .i64 n6, .int .i64 n7, .bool b] := Blk.set_ q7 7 (.int .i64 0)
    have q9 : Blk _ g 30 #[.int .i64 1, .int .i64 0, .int .i32 0, .int .u8 0, .int .u8 0, .int .i64 0, .int .i64 0, .int .i64 0, .int .i64 0, .int .i64 n3, .int .i64 n4, .int .i64 n5, .int .i64 n6, .int .i64 n7, .bool b] := Blk.set_ q8 8 (.int .i64 0)
    have q10 : Blk _ g 30 #[.int .i64 1, .int .i64 0, .int .i32 0, .int .u8 0, .int .u8 0, .int .i64 0, .int .i64 0, .int .i64 0, .int .i64 0, .int .i64 0, .int .i64 n4, .int .i64 n5, .int .i64 n6, .int .i64 n7, .bool b] := Blk.set_ q9 9 (.int .i64 0)
    have q11 : Blk _ g 30 #[.int .i64 1, .int .i64 0, .int .i32 0, .int .u8 0, .int .u8 0, .int .i64 0, .int .i64 0, .int .i64 0, .int .i64 0, .int .i64 0, .int .i64 0, .int .i64 n5, .int .i64 n6, .int .i64 n7, .bool b] := Blk.set_ q10 10 (.int .i64 0)
    have q12 : Blk _ g 30 #[.int .i64 1, .int .i64 0, .int .i32 0, .int .u8 0, .int .u8 0, .int .i64 0, .int .i64 0, .int .i64 0, .int .i64 0, .int .i64 0, .int .i64 0, .int .i64 0, .int .i64 n6, .int .i64 n7, .bool b] := Blk.set_ q11 11 (.int .i64 0)
    have q13 : Blk _ g 30 #[.int .i64 1, .int .i64 0, .int .i32 0, .int .u8 0, .int .u8 0, .int .i64 0, .int .i64 0, .int .i64 0, .int .i64 0, .int .i64 0, .int .i64 0, .int .i64 0, .int .i64 0, .int .i64 n7, .bool b] := Blk.set_ q12 12 (.int .i64 0)
    have q14 : Blk _ g 30 #[.int .i64 1, .int .i64 0, .int .i32 0, .int .u8 0, .int .u8 0, .int .i64 0, .int .i64 0, .int .i64 0, .int .i64 0, .int .i64 0, .int .i64 0, .int .i64 0, .int .i64 0, .int .i64 0, .bool b] := Blk.set_ q13 13 (.int .i64 0)
    have q15 : Blk _ g 30 #[.int .i64 1, .int .i64 0, .int .i32 0, .int .u8 0, .int .u8 0, .int .i64 0, .int .i64 0, .int .i64 0, .int .i64 0, .int .i64 0, .int .i64 0, .int .i64 0, .int .i64 0, .int .i64 0, .bool false] := Blk.set_ q14 14 (.bool false)
    exact q15
  have HQ := Lib.hid HP; clear HP
  go_enter Tryd.func14, Tryd.ntmps14
  go_wp2
  exact ret_act1 rfl rfl rfl (blk_at (by simp [World.setCell]) _) rfl ⟨rfl, ref_end HQ.out ((((((((((((((((Only.refl g w).setCell _).setCell _).setCell _).setCell _).setCell _).setCell _).setCell _).setCell _).setCell _).setCell _).setCell _).setCell _).setCell _).setCell _).setCell _) _⟩
set_option maxHeartbeats 4000000 in
set_option maxRecDepth 100000 in
theorem RStep_of (w : World) (g : Nat) (t : RPar) (r : Int) (h : RefPar w g t) (hok : t.ok) :
    Calls Tryd.prog 14 #[.pointer (some ⟨g, 0, none⟩), .int .i32 r] w fun e w' => e = .returned (actV (refStepE t r).2) ∧ RefPar w' g (refStepE t r).1 ∧ Only g w w' := by
  obtain ⟨n0, n1, n2, n3, n4, n5, n6, n7, e8⟩ := eight _ hok.len
  have hmid := hok.mid
  have hinn := hok.inn
  obtain ⟨i, ⟨kd, rr, pp, m, n, ns⟩, b⟩ := t
  simp only at e8 hmid hinn
  subst e8
  have c0 := h.facts.c0
  have z0 := Blk.frozen h 0
  have hlt := h.lt
  have HS : ∀ k : Int, RefPar (w.setCell ⟨g, 0, none⟩ (.int .i64 k)) g ⟨k, ⟨kd, rr, pp, m, n, [n0, n1, n2, n3, n4, n5, n6, n7]⟩, b⟩ := fun k => Blk.set_ h 0 _
  have hesc := fun W (k : RefPar W g ⟨i, ⟨kd, rr, pp, m, n, [n0, n1, n2, n3, n4, n5, n6, n7]⟩, b⟩) (q : 32 ≤ r) (q2 : r ≤ 1114111) => REscape_of W g i kd rr pp m n0 n1 n2 n3 n4 n5 n6 n7 r n b k q q2 hmid
  have hcsi := fun W (k : RefPar W g ⟨i, ⟨kd, rr, pp, m, n, [n0, n1, n2, n3, n4, n5, n6, n7]⟩, b⟩) (q : 32 ≤ r) => RCsi_of W g _ r k hok q
  have HQ := Lib.hid HS; clear HS
  have HB := Lib.hid (boxed w)
  have H := Lib.hid (show RefPar w g ⟨i, ⟨kd, rr, pp, m, n, [n0, n1, n2, n3, n4, n5, n6, n7]⟩, b⟩ from h); clear h
  have HC := Lib.hid (And.intro hesc (And.intro hcsi hok)); clear hesc hcsi hok
  unfold refStepE
  simp only
  by_cases k1 : r = 27
  · rw [if_pos k1]
    subst k1
    exact rstep_new w g i kd rr pp m n0 n1 n2 n3 n4 n5 n6 n7 n b H.out
  rw [if_neg k1]
  have e27 : (r == 27) = false := by simpa using k1
  by_cases k2 : r = 24 ∨ r = 26
  · rw [if_pos k2]
    rcases k2 with rfl | rfl
    all_goals
      go_enter Tryd.func14, Tryd.ntmps14
      go_wp2
      exact ret_act1 rfl rfl rfl (blk_at (by simp [World.setCell]) _) rfl ⟨rfl, ref_end (HQ.out 0) ((Only.refl g w).setCell _) _⟩
  rw [if_neg k2]
  have e24 : (r == 24) = false := by simp; omega
  have e26 : (r == 26) = false := by simp; omega
  by_cases k3 : r < 0 ∨ 1114111 < r ∨ 127 ≤ r ∧ r ≤ 159
  · rw [if_pos k3]
    rcases k3 with k3 | k3 | ⟨k3, k4⟩
    all_goals
      go_enter Tryd.func14, Tryd.ntmps14
      go_wp2
      exact ret_act1 rfl rfl rfl (blk_at rfl _) rfl ⟨rfl, ref_end H.out (Only.refl g w) _⟩
  rw [if_neg k3]
  have hr0 : 0 ≤ r := by omega
  have hr1 : r ≤ 1114111 := by omega
  by_cases k4 : r < 32
  · rw [if_pos k4]
    by_cases k5 : i = 4
    · rw [if_neg (by simpa using k5)]
      subst k5
      by_cases k6 : r = 7
      · rw [if_pos k6]
        subst k6
        go_enter Tryd.func14, Tryd.ntmps14
        go_wp2
        exact ret_act1 rfl rfl rfl (blk_at (by simp [World.setCell]) _) rfl ⟨rfl, ref_end (HQ.out 0) ((Only.refl g w).setCell _) _⟩
      · rw [if_neg k6]
        have e7 : (r == 7) = false := by simpa using k6
        go_enter Tryd.func14, Tryd.ntmps14
        go_wp2
        exact ret_act1 rfl rfl rfl (blk_at rfl _) rfl ⟨rfl, ref_end H.out (Only.refl g w) _⟩
    · rw [if_pos k5]
      have e4 : (i == 4) = false := by simpa using k5
      go_enter Tryd.func14, Tryd.ntmps14
      go_wp2
      exact ret_act1 rfl rfl rfl (blk_at rfl _) rfl ⟨rfl, ref_end H.out (Only.refl g w) _⟩
  rw [if_neg k4]
  have hr32 : 32 ≤ r := by omega
  have hr127 : r < 127 ∨ 159 < r := by omega
  clear k3 k4 k1 k2
  by_cases j0 : i = 0
  · rw [if_pos j0]
    subst j0
    rcases hr127 with k7 | k7
    all_goals
      go_enter Tryd.func14, Tryd.ntmps14
      go_wp2
      exact ret_act1 rfl rfl rfl (blk_at rfl _) rfl ⟨rfl, ref_end H.out (Only.refl g w) _⟩
  rw [if_neg j0]
  by_cases j1 : i = 1
  · rw [if_pos j1]
    subst j1
    have hX := HC.out.1
    have hal : (refEscE ⟨1, ⟨kd, rr, pp, m, n, [n0, n1, n2, n3, n4, n5, n6, n7]⟩, b⟩ r).2.ns.length = 8 := by
      unfold refEscE; repeat' split
      all_goals rfl
    generalize refEscE ⟨1, ⟨kd, rr, pp, m, n, [n0, n1, n2, n3, n4, n5, n6, n7]⟩, b⟩ r = X at hX hal ⊢
    obtain ⟨t', A⟩ := X
    simp only at hX hal ⊢
    have HX := Lib.hid (And.intro hX hal); clear hX hal
    rcases hr127 with k7 | k7
    all_goals
      go_enter Tryd.func14, Tryd.ntmps14
      go_wp2_with fail
      refine (HX.out.1 _ (H.out.ext HB.out.ext) hr32 hr1).mono ?_
      rintro e w3 ⟨rfl, hp3, ho3⟩
      have H3 := Lib.hid (And.intro hp3 (And.intro ho3 (HB.out.after hlt ho3))); clear hp3 ho3 c0
      go_wp2_with (with_reducible refine wpList_stop ?_)
      unfold StopAt
      refine wpList_store_act rfl _ _ rfl w.heap.size A HX.out.2 rfl rfl _ H3.out.2.2 rfl ?_
      intro w4 hb4 ho4
      have H4 := Lib.hid (And.intro hb4 ho4); clear hb4 ho4
      go_wp2
      exact ret_act1 rfl rfl rfl H4.out.1 (by rw [List.size_toArray, actC_len HX.out.2]) ⟨rfl, H3.out.1.only H4.out.2 (by omega), only_fresh ((HB.out.only g).trans H3.out.2.1) H4.out.2 (Nat.le_refl _)⟩
  rw [if_neg j1]
  by_cases j2 : i = 2
  · rw [if_pos j2]
    subst j2
    have hX := HC.out.2.1
    have hal : (refCsiE ⟨2, ⟨kd, rr, pp, m, n, [n0, n1, n2, n3, n4, n5, n6, n7]⟩, b⟩ r).2.ns.length = 8 := by
      unfold refCsiE; repeat' split
      all_goals rfl
    generalize refCsiE ⟨2, ⟨kd, rr, pp, m, n, [n0, n1, n2, n3, n4, n5, n6, n7]⟩, b⟩ r = X at hX hal ⊢
    obtain ⟨t', A⟩ := X
    simp only at hX hal ⊢
    have HX := Lib.hid (And.intro hX hal); clear hX hal
    rcases hr127 with k7 | k7
    all_goals
      go_enter Tryd.func14, Tryd.ntmps14
      go_wp2_with fail
      refine (HX.out.1 _ (H.out.ext HB.out.ext) hr32).mono ?_
      rintro e w3 ⟨rfl, hp3, ho3⟩
      have H3 := Lib.hid (And.intro hp3 (And.intro ho3 (HB.out.after hlt ho3))); clear hp3 ho3 c0
      go_wp2_with (with_reducible refine wpList_stop ?_)
      unfold StopAt
      refine wpList_store_act rfl _ _ rfl w.heap.size A HX.out.2 rfl rfl _ H3.out.2.2 rfl ?_
      intro w4 hb4 ho4
      have H4 := Lib.hid (And.intro hb4 ho4); clear hb4 ho4
      go_wp2
      exact ret_act1 rfl rfl rfl H4.out.1 (by rw [List.size_toArray, actC_len HX.out.2]) ⟨rfl, H3.out.1.only H4.out.2 (by omega), only_fresh ((HB.out.only g).trans H3.out.2.1) H4.out.2 (Nat.le_refl _)⟩
  rw [if_neg j2]
  by_cases j3 : i = 3
  · rw [if_pos j3]
    subst j3
    by_cases k8 : 64 ≤ r ∧ r ≤ 126
    · rw [if_pos k8]
      obtain ⟨k8, k9⟩ := k8
      clear hr127
      go_enter Tryd.func14, Tryd.ntmps14
      go_wp2
      exact ret_act1 rfl rfl rfl (blk_at (by simp [World.setCell]) _) rfl ⟨rfl, ref_end (HQ.out 0) ((Only.refl g w).setCell _) _⟩
    · rw [if_neg k8]
      have k9 : r < 64 ∨ 159 < r := by omega
      clear k8
      rcases k9 with k9 | k9
      all_goals
        go_enter Tryd.func14, Tryd.ntmps14
        go_wp2
        exact ret_act1 rfl rfl rfl (blk_at rfl _) rfl ⟨rfl, ref_end H.out (Only.refl g w) _⟩
  rw [if_neg j3]
  have j4 : i = 4 := by omega
  subst j4
  rcases hr127 with k7 | k7
  all_goals
    go_enter Tryd.func14, Tryd.ntmps14
    go_wp2
    exact ret_act1 rfl rfl rfl (blk_at rfl _) rfl ⟨rfl, ref_end H.out (Only.refl g w) _⟩
end Go.Proofs.YtgnknliaeoblhabDoor
namespace Go.Proofs.YtgnknliaeoblhabDoor
open Go Go.RowKit

theorem IsRunes.besideR {w : World} {v : Value} {l : List Int} {g : Nat} (h : IsRunes w v l) (hg : w.heap.size ≤ g) : 0 < l.length → ∀ g' off n c, v = .slice (some ⟨g', off, none⟩) n c → g' ≠ g := by
  intro hl g' off n c e
  subst e
  have := (h.at' (i := 0) (List.getElem?_eq_getElem hl)).2
  have := lt_of_cell this
  have : g' < w.heap.size := this
  omega
/-- The document's parser lies in block g, in the same as s. -/
def RelAt (w : World) (g : Nat) (s : Par) : Prop := ∃ t, RefPar w g t ∧ t.ok ∧ Rel s t
theorem RelAt.ext {w w' : World} {g : Nat} {s : Par} (h : RelAt w g s) (hx : Ext w w') : RelAt w' g s := by
  obtain ⟨t, h1, h2⟩ := h
  exact ⟨t, h1.ext hx, h2⟩
theorem RelAt.grown {W w' : World} {g base : Nat} {s : Par} {v : Value} {l : List ActV} (h : RelAt W g s) (ho : OwnA W base v l) (hg : W.grownBy w' v.ownBlock) (hgb : g < base) : RelAt w' g s := by
  obtain ⟨t, h1, h2⟩ := h
  exact ⟨t, (hg.block g h1.lt (fun e => by have := (World.ownsRow.lt ho g e.symm).1; omega)).trans h1, h2⟩
theorem RelAt.lt {w : World} {g : Nat} {s : Par} (h : RelAt w g s) : g < w.heap.size := by
  obtain ⟨t, h1, _⟩ := h
  exact h1.lt
theorem RStep_rel (w : World) (g : Nat) (s : Par) (r : Int) (h : RelAt w g s) (hok : s.ok) :
    Calls Tryd.prog 14 #[.pointer (some ⟨g, 0, none⟩), .int .i32 r] w fun e w' => e = .returned (actV (stepE s r).2) ∧ RelAt w' g (stepE s r).1 ∧ Only g w w' := by
  obtain ⟨t, h1, h2, h3⟩ := h
  obtain ⟨e1, e2⟩ := rel_step hok h3 r
  refine (RStep_of w g t r h1 h2).mono ?_
  rintro e w' ⟨he, hp, ho⟩
  rw [e1] at he
  exact ⟨he, ⟨_, hp, okR_step h2 r, e2⟩, ho⟩
/-- What stands behind i characters. -/
structure FedR (w : World) (g : Nat) (s : Par) (l : List Int) (i : Nat) (v : Value) (wr : World) : Prop where
  own : OwnA wr w.heap.size v (runE s (l.take i)).1
  par : RelAt wr g (runE s (l.take i)).2
  only : Only g w wr
  room : (runE s (l.take i)).1.length ≤ i
theorem FedR.next {w wn : World} {g : Nat} {s : Par} {l : List Int} {i : Nat} {v' : Value} {r : Int} (hi : l[i]? = some r) {out : List ActV} {S : Par} (ho : (runE s (l.take i)).1 = out) (hS : (runE s (l.take i)).2 = S) (hr : out.length ≤ i)
    (more : List ActV) (hm : (if (stepE S r).2.kind ≠ 0 then [(stepE S r).2] else []) = more) (hown : OwnA wn w.heap.size v' (out ++ more)) (hp : RelAt wn g (stepE S r).1) (hx : Only g w wn) : FedR w g s l (i + 1) v' wn := by
  have h1 := runE_one s l i r hi
  rw [ho, hS, hm] at h1
  refine ⟨by rw [h1]; exact hown, by rw [h1]; exact hp, hx, ?_⟩
  rw [h1]
  show (out ++ more).length ≤ i + 1
  rw [List.length_append, ← hm]
  split <;> simp <;> omega
set_option maxHeartbeats 4000000 in
set_option maxRecDepth 100000 in
theorem RFeed_of (w : World) (g : Nat) (s : Par) (v : Value) (l : List Int) (h : RelAt w g s) (hok : s.ok) (hv : IsRunes w v l) (hne : 0 < l.length → ∀ g' off n c, v = .slice (some ⟨g', off, none⟩) n c → g' ≠ g) (hm : l.length ≤ 100000) :
    Calls Tryd.prog 8 #[.pointer (some ⟨g, 0, none⟩), v] w fun e w' => ∃ v', e = .returned v' ∧ OwnA w' w.heap.size v' (runE s l).1 ∧ RelAt w' g (runE s l).2 ∧ Only g w w' := by
  obtain ⟨A, c, rfl, hc, _⟩ := hv.form
  have hlt := h.lt
  obtain ⟨L, hL⟩ : ∃ L, l.length = L := ⟨_, rfl⟩
  rw [hL] at hv hne hc hm ⊢
  have H := Lib.hid (And.intro h (And.intro hok (And.intro hv (And.intro hne (And.intro hL hlt))))); clear h hok hv hne hL hlt
  go_enter Tryd.func8, Tryd.ntmps8
  go_wp2
  go_loopg [5, 6] L (fun k b j wr => ∃ (i : Nat), Hid (i + k = L) ∧ j = .int .i64 i ∧ Hid (FedR w g s l i b wr))
  case atStart => exact ⟨0, Nat.zero_add _, rfl, OwnA.nil _ _, H.out.1, Only.refl _ _, Nat.le_refl _⟩
  case round =>
    obtain ⟨i, hi, rfl, hfed⟩ := hrel
    by_cases hlt : i < L
    · obtain ⟨y, hy⟩ : ∃ y, l[i]? = some y := ⟨l[i]'(by rw [H.out.2.2.2.2.1]; exact hlt), List.getElem?_eq_getElem _⟩
      obtain ⟨_, ga, offa, rfl, ca⟩ := H.out.2.2.1.at hy
      have hgg := H.out.2.2.2.1 (by omega) ga offa L c rfl
      have da := hfed.out.only.cell hgg ca
      have hokS := ok_runE H.out.2.1 (l.take i)
      have hnx := fun (wn : World) (v' : Value) => FedR.next (w := w) (wn := wn) (g := g) (s := s) (v' := v') hy rfl rfl hfed.out.room
      obtain ⟨hown, hpar, honly, hroom⟩ := hfed.out
      generalize (runE s (l.take i)).1 = out at hown hroom hnx
      generalize (runE s (l.take i)).2 = S at hpar hokS hnx
      have hst := RStep_rel wr g S y hpar hokS
      have hact := act_stepE hokS y
      generalize (stepE S y).1 = S' at hst hnx
      generalize (stepE S y).2 = X at hst hact hnx
      obtain ⟨n0, n1, n2, n3, n4, n5, n6, n7, e8⟩ := eight _ hact.1.len
      obtain ⟨kd, rr, pp, mm, nn, ns⟩ := X
      simp only at e8
      subst e8
      rw [show actV ⟨kd, rr, pp, mm, nn, [n0, n1, n2, n3, n4, n5, n6, n7]⟩ = .agg #[.int .i64 kd, .int .i32 rr, .int .u8 pp, .int .u8 mm, .int .i64 nn, .int .i64 n0, .int .i64 n1, .int .i64 n2, .int .i64 n3, .int .i64 n4, .int .i64 n5, .int .i64 n6, .int .i64 n7] from rfl] at hst
      have HI := Lib.hid (And.intro hown (And.intro honly (And.intro hroom (And.intro hact.1 (And.intro hst hnx)))))
      clear hown honly hroom hact hst hnx hpar hokS hfed hgg hy ca
      by_cases hk : kd = 0
      · have hb : (kd != 0) = false := by simpa using hk
        have HK := Lib.hid hk; clear hk
        go_wp2_with fail
        refine HI.out.2.2.2.2.1.mono ?_
        rintro e w1 ⟨rfl, hp1, ho1⟩
        have hE : FedR w g s l (i + 1) u5 (w1.alloc (.cells #[.int .i64 kd, .int .i32 rr, .int .u8 pp, .int .u8 mm, .int .i64 nn, .int .i64 n0, .int .i64 n1, .int .i64 n2, .int .i64 n3, .int .i64 n4, .int .i64 n5, .int .i64 n6, .int .i64 n7] 28)) := by
          have hxx := (Ext.refl w1).alloc (.cells #[.int .i64 kd, .int .i32 rr, .int .u8 pp, .int .u8 mm, .int .i64 nn, .int .i64 n0, .int .i64 n1, .int .i64 n2, .int .i64 n3, .int .i64 n4, .int .i64 n5, .int .i64 n6, .int .i64 n7] 28)
          refine HI.out.2.2.2.2.2 _ u5 [] (if_neg (by simpa using HK.out)) ?_ (hp1.ext hxx) ((HI.out.2.1.trans ho1).ext hxx)
          rw [List.append_nil]
          exact (HI.out.1.only ho1 H.out.2.2.2.2.2).ext hxx
        have HE := Lib.hid hE; clear hE hp1 ho1 da
        go_wp2
        go_roundg (gk - 1)
        case measure => have := hi.out; omega
        case rel =>
          refine ⟨i + 1, ?_, by go_num, HE.out⟩
          show i + 1 + (gk - 1) = L
          have := hi.out; omega
      · have hb : (kd != 0) = true := by simpa using hk
        have HK := Lib.hid hk; clear hk
        go_wp2_with fail
        refine HI.out.2.2.2.2.1.mono ?_
        rintro e w1 ⟨rfl, hp1, ho1⟩
        obtain ⟨cs, hcs⟩ : ∃ cs : Array Value, cs = #[.int .i64 kd, .int .i32 rr, .int .u8 pp, .int .u8 mm, .int .i64 nn, .int .i64 n0, .int .i64 n1, .int .i64 n2, .int .i64 n3, .int .i64 n4, .int .i64 n5, .int .i64 n6, .int .i64 n7] := ⟨_, rfl⟩
        have hxx := ((Ext.refl w1).alloc (.cells cs 28)).alloc (.cells cs 28)
        have hbb : Blk ((w1.alloc (.cells cs 28)).alloc (.cells cs 28)) (w1.heap.size + 1) 28 cs := Go.heap_alloc2_new w1 _ _
        have hoo := (HI.out.1.only ho1 H.out.2.2.2.2.2).ext hxx
        have hpp := hp1.ext hxx
        have hww := (HI.out.2.1.trans ho1).ext hxx
        rw [hcs] at hbb hoo hpp hww
        have HX := Lib.hid (And.intro hbb (And.intro hoo (And.intro hpp hww)))
        clear hbb hoo hpp hww hxx hcs hp1 ho1 da
        go_wp2_with (at_builtin; refine wpList_app_act rfl _ _ rfl w.heap.size u5 out rfl HX.out.2.1 (w1.heap.size + 1) ⟨kd, rr, pp, mm, nn, [n0, n1, n2, n3, n4, n5, n6, n7]⟩ HI.out.2.2.2.1 rfl HX.out.1 (by have := HI.out.2.2.1; omega) HX.out.2.2.2.size ?_)
        intro v' w2 happ
        have HE := Lib.hid (HI.out.2.2.2.2.2 w2 v' _ (if_pos HK.out) happ.own (RelAt.grown HX.out.2.2.1 HX.out.2.1 happ.grown H.out.2.2.2.2.2) (only_grownA HX.out.2.2.2 HX.out.2.1 happ.grown (Nat.le_refl _)))
        clear happ
        go_wp2
        go_roundg (gk - 1)
        case measure => have := hi.out; omega
        case rel =>
          refine ⟨i + 1, ?_, by go_num, HE.out⟩
          show i + 1 + (gk - 1) = L
          have := hi.out; omega
    · have he : l.take i = l := List.take_of_length_le (by have := H.out.2.2.2.2.1; omega)
      obtain ⟨hown, hpar, honly, hroom⟩ := hfed.out
      rw [he] at hown hpar
      have HE := Lib.hid (And.intro hown (And.intro hpar honly)); clear he hown hpar honly hroom hfed
      go_wp2
      go_ret
      exact ⟨_, rfl, HE.out⟩
end Go.Proofs.YtgnknliaeoblhabDoor
namespace Go.Proofs.YtgnknliaeoblhabDoor
open Go Go.RowKit

def fol (b : Nat) : Int × Int × Int := if b < 128 then (0, 128, 191) else if (lead b).1 = 0 then (-1, 0, 0) else ((lead b).1, (lead b).2.1, (lead b).2.2)
theorem fol_small {b : Nat} (h : b < 128) : fol b = (0, 128, 191) := by unfold fol; rw [if_pos h]
theorem fol_none {b : Nat} (h : ¬ b < 128) (h2 : (lead b).1 = 0) : fol b = (-1, 0, 0) := by unfold fol; rw [if_neg h, if_pos h2]
theorem fol_lead {b l lo hi : Nat} (h : ¬ b < 128) (h2 : lead b = (l, lo, hi)) (h3 : l ≠ 0) : fol b = ((l : Int), (lo : Int), (hi : Int)) := by unfold fol; rw [if_neg h, h2, if_neg h3]
theorem lead_none {b : Nat} (h : b < 194 ∨ 244 < b) : (lead b).1 = 0 := by
  unfold lead
  repeat' split
  all_goals first | omega | rfl

theorem infoThree : (Tryd.prog.info? 43).map (·.size) = some 3 := by kernel_rfl
set_option maxHeartbeats 2000000 in
set_option maxRecDepth 100000 in
theorem follows_any (z : Int) (w : World) (h0 : 0 ≤ z) (h1 : z ≤ 255) : Calls Tryd.prog 23 #[.int .u8 z] w fun e w' => e = .returned (.agg #[.int .i64 (fol z.toNat).1, .int .i64 (fol z.toNat).2.1, .int .i64 (fol z.toNat).2.2]) ∧ Ext w w' := by
  by_cases c0 : z < 128
  · skip
    have hf : fol z.toNat = (0, 128, 191) := fol_small (by omega)
    rw [hf]
    clear hf
    go_enter Tryd.func23, Tryd.ntmps23
    go_wp2
    try simp only [Exit.inBlock, Exit.then]
    refine bodyPost_ret (results_cell_row rfl _ _ w.heap.size 43 _ (0, 0) _ rfl (Go.heap_alloc_new _ _) Tryd.underlying43 rfl infoThree) rfl ?_
    exact ⟨rfl, (Ext.refl w).alloc _⟩
  · skip
    by_cases c1 : 194 ≤ z ∧ z ≤ 223
    · obtain ⟨a1, b1⟩ := c1
      have hf : fol z.toNat = (1, 128, 191) := fol_lead (l := 1) (lo := 128) (hi := 191) (by omega) (lead1 (by omega)) (by omega)
      rw [hf]
      clear hf
      go_enter Tryd.func23, Tryd.ntmps23
      go_wp2
      try simp only [Exit.inBlock, Exit.then]
      refine bodyPost_ret (results_cell_row rfl _ _ w.heap.size 43 _ (0, 0) _ rfl (Go.heap_alloc_new _ _) Tryd.underlying43 rfl infoThree) rfl ?_
      exact ⟨rfl, (Ext.refl w).alloc _⟩
    · skip
      by_cases c2 : z = 224
      · subst c2
        have hf : fol (224 : Int).toNat = (2, 160, 191) := by decide
        rw [hf]
        clear hf
        go_enter Tryd.func23, Tryd.ntmps23
        go_wp2
        try simp only [Exit.inBlock, Exit.then]
        refine bodyPost_ret (results_cell_row rfl _ _ w.heap.size 43 _ (0, 0) _ rfl (Go.heap_alloc_new _ _) Tryd.underlying43 rfl infoThree) rfl ?_
        exact ⟨rfl, (Ext.refl w).alloc _⟩
      · have e2 : (z == 224) = false := by simpa using c2
        by_cases c3 : z = 237
        · subst c3
          have hf : fol (237 : Int).toNat = (2, 128, 159) := by decide
          rw [hf]
          clear hf
          go_enter Tryd.func23, Tryd.ntmps23
          go_wp2
          try simp only [Exit.inBlock, Exit.then]
          refine bodyPost_ret (results_cell_row rfl _ _ w.heap.size 43 _ (0, 0) _ rfl (Go.heap_alloc_new _ _) Tryd.underlying43 rfl infoThree) rfl ?_
          exact ⟨rfl, (Ext.refl w).alloc _⟩
        · have e3 : (z == 237) = false := by simpa using c3
          by_cases c4 : 225 ≤ z ∧ z ≤ 239
          · obtain ⟨a4, b4⟩ := c4
            have hf : fol z.toNat = (2, 128, 191) := fol_lead (l := 2) (lo := 128) (hi := 191) (by omega) (by rw [lead2 (by omega)]; simp; omega) (by omega)
            rw [hf]
            clear hf
            go_enter Tryd.func23, Tryd.ntmps23
            go_wp2
            try simp only [Exit.inBlock, Exit.then]
            refine bodyPost_ret (results_cell_row rfl _ _ w.heap.size 43 _ (0, 0) _ rfl (Go.heap_alloc_new _ _) Tryd.underlying43 rfl infoThree) rfl ?_
            exact ⟨rfl, (Ext.refl w).alloc _⟩
          · skip
            by_cases c5 : z = 240
            · subst c5
              have hf : fol (240 : Int).toNat = (3, 144, 191) := by decide
              rw [hf]
              clear hf
              go_enter Tryd.func23, Tryd.ntmps23
              go_wp2
              try simp only [Exit.inBlock, Exit.then]
              refine bodyPost_ret (results_cell_row rfl _ _ w.heap.size 43 _ (0, 0) _ rfl (Go.heap_alloc_new _ _) Tryd.underlying43 rfl infoThree) rfl ?_
              exact ⟨rfl, (Ext.refl w).alloc _⟩
            · have e5 : (z == 240) = false := by simpa using c5
              by_cases c6 : 241 ≤ z ∧ z ≤ 243
              · obtain ⟨a6, b6⟩ := c6
                have hf : fol z.toNat = (3, 128, 191) := fol_lead (l := 3) (lo := 128) (hi := 191) (by omega) (by rw [lead3 (by omega)]; simp; omega) (by omega)
                rw [hf]
                clear hf
                go_enter Tryd.func23, Tryd.ntmps23
                go_wp2
                try simp only [Exit.inBlock, Exit.then]
                refine bodyPost_ret (results_cell_row rfl _ _ w.heap.size 43 _ (0, 0) _ rfl (Go.heap_alloc_new _ _) Tryd.underlying43 rfl infoThree) rfl ?_
                exact ⟨rfl, (Ext.refl w).alloc _⟩
              · skip
                by_cases c7 : z = 244
                · subst c7
                  have hf : fol (244 : Int).toNat = (3, 128, 143) := by decide
                  rw [hf]
                  clear hf
                  go_enter Tryd.func23, Tryd.ntmps23
                  go_wp2
                  try simp only [Exit.inBlock, Exit.then]
                  refine bodyPost_ret (results_cell_row rfl _ _ w.heap.size 43 _ (0, 0) _ rfl (Go.heap_alloc_new _ _) Tryd.underlying43 rfl infoThree) rfl ?_
                  exact ⟨rfl, (Ext.refl w).alloc _⟩
                · have e7 : (z == 244) = false := by simpa using c7
                  by_cases d0 : z < 194
                  · skip
                    have hf : fol z.toNat = (-1, 0, 0) := fol_none (by omega) (lead_none (by omega))
                    rw [hf]
                    clear hf
                    go_enter Tryd.func23, Tryd.ntmps23
                    go_wp2
                    try simp only [Exit.inBlock, Exit.then]
                    refine bodyPost_ret (results_cell_row rfl _ _ w.heap.size 43 _ (0, 0) _ rfl (Go.heap_alloc_new _ _) Tryd.underlying43 rfl infoThree) rfl ?_
                    exact ⟨rfl, (Ext.refl w).alloc _⟩
                  · have d1 : 244 < z := by omega
                    have hf : fol z.toNat = (-1, 0, 0) := fol_none (by omega) (lead_none (by omega))
                    rw [hf]
                    clear hf
                    go_enter Tryd.func23, Tryd.ntmps23
                    go_wp2
                    try simp only [Exit.inBlock, Exit.then]
                    refine bodyPost_ret (results_cell_row rfl _ _ w.heap.size 43 _ (0, 0) _ rfl (Go.heap_alloc_new _ _) Tryd.underlying43 rfl infoThree) rfl ?_
                    exact ⟨rfl, (Ext.refl w).alloc _⟩
end Go.Proofs.YtgnknliaeoblhabDoor
