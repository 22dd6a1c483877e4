/- A step of the document's parser. -/
import Derived.Test.YtmppbmbhnoaggabEscRC
namespace Go.Proofs.Ytmppbmbhnoaggab
open Go Go.RowKit

set_option maxHeartbeats 4000000 in
set_option maxRecDepth 100000 in
theorem rstep_new (w : World) (g : Nat) (i kd rr pp m n0 n1 n2 n3 n4 n5 n6 n7 : Int) (n : Nat) (b : Bool) (h : RefPar w g ⟨i, ⟨kd, rr, pp, m, n, [n0, n1, n2, n3, n4, n5, n6, n7]⟩, b⟩) :
    Calls Try.prog 12 #[.pointer (some ⟨g, 0, none⟩), .int .i32 27] w fun e w' => e = .returned (actV .none) ∧ RefPar w' g ⟨1, .none, false⟩ ∧ Only g w w' := by
  obtain ⟨c0, c1, c2, c3, c4, c5, c6, c7, c8, c9, ca, cb, cc, cd, ce⟩ := h.facts
  have z0 := Blk.frozen h 0
  have z1 := Blk.frozen h 1
  have z2 := Blk.frozen h 2
  have z3 := Blk.frozen h 3
  have z4 := Blk.frozen h 4
  have z5 := Blk.frozen h 5
  have z6 := Blk.frozen h 6
  have z7 := Blk.frozen h 7
  have z8 := Blk.frozen h 8
  have z9 := Blk.frozen h 9
  have z10 := Blk.frozen h 10
  have z11 := Blk.frozen h 11
  have z12 := Blk.frozen h 12
  have z13 := Blk.frozen h 13
  have z14 := Blk.frozen h 14
  have hlt := h.lt
  have H := Lib.hid h; clear h
  have HP : RefPar (((((((((((((((w.setCell ⟨g, 0, none⟩ (.int .i64 1)).setCell ⟨g, 1, none⟩ (.int .i64 0)).setCell ⟨g, 2, none⟩ (.int .i32 0)).setCell ⟨g, 3, none⟩ (.int .u8 0)).setCell ⟨g, 4, none⟩ (.int .u8 0)).setCell ⟨g, 5, none⟩ (.int .i64 0)).setCell ⟨g, 6, none⟩ (.int .i64 0)).setCell ⟨g, 7, none⟩ (.int .i64 0)).setCell ⟨g, 8, none⟩ (.int .i64 0)).setCell ⟨g, 9, none⟩ (.int .i64 0)).setCell ⟨g, 10, none⟩ (.int .i64 0)).setCell ⟨g, 11, none⟩ (.int .i64 0)).setCell ⟨g, 12, none⟩ (.int .i64 0)).setCell ⟨g, 13, none⟩ (.int .i64 0)).setCell ⟨g, 14, none⟩ (.bool false)) g ⟨1, .none, false⟩ := by
    have q0 : Blk w g 33 #[.int .i64 i, .int .i64 kd, .int .i32 rr, .int .u8 pp, .int .u8 m, .int .i64 n, .int .i64 n0, .int .i64 n1, .int .i64 n2, .int .i64 n3, .int .i64 n4, .int .i64 n5, .int .i64 n6, .int .i64 n7, .bool b] := H.out
    have q1 : Blk _ g 33 #[.int .i64 1, .int .i64 kd, .int .i32 rr, .int .u8 pp, .int .u8 m, .int .i64 n, .int .i64 n0, .int .i64 n1, .int .i64 n2, .int .i64 n3, .int .i64 n4, .int .i64 n5, .int .i64 n6, .int .i64 n7, .bool b] := Blk.set_ q0 0 (.int .i64 1)
    have q2 : Blk _ g 33 #[.int .i64 1, .int .i64 0, .int .i32 rr, .int .u8 pp, .int .u8 m, .int .i64 n, .int .i64 n0, .int .i64 n1, .int .i64 n2, .int .i64 n3, .int .i64 n4, .int .i64 n5, .int .i64 n6, .int .i64 n7, .bool b] := Blk.set_ q1 1 (.int .i64 0)
    have q3 : Blk _ g 33 #[.int .i64 1, .int .i64 0, .int .i32 0, .int .u8 pp, .int .u8 m, .int .i64 n, .int .i64 n0, .int .i64 n1, .int .i64 n2, .int .i64 n3, .int .i64 n4, .int .i64 n5, .int .i64 n6, .int .i64 n7, .bool b] := Blk.set_ q2 2 (.int .i32 0)
    have q4 : Blk _ g 33 #[.int .i64 1, .int .i64 0, .int .i32 0, .int .u8 0, .int .u8 m, .int .i64 n, .int .i64 n0, .int .i64 n1, .int .i64 n2, .int .i64 n3, .int .i64 n4, .int .i64 n5, .int .i64 n6, .int .i64 n7, .bool b] := Blk.set_ q3 3 (.int .u8 0)
    have q5 : Blk _ g 33 #[.int .i64 1, .int .i64 0, .int .i32 0, .int .u8 0, .int .u8 0, .int .i64 n, .int .i64 n0, .int .i64 n1, .int .i64 n2, .int .i64 n3, .int .i64 n4, .int .i64 n5, .int .i64 n6, .int .i64 n7, .bool b] := Blk.set_ q4 4 (.int .u8 0)
    have q6 : Blk _ g 33 #[.int .i64 1, .int .i64 0, .int .i32 0, .int .u8 0, .int .u8 0, .int .i64 0, .int .i64 n0, .int .i64 n1, .int .i64 n2, .int .i64 n3, .int .i64 n4, .int .i64 n5, .int .i64 n6, .int .i64 n7, .bool b] := Blk.set_ q5 5 (.int .i64 0)
    have q7 : Blk _ g 33 #[.int .i64 1, .int .i64 0, .int .i32 0, .int .u8 0, .int .u8 0, .int .i64 0, .int .i64 0, .int .i64 n1, .int .i64 n2, .int .i64 n3, .int .i64 n4, .int .i64 n5, .int .i64 n6, .int .i64 n7, .bool b] := Blk.set_ q6 6 (.int .i64 0)
    have q8 : Blk _ g 33 #[.int .i64 1, .int .i64 0, .int .i32 0, .int .u8 0, .int .u8 0, .int .i64 0, .int .i64 0, .int .i64 0, .int .i64 n2, .int .i64 n3, .int .i64 n4, .int .i64 n5, .int .i64 n6, .int .i64 n7, .bool b] := Blk.set_ q7 7 (.int .i64 0)
    have q9 : Blk _ g 33 #[.int .i64 1, .int .i64 0, .int .i32 0, .int .u8 0, .int .u8 0, .int .i64 0, .int .i64 0, .int .i64 0, .int .i64 0, .int .i64 n3, .int .i64 n4, .int .i64 n5, .int .i64 n6, .int .i64 n7, .bool b] := Blk.set_ q8 8 (.int .i64 0)
    have q10 : Blk _ g 33 #[.int .i64 1, .int .i64 0, .int .i32 0, .int .u8 0, .int .u8 0, .int .i64 0, .int .i64 0, .int .i64 0, .int .i64 0, .int .i64 0, .int .i64 n4, .int .i64 n5, .int .i64 n6, .int .i64 n7, .bool b] := Blk.set_ q9 9 (.int .i64 0)
    have q11 : Blk _ g 33 #[.int .i64 1, .int .i64 0, .int .i32 0, .int .u8 0, .int .u8 0, .int .i64 0, .int .i64 0, .int .i64 0, .int .i64 0, .int .i64 0, .int .i64 0, .int .i64 n5, .int .i64 n6, .int .i64 n7, .bool b] := Blk.set_ q10 10 (.int .i64 0)
    have q12 : Blk _ g 33 #[.int .i64 1, .int .i64 0, .int .i32 0, .int .u8 0, .int .u8 0, .int .i64 0, .int .i64 0, .int .i64 0, .int .i64 0, .int .i64 0, .int .i64 0, .int .i64 0, .int .i64 n6, .int .i64 n7, .bool b] := Blk.set_ q11 11 (.int .i64 0)
    have q13 : Blk _ g 33 #[.int .i64 1, .int .i64 0, .int .i32 0, .int .u8 0, .int .u8 0, .int .i64 0, .int .i64 0, .int .i64 0, .int .i64 0, .int .i64 0, .int .i64 0, .int .i64 0, .int .i64 0, .int .i64 n7, .bool b] := Blk.set_ q12 12 (.int .i64 0)
    have q14 : Blk _ g 33 #[.int .i64 1, .int .i64 0, .int .i32 0, .int .u8 0, .int .u8 0, .int .i64 0, .int .i64 0, .int .i64 0, .int .i64 0, .int .i64 0, .int .i64 0, .int .i64 0, .int .i64 0, .int .i64 0, .bool b] := Blk.set_ q13 13 (.int .i64 0)
    have q15 : Blk _ g 33 #[.int .i64 1, .int .i64 0, .int .i32 0, .int .u8 0, .int .u8 0, .int .i64 0, .int .i64 0, .int .i64 0, .int .i64 0, .int .i64 0, .int .i64 0, .int .i64 0, .int .i64 0, .int .i64 0, .bool false] := Blk.set_ q14 14 (.bool false)
    exact q15
  have HQ := Lib.hid HP; clear HP
  go_enter Try.func12, Try.ntmps12
  go_wp2
  exact ret_act1 rfl rfl rfl (blk_at (by simp [World.setCell]) _) rfl ⟨rfl, ref_end HQ.out ((((((((((((((((Only.refl g w).setCell _).setCell _).setCell _).setCell _).setCell _).setCell _).setCell _).setCell _).setCell _).setCell _).setCell _).setCell _).setCell _).setCell _).setCell _) _⟩
set_option maxHeartbeats 4000000 in
set_option maxRecDepth 100000 in
theorem RStep_of (w : World) (g : Nat) (t : RPar) (r : Int) (h : RefPar w g t) (hok : t.ok) :
    Calls Try.prog 12 #[.pointer (some ⟨g, 0, none⟩), .int .i32 r] w fun e w' => e = .returned (actV (refStepE t r).2) ∧ RefPar w' g (refStepE t r).1 ∧ Only g w w' := by
  obtain ⟨n0, n1, n2, n3, n4, n5, n6, n7, e8⟩ := eight _ hok.len
  have hmid := hok.mid
  have hinn := hok.inn
  obtain ⟨i, ⟨kd, rr, pp, m, n, ns⟩, b⟩ := t
  simp only at e8 hmid hinn
  subst e8
  have c0 := h.facts.c0
  have z0 := Blk.frozen h 0
  have hlt := h.lt
  have HS : ∀ k : Int, RefPar (w.setCell ⟨g, 0, none⟩ (.int .i64 k)) g ⟨k, ⟨kd, rr, pp, m, n, [n0, n1, n2, n3, n4, n5, n6, n7]⟩, b⟩ := fun k => Blk.set_ h 0 _
  have hesc := fun W (k : RefPar W g ⟨i, ⟨kd, rr, pp, m, n, [n0, n1, n2, n3, n4, n5, n6, n7]⟩, b⟩) (q : 32 ≤ r) (q2 : r ≤ 1114111) => REscape_of W g i kd rr pp m n0 n1 n2 n3 n4 n5 n6 n7 r n b k q q2 hmid
  have hcsi := fun W (k : RefPar W g ⟨i, ⟨kd, rr, pp, m, n, [n0, n1, n2, n3, n4, n5, n6, n7]⟩, b⟩) (q : 32 ≤ r) => RCsi_of W g _ r k hok q
  have HQ := Lib.hid HS; clear HS
  have HB := Lib.hid (boxed w)
  have H := Lib.hid (show RefPar w g ⟨i, ⟨kd, rr, pp, m, n, [n0, n1, n2, n3, n4, n5, n6, n7]⟩, b⟩ from h); clear h
  have HC := Lib.hid (And.intro hesc (And.intro hcsi hok)); clear hesc hcsi hok
  unfold refStepE
  simp only
  by_cases k1 : r = 27
  · rw [if_pos k1]
    subst k1
    exact rstep_new w g i kd rr pp m n0 n1 n2 n3 n4 n5 n6 n7 n b H.out
  rw [if_neg k1]
  have e27 : (r == 27) = false := by simpa using k1
  by_cases k2 : r = 24 ∨ r = 26
  · rw [if_pos k2]
    rcases k2 with rfl | rfl
    all_goals
      go_enter Try.func12, Try.ntmps12
      go_wp2
      exact ret_act1 rfl rfl rfl (blk_at (by simp [World.setCell]) _) rfl ⟨rfl, ref_end (HQ.out 0) ((Only.refl g w).setCell _) _⟩
  rw [if_neg k2]
  have e24 : (r == 24) = false := by simp; omega
  have e26 : (r == 26) = false := by simp; omega
  by_cases k3 : r < 0 ∨ 1114111 < r ∨ 127 ≤ r ∧ r ≤ 159
  · rw [if_pos k3]
    rcases k3 with k3 | k3 | ⟨k3, k4⟩
    all_goals
      go_enter Try.func12, Try.ntmps12
      go_wp2
      exact ret_act1 rfl rfl rfl (blk_at rfl _) rfl ⟨rfl, ref_end H.out (Only.refl g w) _⟩
  rw [if_neg k3]
  have hr0 : 0 ≤ r := by omega
  have hr1 : r ≤ 1114111 := by omega
  by_cases k4 : r < 32
  · rw [if_pos k4]
    by_cases k5 : i = 4
    · rw [if_neg (by simpa using k5)]
      subst k5
      by_cases k6 : r = 7
      · rw [if_pos k6]
        subst k6
        go_enter Try.func12, Try.ntmps12
        go_wp2
        exact ret_act1 rfl rfl rfl (blk_at (by simp [World.setCell]) _) rfl ⟨rfl, ref_end (HQ.out 0) ((Only.refl g w).setCell _) _⟩
      · rw [if_neg k6]
        have e7 : (r == 7) = false := by simpa using k6
        go_enter Try.func12, Try.ntmps12
        go_wp2
        exact ret_act1 rfl rfl rfl (blk_at rfl _) rfl ⟨rfl, ref_end H.out (Only.refl g w) _⟩
    · rw [if_pos k5]
      have e4 : (i == 4) = false := by simpa using k5
      go_enter Try.func12, Try.ntmps12
      go_wp2
      exact ret_act1 rfl rfl rfl (blk_at rfl _) rfl ⟨rfl, ref_end H.out (Only.refl g w) _⟩
  rw [if_neg k4]
  have hr32 : 32 ≤ r := by omega
  have hr127 : r < 127 ∨ 159 < r := by omega
  clear k3 k4 k1 k2
  by_cases j0 : i = 0
  · rw [if_pos j0]
    subst j0
    rcases hr127 with k7 | k7
    all_goals
      go_enter Try.func12, Try.ntmps12
      go_wp2
      exact ret_act1 rfl rfl rfl (blk_at rfl _) rfl ⟨rfl, ref_end H.out (Only.refl g w) _⟩
  rw [if_neg j0]
  by_cases j1 : i = 1
  · rw [if_pos j1]
    subst j1
    have hX := HC.out.1
    have hal : (refEscE ⟨1, ⟨kd, rr, pp, m, n, [n0, n1, n2, n3, n4, n5, n6, n7]⟩, b⟩ r).2.ns.length = 8 := by
      unfold refEscE; repeat' split
      all_goals rfl
    generalize refEscE ⟨1, ⟨kd, rr, pp, m, n, [n0, n1, n2, n3, n4, n5, n6, n7]⟩, b⟩ r = X at hX hal ⊢
    obtain ⟨t', A⟩ := X
    simp only at hX hal ⊢
    have HX := Lib.hid (And.intro hX hal); clear hX hal
    rcases hr127 with k7 | k7
    all_goals
      go_enter Try.func12, Try.ntmps12
      go_wp2_with fail
      refine (HX.out.1 _ (H.out.ext HB.out.ext) hr32 hr1).mono ?_
      rintro e w3 ⟨rfl, hp3, ho3⟩
      have H3 := Lib.hid (And.intro hp3 (And.intro ho3 (HB.out.after hlt ho3))); clear hp3 ho3 c0
      go_wp2_with (with_reducible refine wpList_stop ?_)
      unfold StopAt
      refine wpList_store_act rfl _ _ rfl w.heap.size A HX.out.2 rfl rfl _ H3.out.2.2 rfl ?_
      intro w4 hb4 ho4
      have H4 := Lib.hid (And.intro hb4 ho4); clear hb4 ho4
      go_wp2
      exact ret_act1 rfl rfl rfl H4.out.1 (by rw [List.size_toArray, actC_len HX.out.2]) ⟨rfl, H3.out.1.only H4.out.2 (by omega), only_fresh ((HB.out.only g).trans H3.out.2.1) H4.out.2 (Nat.le_refl _)⟩
  rw [if_neg j1]
  by_cases j2 : i = 2
  · rw [if_pos j2]
    subst j2
    have hX := HC.out.2.1
    have hal : (refCsiE ⟨2, ⟨kd, rr, pp, m, n, [n0, n1, n2, n3, n4, n5, n6, n7]⟩, b⟩ r).2.ns.length = 8 := by
      unfold refCsiE; repeat' split
      all_goals rfl
    generalize refCsiE ⟨2, ⟨kd, rr, pp, m, n, [n0, n1, n2, n3, n4, n5, n6, n7]⟩, b⟩ r = X at hX hal ⊢
    obtain ⟨t', A⟩ := X
    simp only at hX hal ⊢
    have HX := Lib.hid (And.intro hX hal); clear hX hal
    rcases hr127 with k7 | k7
    all_goals
      go_enter Try.func12, Try.ntmps12
      go_wp2_with fail
      refine (HX.out.1 _ (H.out.ext HB.out.ext) hr32).mono ?_
      rintro e w3 ⟨rfl, hp3, ho3⟩
      have H3 := Lib.hid (And.intro hp3 (And.intro ho3 (HB.out.after hlt ho3))); clear hp3 ho3 c0
      go_wp2_with (with_reducible refine wpList_stop ?_)
      unfold StopAt
      refine wpList_store_act rfl _ _ rfl w.heap.size A HX.out.2 rfl rfl _ H3.out.2.2 rfl ?_
      intro w4 hb4 ho4
      have H4 := Lib.hid (And.intro hb4 ho4); clear hb4 ho4
      go_wp2
      exact ret_act1 rfl rfl rfl H4.out.1 (by rw [List.size_toArray, actC_len HX.out.2]) ⟨rfl, H3.out.1.only H4.out.2 (by omega), only_fresh ((HB.out.only g).trans H3.out.2.1) H4.out.2 (Nat.le_refl _)⟩
  rw [if_neg j2]
  by_cases j3 : i = 3
  · rw [if_pos j3]
    subst j3
    by_cases k8 : 64 ≤ r ∧ r ≤ 126
    · rw [if_pos k8]
      obtain ⟨k8, k9⟩ := k8
      clear hr127
      go_enter Try.func12, Try.ntmps12
      go_wp2
      exact ret_act1 rfl rfl rfl (blk_at (by simp [World.setCell]) _) rfl ⟨rfl, ref_end (HQ.out 0) ((Only.refl g w).setCell _) _⟩
    · rw [if_neg k8]
      have k9 : r < 64 ∨ 159 < r := by omega
      clear k8
      rcases k9 with k9 | k9
      all_goals
        go_enter Try.func12, Try.ntmps12
        go_wp2
        exact ret_act1 rfl rfl rfl (blk_at rfl _) rfl ⟨rfl, ref_end H.out (Only.refl g w) _⟩
  rw [if_neg j3]
  have j4 : i = 4 := by omega
  subst j4
  rcases hr127 with k7 | k7
  all_goals
    go_enter Try.func12, Try.ntmps12
    go_wp2
    exact ret_act1 rfl rfl rfl (blk_at rfl _) rfl ⟨rfl, ref_end H.out (Only.refl g w) _⟩
end Go.Proofs.Ytmppbmbhnoaggab
