/- The document's rows: does a Wide cell stand at a place with its Tail? Is a row right? What was mended. · The document's rows: is a row right? · Bytes are put, one number behind the other: nums.put, nums.Put. · A row of numbers is put: nums.Put, nums.PutText. -/
import Derived.Test.YtcmllaeihnmkkaaDoorU2
import Derived.Test.YtcmllaeihnmkkaaDoorU3
import Derived.Test.YtcmllaeihnmkkaaDoorU12
import Derived.Maps.AppendAt
import Derived.Deep.AppendLies
import Derived.RegionTactic
import Derived.OwnWalk
import Derived.Laws.IdiomStrings
import Derived.Laws.BytesArg
import Derived.Lib.Builder
namespace Go.Proofs.YtcmllaeihnmkkaaDoor
open Go Go.RowKit
attribute [local go_sem 10000] eq_cel

theorem cel_all4 {w : World} {g o : Nat} {c : Cel} (h : CelAt w g o c) : w.cell? ⟨g, o, none⟩ = some (.int .i32 c.r) ∧ w.cell? ⟨g, o + 1, none⟩ = some (.int .u8 c.f) ∧ w.cell? ⟨g, o + 2, none⟩ = some (.int .u8 c.b) ∧ w.cell? ⟨g, o + 3, none⟩ = some (.int .u8 c.a) :=
  ⟨h 0 _ rfl, h 1 _ rfl, h 2 _ rfl, h 3 _ rfl⟩
theorem pairL_none {l : List Cel} {i : Nat} {x : Cel} (hx : l[i]? = some x) (h : ¬ i + 1 < l.length) : pairL l i = false := by
  unfold pairL
  rw [hx, List.getElem?_eq_none (by omega)]
  rfl
theorem pairL_some {l : List Cel} {i : Nat} {x y : Cel} (hx : l[i]? = some x) (hy : l[i + 1]? = some y) : pairL l i = (x.check && x.wide && celEq y x.tail) := by
  unfold pairL
  rw [hx, hy]
  rfl
set_option maxHeartbeats 4000000 in
set_option maxRecDepth 100000 in
theorem pair_neg (v : Value) (w : World) : Calls Tryd.prog 104 #[v, .int .i64 (-1)] w fun e w' => e = .returned (.bool false) ∧ Ext w w' := by
  go_enter Tryd.func104, Tryd.ntmps104
  go_wp2_with fail
  go_quiet (fail)
  go_wp2_with fail
  go_ret
  exact ⟨rfl, (Ext.refl w).drewN _⟩
set_option maxHeartbeats 8000000 in
set_option maxRecDepth 100000 in
theorem pair_at (l : List Cel) (v : Value) (i : Nat) (w : World) (hv : IsCells w v l) (hi : i < l.length) (hm : l.length ≤ 1000000) : Calls Tryd.prog 104 #[v, .int .i64 i] w fun e w' => e = .returned (.bool (pairL l i)) ∧ Ext w w' := by
  obtain ⟨A, c, rfl, hlc, hA⟩ := hv.form
  obtain ⟨x, hx⟩ : ∃ x, l[i]? = some x := ⟨l[i]'hi, List.getElem?_eq_getElem _⟩
  obtain ⟨hxo, g, off, rfl, hcx⟩ := hv.at hx
  obtain ⟨P, hP⟩ : ∃ P, P = pairL l i := ⟨_, rfl⟩
  rw [← hP]
  generalize hL : l.length = L at hlc hi hm ⊢
  obtain ⟨k0, k1, k2, k3⟩ := cel_all4 hcx
  have HC := fun W => RefCheck_of x W hxo
  have HW := fun W => RefWide_of x W hxo
  have HT : ∀ W, Calls Tryd.prog 62 #[.agg #[.int .i32 x.r, .int .u8 x.f, .int .u8 x.b, .int .u8 x.a]] W fun e w' => e = .returned (.agg #[.int .i32 0, .int .u8 x.f, .int .u8 x.b, .int .u8 (x.a % 64 + 128)]) ∧ Ext W w' := fun W => RefTail_of x W hxo
  have z0 : ∀ n : In (Ext w), n.val.cell? ⟨g, off + i * 4, none⟩ = some (.int .i32 x.r) := fun n => n.prop.cell k0
  have z1 : ∀ n : In (Ext w), n.val.cell? ⟨g, off + i * 4 + 1, none⟩ = some (.int .u8 x.f) := fun n => n.prop.cell k1
  have z2 : ∀ n : In (Ext w), n.val.cell? ⟨g, off + i * 4 + 2, none⟩ = some (.int .u8 x.b) := fun n => n.prop.cell k2
  have z3 : ∀ n : In (Ext w), n.val.cell? ⟨g, off + i * 4 + 3, none⟩ = some (.int .u8 x.a) := fun n => n.prop.cell k3
  have hne : Nonempty (In (Ext w)) := in_ext w
  clear k0 k1 k2 k3
  have H := Lib.hid (And.intro hv (And.intro hxo (And.intro hx (And.intro hP (And.intro hL (And.intro HC (And.intro HW HT))))))); clear hv hxo hx hP hL HC HW HT hcx
  by_cases h1 : i + 1 < L
  · have hd : decide ((i : Int) + 1 < (L : Int)) = true := by simp; omega
    obtain ⟨y, hy⟩ : ∃ y, l[i + 1]? = some y := ⟨l[i + 1]'(by rw [H.out.2.2.2.2.1]; exact h1), List.getElem?_eq_getElem _⟩
    have hps := pairL_some H.out.2.2.1 hy
    rw [← H.out.2.2.2.1] at hps
    obtain ⟨m0, m1, m2, m3⟩ := cel_all4 (H.out.1.at' hy).2
    have y0 : ∀ n : In (Ext w), n.val.cell? ⟨g, off + (i + 1) * 4, none⟩ = some (.int .i32 y.r) := fun n => n.prop.cell m0
    have y1 : ∀ n : In (Ext w), n.val.cell? ⟨g, off + (i + 1) * 4 + 1, none⟩ = some (.int .u8 y.f) := fun n => n.prop.cell m1
    have y2 : ∀ n : In (Ext w), n.val.cell? ⟨g, off + (i + 1) * 4 + 2, none⟩ = some (.int .u8 y.b) := fun n => n.prop.cell m2
    have y3 : ∀ n : In (Ext w), n.val.cell? ⟨g, off + (i + 1) * 4 + 3, none⟩ = some (.int .u8 y.a) := fun n => n.prop.cell m3
    have HF : Hid ((∀ W, Calls Tryd.prog 60 #[x.val] W fun e w' => e = .returned (.bool x.check) ∧ Ext W w') ∧ (∀ W, Calls Tryd.prog 49 #[x.val] W fun e w' => e = .returned (.bool x.wide) ∧ Ext W w')) := Lib.hid ⟨H.out.2.2.2.2.2.1, H.out.2.2.2.2.2.2.1⟩
    clear m0 m1 m2 m3 hy
    generalize x.check = C at hps HF
    generalize x.wide = U at hps HF
    have HPS := Lib.hid hps; clear hps
    go_enter Tryd.func104, Tryd.ntmps104
    go_wp2_with fail
    cases C <;> cases U
    all_goals
      refine wp_region_class (Ext w) (by kernel_rfl) (by kernel_rfl) (Ext.refl w).drew ?_
      repeat (go_big_quiet_step (first
        | (go_at_call 60; exact quiet_ext (fun W hW => HF.out.1 W) _)
        | (go_at_call 49; exact quiet_ext (fun W hW => HF.out.2 W) _)
        | (go_at_call 62; exact quiet_ext (fun W hW => H.out.2.2.2.2.2.2.2 W) _)))
      refine wpQuiet_nil ?_
      rintro _ ⟨n, rfl⟩
      have HN := Lib.hid n.prop
      generalize n.val = w9 at HN ⊢
      clear z0 z1 z2 z3 y0 y1 y2 y3 hne
      go_wp2_with fail
      go_ret
      exact ⟨by rw [HPS.out]; rfl, HN.out⟩
  · have hd : decide ((i : Int) + 1 < (L : Int)) = false := by simp; omega
    have hps := pairL_none H.out.2.2.1 (by rw [H.out.2.2.2.2.1]; exact h1)
    rw [← H.out.2.2.2.1] at hps
    have HPS := Lib.hid hps; clear hps
    go_enter Tryd.func104, Tryd.ntmps104
    go_wp2_with fail
    refine wp_region_class (Ext w) (by kernel_rfl) (by kernel_rfl) (Ext.refl w).drew ?_
    repeat (go_big_quiet_step (first
      | (go_at_call 60; fail)))
    refine wpQuiet_nil ?_
    rintro _ ⟨n, rfl⟩
    have HN := Lib.hid n.prop
    generalize n.val = w9 at HN ⊢
    clear z0 z1 z2 z3 hne
    go_wp2_with fail
    go_ret
    exact ⟨by rw [HPS.out]; rfl, HN.out⟩
end Go.Proofs.YtcmllaeihnmkkaaDoor
namespace Go.Proofs.YtcmllaeihnmkkaaDoor
open Go Go.RowKit

set_option maxHeartbeats 8000000 in
set_option maxRecDepth 100000 in
theorem RefRight_of (l : List Cel) (v : Value) (w : World) (hv : IsCells w v l) (hm : l.length ≤ 1000000) : Calls Tryd.prog 48 #[v] w fun e w' => e = .returned (.bool (rightL l)) ∧ Ext w w' := by
  obtain ⟨A, c, rfl, hlc, hA⟩ := hv.form
  generalize hL : l.length = L at hlc hv hm ⊢
  have H := Lib.hid (And.intro hv hL); clear hv hL
  go_enter Tryd.func48, Tryd.ntmps48
  go_wp2
  go_loopg [3] L (fun k u wr => ∃ i : Nat, u = .int .i64 i ∧ Hid (i + k = L ∧ (∀ j c, j < i → l[j]? = some c → okP none l j c = true) ∧ Ext w wr))
  case atStart => exact ⟨0, rfl, Nat.zero_add _, fun j c hj => absurd hj (Nat.not_lt_zero j), Ext.refl w⟩
  case round =>
    obtain ⟨i, rfl, hin⟩ := hrel
    by_cases hi : i < L
    · obtain ⟨x, hx⟩ : ∃ x, l[i]? = some x := ⟨l[i]'(by rw [H.out.2]; exact hi), List.getElem?_eq_getElem _⟩
      obtain ⟨hxo, g, off, rfl, hcx⟩ := H.out.1.at hx
      obtain ⟨k0, k1, k2, k3⟩ := cel_all4 (hcx.ext hin.out.2.2)
      obtain ⟨K, hK⟩ : ∃ K, K = okP none l i x := ⟨_, rfl⟩
      have hB : K = (x.check && (!x.wide || pairL l i) && (!x.tl || aheadP none l i)) := hK
      have HQ : Hid (x.ok ∧ CelAt w g (off + i * 4) x ∧ l[i]? = some x ∧ okP none l i x = K) := Lib.hid ⟨hxo, hcx, hx, hK.symm⟩
      have HB := Lib.hid hB; clear hB hK hxo hcx hx
      have HX := Lib.hid hin.out.2.2
      go_wp2_with fail
      refine (RefCheck_of x _ HQ.out.1).mono ?_
      rintro e w2 ⟨rfl, hx⟩
      clear k0 k1 k2 k3
      obtain ⟨k0, k1, k2, k3⟩ := cel_all4 ((HQ.out.2.1.ext HX.out).ext hx)
      have hx9 := HX.out.trans hx
      clear HX hx
      have HX := Lib.hid hx9; clear hx9
      generalize hb : x.check = BC at HB ⊢
      clear hb
      cases BC with
      | false =>
        have hf : rightL l = false := by
          cases hr : rightL l
          · rfl
          · have := (right_iff _ l none (Nat.le_refl _) rfl).2 hr i x HQ.out.2.2.1
            rw [HQ.out.2.2.2] at this
            simp [HB.out] at this
        have HF := Lib.hid hf; clear hf
        go_wp2_with fail
        go_ret
        exact ⟨by rw [HF.out]; rfl, HX.out⟩
      | true =>
        go_wp2_with fail
        refine (RefWide_of x _ HQ.out.1).mono ?_
        rintro e w2 ⟨rfl, hx⟩
        clear k0 k1 k2 k3
        obtain ⟨k0, k1, k2, k3⟩ := cel_all4 ((HQ.out.2.1.ext HX.out).ext hx)
        have hx9 := HX.out.trans hx
        clear HX hx
        have HX := Lib.hid hx9; clear hx9
        generalize hb : x.wide = BU at HB ⊢
        clear hb
        cases BU with
        | false =>
          go_wp2_with fail
          refine (RefTl_of x _ HQ.out.1).mono ?_
          rintro e w2 ⟨rfl, hx⟩
          clear k0 k1 k2 k3
          obtain ⟨k0, k1, k2, k3⟩ := cel_all4 ((HQ.out.2.1.ext HX.out).ext hx)
          have hx9 := HX.out.trans hx
          clear HX hx
          have HX := Lib.hid hx9; clear hx9
          generalize hb : x.tl = BT at HB ⊢
          clear hb
          cases BT with
          | false =>
            have hok : okP none l i x = true := by rw [HQ.out.2.2.2]; simp [HB.out]
            have HOK := Lib.hid hok; clear hok
            have hgk := hin.out.1
            go_wp2_with fail
            go_roundg (gk - 1)
            case measure => omega
            case rel =>
              refine ⟨i + 1, by go_num, by show i + 1 + (gk - 1) = L; omega, fun j c hj hc => ?_, HX.out⟩
              rcases Nat.lt_or_ge j i with h | h
              · exact hin.out.2.1 j c h hc
              · obtain rfl : j = i := by omega
                rw [HQ.out.2.2.1] at hc
                injection hc with hc
                rw [← hc]; exact HOK.out
          | true =>
            have hq : ∀ W, Ext w W → Calls Tryd.prog 104 #[.slice (some ⟨g, off, none⟩) L c, .int .i64 ((i : Int) - 1)] W fun e w' => e = .returned (.bool (aheadP none l i)) ∧ Ext W w' := fun W hW => by
              cases i with
              | zero => exact pair_neg _ W
              | succ i =>
                have := pair_at l _ i W (H.out.1.ext hW) (by rw [H.out.2]; omega) (by rw [H.out.2]; omega)
                rw [show ((i + 1 : Nat) : Int) - 1 = (i : Int) by omega]
                exact this
            have HQQ := Lib.hid hq; clear hq
            generalize hb : aheadP none l i = BA at HB HQQ
            clear hb
            go_wp2_with fail
            refine (HQQ.out _ HX.out).mono ?_
            rintro e w2 ⟨rfl, hx⟩
            have hx9 := HX.out.trans hx
            clear HX hx
            have HX := Lib.hid hx9; clear hx9
            clear k0 k1 k2 k3
            cases BA with
            | false =>
              have hf : rightL l = false := by
                cases hr : rightL l
                · rfl
                · have := (right_iff _ l none (Nat.le_refl _) rfl).2 hr i x HQ.out.2.2.1
                  rw [HQ.out.2.2.2] at this
                  simp [HB.out] at this
              have HF := Lib.hid hf; clear hf
              go_wp2_with fail
              go_ret
              exact ⟨by rw [HF.out]; rfl, HX.out⟩
            | true =>
              have hok : okP none l i x = true := by rw [HQ.out.2.2.2]; simp [HB.out]
              have HOK := Lib.hid hok; clear hok
              have hgk := hin.out.1
              go_wp2_with fail
              go_roundg (gk - 1)
              case measure => omega
              case rel =>
                refine ⟨i + 1, by go_num, by show i + 1 + (gk - 1) = L; omega, fun j c hj hc => ?_, HX.out⟩
                rcases Nat.lt_or_ge j i with h | h
                · exact hin.out.2.1 j c h hc
                · obtain rfl : j = i := by omega
                  rw [HQ.out.2.2.1] at hc
                  injection hc with hc
                  rw [← hc]; exact HOK.out
        | true =>
          have hp : ∀ W, Ext w W → Calls Tryd.prog 104 #[.slice (some ⟨g, off, none⟩) L c, .int .i64 i] W fun e w' => e = .returned (.bool (pairL l i)) ∧ Ext W w' := fun W hW => pair_at l _ i W (H.out.1.ext hW) (by rw [H.out.2]; exact hi) (by rw [H.out.2]; exact hm)
          have HPP := Lib.hid hp; clear hp
          generalize hb : pairL l i = BP at HB HPP
          clear hb
          go_wp2_with fail
          refine (HPP.out _ HX.out).mono ?_
          rintro e w2 ⟨rfl, hx⟩
          clear k0 k1 k2 k3
          obtain ⟨k0, k1, k2, k3⟩ := cel_all4 ((HQ.out.2.1.ext HX.out).ext hx)
          have hx9 := HX.out.trans hx
          clear HX hx
          have HX := Lib.hid hx9; clear hx9
          cases BP with
          | false =>
            have hf : rightL l = false := by
              cases hr : rightL l
              · rfl
              · have := (right_iff _ l none (Nat.le_refl _) rfl).2 hr i x HQ.out.2.2.1
                rw [HQ.out.2.2.2] at this
                simp [HB.out] at this
            have HF := Lib.hid hf; clear hf
            go_wp2_with fail
            go_ret
            exact ⟨by rw [HF.out]; rfl, HX.out⟩
          | true =>
            go_wp2_with fail
            refine (RefTl_of x _ HQ.out.1).mono ?_
            rintro e w2 ⟨rfl, hx⟩
            clear k0 k1 k2 k3
            obtain ⟨k0, k1, k2, k3⟩ := cel_all4 ((HQ.out.2.1.ext HX.out).ext hx)
            have hx9 := HX.out.trans hx
            clear HX hx
            have HX := Lib.hid hx9; clear hx9
            generalize hb : x.tl = BT at HB ⊢
            clear hb
            cases BT with
            | false =>
              have hok : okP none l i x = true := by rw [HQ.out.2.2.2]; simp [HB.out]
              have HOK := Lib.hid hok; clear hok
              have hgk := hin.out.1
              go_wp2_with fail
              go_roundg (gk - 1)
              case measure => omega
              case rel =>
                refine ⟨i + 1, by go_num, by show i + 1 + (gk - 1) = L; omega, fun j c hj hc => ?_, HX.out⟩
                rcases Nat.lt_or_ge j i with h | h
                · exact hin.out.2.1 j c h hc
                · obtain rfl : j = i := by omega
                  rw [HQ.out.2.2.1] at hc
                  injection hc with hc
                  rw [← hc]; exact HOK.out
            | true =>
              have hq : ∀ W, Ext w W → Calls Tryd.prog 104 #[.slice (some ⟨g, off, none⟩) L c, .int .i64 ((i : Int) - 1)] W fun e w' => e = .returned (.bool (aheadP none l i)) ∧ Ext W w' := fun W hW => by
                cases i with
                | zero => exact pair_neg _ W
                | succ i =>
                  have := pair_at l _ i W (H.out.1.ext hW) (by rw [H.out.2]; omega) (by rw [H.out.2]; omega)
                  rw [show ((i + 1 : Nat) : Int) - 1 = (i : Int) by omega]
                  exact this
              have HQQ := Lib.hid hq; clear hq
              generalize hb : aheadP none l i = BA at HB HQQ
              clear hb
              go_wp2_with fail
              refine (HQQ.out _ HX.out).mono ?_
              rintro e w2 ⟨rfl, hx⟩
              have hx9 := HX.out.trans hx
              clear HX hx
              have HX := Lib.hid hx9; clear hx9
              clear k0 k1 k2 k3
              cases BA with
              | false =>
                have hf : rightL l = false := by
                  cases hr : rightL l
                  · rfl
                  · have := (right_iff _ l none (Nat.le_refl _) rfl).2 hr i x HQ.out.2.2.1
                    rw [HQ.out.2.2.2] at this
                    simp [HB.out] at this
                have HF := Lib.hid hf; clear hf
                go_wp2_with fail
                go_ret
                exact ⟨by rw [HF.out]; rfl, HX.out⟩
              | true =>
                have hok : okP none l i x = true := by rw [HQ.out.2.2.2]; simp [HB.out]
                have HOK := Lib.hid hok; clear hok
                have hgk := hin.out.1
                go_wp2_with fail
                go_roundg (gk - 1)
                case measure => omega
                case rel =>
                  refine ⟨i + 1, by go_num, by show i + 1 + (gk - 1) = L; omega, fun j c hj hc => ?_, HX.out⟩
                  rcases Nat.lt_or_ge j i with h | h
                  · exact hin.out.2.1 j c h hc
                  · obtain rfl : j = i := by omega
                    rw [HQ.out.2.2.1] at hc
                    injection hc with hc
                    rw [← hc]; exact HOK.out
    · have hf : rightL l = true := (right_iff _ l none (Nat.le_refl _) rfl).1 fun j c hc => hin.out.2.1 j c (by have := (List.getElem?_eq_some_iff.1 hc).1; rw [H.out.2] at this; omega) hc
      have HF := Lib.hid hf; clear hf
      go_wp2_with fail
      go_ret
      exact ⟨by rw [HF.out]; rfl, hin.out.2.2⟩
end Go.Proofs.YtcmllaeihnmkkaaDoor
namespace Go.Proofs.YtcmllaeihnmkkaaDoor
open Go Go.RowKit

def cellsB (l : List UInt8) : List Value := l.map fun b => .int .u8 b.toNat
theorem cellsB_append (a b : List UInt8) : cellsB (a ++ b) = cellsB a ++ cellsB b := List.map_append
/-- A row of bytes of the call's own. -/
def OwnB (w : World) (base : Nat) (v : Value) (l : List UInt8) : Prop := w.ownsRow base 5 1 v l.length (cellsB l)
theorem cellsB_one (n : Nat) (h : n < 256) : cellsB [UInt8.ofNat n] = [.int .u8 n] := by
  simp only [cellsB, List.map_cons, List.map_nil, toNat_ofNat8 h]
theorem infoByteB : (Tryd.prog.info? 5).map (fun i => (i.zero, i.size, i.bytes)) = some (some (.int .u8 0), 1, 1) := by kernel_rfl
theorem OwnB.more {w : World} {base : Nat} {v : Value} {l m : List UInt8} (h : w.ownsRow base 5 1 v (l.length + m.length) (cellsB l ++ cellsB m)) : OwnB w base v (l ++ m) := by
  unfold OwnB
  rw [List.length_append, cellsB_append]; exact h
theorem below_own {base : Nat} {w0 w w' : World} {e : TypeId} {n : Nat} {v : Value} {xs : List Value} (h : Below base w0 w) (hw : base ≤ w.heap.size) (ho : w.ownsRow base e 1 v n xs) (hg : w.grownBy w' v.ownBlock) : Below base w0 w' :=
  h.grown hg hw fun k hk => (ho.lt k hk).1
set_option maxHeartbeats 2000000 in
set_option maxRecDepth 100000 in
theorem put_any (u : Nat) (l : List UInt8) (base : Nat) (v : Value) (w : World) (hu : u < 18446744073709551616) (hl : l.length ≤ 1000000) (hb : base ≤ w.heap.size) (ho : OwnB w base v l) :
    Calls Tryd.prog 120 #[v, .int .u64 u] w fun e w' => ∃ v', e = .returned v' ∧ OwnB w' base v' (l ++ encN u) ∧ Below base w w' := by
  obtain ⟨i0, hi0, hz0, hz1, hz2⟩ := info_parts infoByteB
  have hlen := encN_len10 hu
  have H := Lib.hid (And.intro hu (And.intro hlen ho)); clear hu ho hlen
  go_enter Tryd.func120, Tryd.ntmps120
  go_wp2
  go_loopg [0, 1] u (fun k b f wr => ∃ (x : Value) (m : List UInt8), b = x ∧ f = .int .u64 k ∧ Hid (k < 18446744073709551616 ∧ m ++ encN k = l ++ encN u ∧ OwnB wr base x m ∧ Below base w wr))
  case atStart => exact ⟨v, l, rfl, rfl, H.out.1, rfl, H.out.2.2, Below.refl _ _⟩
  case round =>
    obtain ⟨x, m, rfl, rfl, hinv⟩ := hrel
    obtain ⟨K, hK⟩ : ∃ K, K = gk := ⟨_, rfl⟩
    subst hK
    have hk := hinv.out.1
    have hlk := encN_pos K
    have hml : m.length + (encN K).length = l.length + (encN u).length := by rw [← List.length_append, hinv.out.2.1, List.length_append]
    have hul := H.out.2.1
    have hmx : m.length + 1 ≤ 1000010 := by omega
    have hsz := hinv.out.2.2.2.size
    clear hml hul hlk
    by_cases h : K < 128
    · have ho : ((wr.alloc (.cells #[.int .u8 K] 5)).ownsRow base 5 1 u0 m.length (cellsB m)) := World.ownsRow.alloc hinv.out.2.2.1 _
      have HO := Lib.hid ho; clear ho
      go_wp2_with (at_builtin; refine wpList_append_own_at _ rfl _ _ 29 rfl base 5 i0 _ 1 1 Tryd.underlying29 hi0 hz0 hz1 hz2 rfl (by omega) u0 m.length (cellsB m) rfl HO.out ⟨wr.heap.size, 0, none⟩ 1 1 [.int .u8 K] rfl rfl (cell_one_new _ _ _) (fun y hy => by rw [List.mem_singleton.1 hy]; rfl) (by unfold maxLen; omega) (by omega) (by simp; omega) ?_)
      intro v' w' hown hg _ _
      go_wp2
      go_ret
      refine ⟨_, rfl, ?_, ?_⟩
      · rw [← hinv.out.2.1, encN_small h]
        refine OwnB.more ?_
        rw [cellsB_one K (by omega)]
        exact hown
      · exact below_own (hinv.out.2.2.2.alloc (by omega) _) (by simp; omega) HO.out hg
    · have hK : bits .or .u8 ((K : Int) % 256) 128 = ((K % 128 + 128 : Nat) : Int) := by
        have := u8_or_nat (K % 256) 128 (Nat.mod_lt _ (by decide)) (by decide)
        rw [or_more _ (Nat.mod_lt _ (by decide))] at this
        rw [show ((K : Int) % 256) = ((K % 256 : Nat) : Int) from by omega, show (128 : Int) = ((128 : Nat) : Int) from rfl, this]
        omega
      have ho : ((wr.alloc (.cells #[.int .u8 ((K % 128 + 128 : Nat) : Int)] 5)).ownsRow base 5 1 u0 m.length (cellsB m)) := World.ownsRow.alloc hinv.out.2.2.1 _
      have HO := Lib.hid ho; clear ho
      generalize hN : K % 128 + 128 = N at hK HO
      have HN := Lib.hid hN; clear hN
      go_wp2_with (at_builtin; refine wpList_append_own_at _ rfl _ _ 29 rfl base 5 i0 _ 1 1 Tryd.underlying29 hi0 hz0 hz1 hz2 rfl (by omega) u0 m.length (cellsB m) rfl HO.out ⟨wr.heap.size, 0, none⟩ 1 1 [.int .u8 N] rfl rfl (cell_one_new _ _ _) (fun y hy => by rw [List.mem_singleton.1 hy]; rfl) (by unfold maxLen; omega) (by omega) (by simp; omega) ?_)
      intro v' w' hown hg _ _
      go_wp2
      go_roundg (K / 128)
      case measure => omega
      case rel =>
        refine ⟨v', m ++ [UInt8.ofNat (K % 128 + 128)], rfl, rfl, by omega, ?_, ?_, ?_⟩
        · rw [← hinv.out.2.1, encN_big h, List.append_assoc]; rfl
        · refine OwnB.more ?_
          rw [cellsB_one _ (by omega), HN.out]
          exact hown
        · exact below_own (hinv.out.2.2.2.alloc (by omega) _) (by simp; omega) HO.out hg
end Go.Proofs.YtcmllaeihnmkkaaDoor
namespace Go.Proofs.YtcmllaeihnmkkaaDoor
open Go Go.RowKit

/-- The bytes of numbers, one behind the other. -/
def putN (zs : List Int) : List UInt8 := (zs.map fun n => encN (foldN n)).flatten
theorem putN_append (a b : List Int) : putN (a ++ b) = putN a ++ putN b := by
  unfold putN; rw [List.map_append, List.flatten_append]
theorem putN_one (n : Int) : putN [n] = encN (foldN n) := by simp [putN]
theorem putN_take (zs : List Int) (i : Nat) (n : Int) (h : zs[i]? = some n) : putN (zs.take (i + 1)) = putN (zs.take i) ++ encN (foldN n) := by
  rw [List.take_add_one, h, putN_append]; simp [putN]
def isI64 (n : Int) : Prop := -9223372036854775808 ≤ n ∧ n ≤ 9223372036854775807
theorem putN_len : ∀ (zs : List Int), (∀ n, n ∈ zs → isI64 n) → (putN zs).length ≤ 10 * zs.length
  | [], _ => by simp [putN]
  | n :: zs, h => by
    have h1 := putN_len zs fun m hm => h m (List.mem_cons_of_mem _ hm)
    have h2 := h n (List.mem_cons_self ..)
    have h3 := encN_len10 (foldN_lt h2.1 h2.2)
    rw [show putN (n :: zs) = encN (foldN n) ++ putN zs from by simp [putN], List.length_append, List.length_cons]
    omega
/-- A slice that reads as a row of numbers. -/
def IsInts (w : World) (v : Value) (zs : List Int) : Prop :=
  ∃ A c, v = .slice A zs.length c ∧ (zs.length ≤ c ∧ (A = none → c = 0)) ∧ ∀ i n, zs[i]? = some n → isI64 n ∧ ∃ g off, A = some ⟨g, off, none⟩ ∧ w.cell? ⟨g, off + i, none⟩ = some (.int .i64 n)
theorem IsInts.ext {w w' : World} {v : Value} {zs : List Int} (h : IsInts w v zs) (hx : Ext w w') : IsInts w' v zs := by
  obtain ⟨A, c, e, hc, h⟩ := h
  refine ⟨A, c, e, hc, fun i n hi => ?_⟩
  obtain ⟨h1, g, off, h2, h3⟩ := h i n hi
  exact ⟨h1, g, off, h2, hx.cell h3⟩
theorem IsInts.all {w : World} {v : Value} {zs : List Int} (h : IsInts w v zs) : ∀ n, n ∈ zs → isI64 n := by
  obtain ⟨A, c, e, hc, h⟩ := h
  intro n hn
  obtain ⟨i, hi⟩ := List.getElem?_of_mem hn
  exact (h i n hi).1
theorem conv_own (w : World) (base g cap : Nat) (l : List UInt8) (h : OwnB w base (.slice (some ⟨g, 0, none⟩) l.length cap) l) : (convert 29 9 (.slice (some ⟨g, 0, none⟩) l.length cap)).run Tryd.prog w = .ok (.string ⟨l.toArray⟩) w :=
  run_convert_bytes_back w _ _ 5 ⟨g, 0, none⟩ cap l Tryd.underlying29 Tryd.underlying5 Tryd.underlying9 fun j hj => by
    refine World.ownsRow.cells h rfl j _ ?_
    rw [cellsB, List.getElem?_map, List.getElem?_eq_getElem hj]
    rfl
set_option maxHeartbeats 2000000 in
set_option maxRecDepth 100000 in
theorem Put_ints (zs : List Int) (v : Value) (w : World) (hv : IsInts w v zs) (hn : zs.length ≤ 1000) :
    Calls Tryd.prog 70 #[v] w fun e w' => e = .returned (.string ⟨(putN zs).toArray⟩) ∧ Ext w w' := by
  obtain ⟨i0, hi0, hz0, hz1, hz2⟩ := info_parts infoByteB
  have hall := hv.all
  obtain ⟨A, c, rfl, hc, hv⟩ := hv
  have H := Lib.hid (And.intro hv hall); clear hv hall
  go_enter Tryd.func70, Tryd.ntmps70
  go_wp2_with (refine wpList_make_own w rfl _ _ 29 rfl w.heap.size 5 i0 _ 1 Tryd.underlying29 hi0 hz0 hz1 .i64 .i64 zs.length zs.length rfl rfl rfl (by rw [hz2]; omega) (by unfold maxLen; omega) (Nat.le_refl _) ?_)
  intro w1 hown hg
  have HB := Lib.hid (And.intro hown ((Below.refl w.heap.size w).grown hg (Nat.le_refl _) (fun k hk => by cases hk))); clear hown hg
  go_wp2
  go_loopg [3, 11] zs.length (fun k b j wr => ∃ (i : Nat) (g cap : Nat), Hid (i + k = zs.length) ∧ j = .int .i64 i ∧ b = .slice (some ⟨g, 0, none⟩) (putN (zs.take i)).length cap ∧ Hid (OwnB wr w.heap.size (.slice (some ⟨g, 0, none⟩) (putN (zs.take i)).length cap) (putN (zs.take i)) ∧ Ext w wr))
  case atStart => exact ⟨0, _, _, Nat.zero_add _, rfl, rfl, HB.out.1, HB.out.2⟩
  case round =>
    obtain ⟨i, g, cap, hi, rfl, rfl, hinv⟩ := hrel
    by_cases hlt : i < zs.length
    · obtain ⟨n, hin⟩ : ∃ n, zs[i]? = some n := ⟨zs[i], List.getElem?_eq_getElem hlt⟩
      obtain ⟨hr, gg, off, rfl, hcell⟩ := H.out.1 i n hin
      have hcell' := hinv.out.2.cell hcell
      have hlen := putN_len (zs.take i) (fun m hm => H.out.2 m (List.mem_of_mem_take hm))
      rw [List.length_take] at hlen
      have hr1 := hr.1
      have hr2 := hr.2
      have hfl := foldN_lt hr.1 hr.2
      have HN := Lib.hid (And.intro hin (And.intro hr (And.intro hfl hlen))); clear hin hr hcell hfl hlen
      go_wp2_with fail
      refine (fold_any n wr HN.out.2.1.1 HN.out.2.1.2).mono ?_
      rintro e w2 ⟨rfl, rfl⟩
      go_wp2_with fail
      refine (put_any (foldN n) (putN (zs.take i)) w.heap.size _ w2 HN.out.2.2.1 (by have := HN.out.2.2.2; omega) hinv.out.2.size hinv.out.1).mono ?_
      rintro e w3 ⟨v', rfl, ho, hb⟩
      rw [← putN_take zs i n HN.out.1] at ho
      have hpos : 0 < (putN (zs.take (i + 1))).length := by
        rw [putN_take zs i n HN.out.1, List.length_append]
        have := encN_pos (foldN n)
        omega
      obtain ⟨g', cap', rfl, _, _⟩ := World.ownsRow.form ho hpos
      have HO := Lib.hid (And.intro ho (Below.trans hinv.out.2 hb)); clear ho hb hpos
      go_wp2
      go_roundg (gk - 1)
      case measure => have := hi.out; omega
      case rel =>
        refine ⟨i + 1, g', cap', ?_, by go_num, rfl, HO.out.1, HO.out.2⟩
        show i + 1 + (gk - 1) = zs.length
        have := hi.out; omega
    · have hil : i = zs.length := by have := hi.out; omega
      have HI := Lib.hid hil; clear hil
      have hcv := conv_own wr w.heap.size g cap _ hinv.out.1
      have HV := Lib.hid hcv; clear hcv
      go_wp2
      rw [HV.out]
      go_wp2
      go_ret
      exact ⟨by rw [HI.out, List.take_length]; rfl, hinv.out.2⟩
theorem ints_new (w : World) (l : List Int) (T : TypeId) (h : ∀ n, n ∈ l → isI64 n) : IsInts (w.alloc (.cells (l.map (Value.int .i64)).toArray T)) (.slice (some ⟨w.heap.size, 0, none⟩) l.length l.length) l := by
  refine ⟨_, _, rfl, ⟨Nat.le_refl _, fun h => by cases h⟩, fun i n hi => ⟨h n (List.mem_of_getElem? hi), _, _, rfl, ?_⟩⟩
  rw [Lib.cell_of_heap (Go.heap_alloc_new _ _), Nat.zero_add]
  rw [List.getElem?_toArray, List.getElem?_map, hi]; rfl
end Go.Proofs.YtcmllaeihnmkkaaDoor
