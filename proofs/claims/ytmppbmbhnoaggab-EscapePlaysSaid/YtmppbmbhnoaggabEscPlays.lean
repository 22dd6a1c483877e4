/- The law EscapePlays, walked. -/
import Derived.Test.YtmppbmbhnoaggabEscRS
import Derived.Test.YtmppbmbhnoaggabEscI
import Derived.Test.YtmppbmbhnoaggabMask
import Derived.Test.YtmppbmbhnoaggabClass
namespace Go.Proofs.Ytmppbmbhnoaggab
open Go Go.RowKit
attribute [local go_sem 10000] eq_act

abbrev zero15 : Array Value := #[.int .i64 0, .int .i64 0, .int .i32 0, .int .u8 0, .int .u8 0, .int .i64 0, .int .i64 0, .int .i64 0, .int .i64 0, .int .i64 0, .int .i64 0, .int .i64 0, .int .i64 0, .int .i64 0, .bool false]
theorem ref_new (W : World) : RefPar (W.alloc (.cells zero15 33)) W.heap.size ⟨0, .none, false⟩ := Go.heap_alloc_new _ _
theorem ref_ok : RPar.ok ⟨0, .none, false⟩ := ⟨by decide, by decide, by decide, rfl, z8_in⟩
theorem rel_new : Rel .new ⟨0, .none, false⟩ := rel_inn 0 _ rfl (by decide) (by decide)
/-- What holds behind some characters. -/
structure PlaySt (W : World) (gb : Nat) (wr : World) : Prop where
  st : ∃ s t, ParAt wr W.heap.size s ∧ s.ok ∧ RefPar wr gb t ∧ t.ok ∧ Rel s t
  ne : W.heap.size < gb
  ext : Ext W wr
theorem low6 (m : Int) : ∃ K : Nat, bits .and .i64 m 63 = (K : Int) := by
  have h := i64_mask m 6 (by decide) 63 (by decide)
  refine ⟨(m % 64).toNat, ?_⟩
  rw [h]
  have : ((2 ^ 6 : Nat) : Int) = 64 := by decide
  rw [this]; omega
set_option maxHeartbeats 8000000 in
set_option maxRecDepth 100000 in
theorem escapePlays_true (xs : List Int) (v : Value) (a : Int) (w : World) (hv : IsRunes w v xs) (hm : xs.length ≤ maxLen) :
    Calls Try.prog 3 #[v, .int .i64 a] w fun e w' => e = .returned (.bool true) ∧ Ext w w' := by
  have H := Lib.hid (And.intro hv hm); clear hv hm
  obtain ⟨M, hM⟩ := low6 a
  go_enter Try.func3, Try.ntmps3
  go_wp2_with fail
  refine (awake_true _).mono ?_
  rintro e W ⟨rfl, hx1⟩
  have H1 := Lib.hid hx1; clear hx1
  have hps : PlaySt W (W.heap.size + 1) ((W.alloc (.cells zero12 28)).alloc (.cells zero15 33)) := by
    have h2 := ref_new (W.alloc (.cells zero12 28))
    rw [World.size_alloc] at h2
    exact ⟨⟨_, _, (par_new W).ext ((Ext.refl _).alloc _), ok_innE 0 (by decide) (by decide), h2, ref_ok, rel_new⟩, Nat.lt_succ_self _, ((Ext.refl W).alloc _).alloc _⟩
  have HS := Lib.hid hps; clear hps
  go_wp2_with fail
  refine (few_of xs v _ (H.out.1.ext (H1.out.trans HS.out.ext)) H.out.2).mono ?_
  rintro e W2 ⟨⟨v', rfl, _, h4⟩, rfl⟩
  have h4 := h4 W (H.out.1.ext H1.out)
  have hlen := fewL_len xs 60
  generalize fewL xs 60 = x at h4 hlen
  obtain ⟨A, c, rfl, hc, _⟩ := h4.form
  obtain ⟨L, hL⟩ : ∃ L, x.length = L := ⟨_, rfl⟩
  rw [hL] at h4 hc hlen ⊢
  have HV := Lib.hid (And.intro h4 hL); clear h4 hL
  go_wp2
  go_loopg [7, 9] L (fun k b j wr => ∃ (i gb : Nat), Hid (i + k = L) ∧ b = .pointer (some ⟨gb, 0, none⟩) ∧ j = .int .i64 i ∧ Hid (PlaySt W gb wr))
  case atStart => exact ⟨0, _, Nat.zero_add _, rfl, rfl, HS.out⟩
  case round =>
    clear HS
    obtain ⟨i, gb, hi, rfl, rfl, hin⟩ := hrel
    by_cases hlt : i < L
    · obtain ⟨y, hy⟩ : ∃ y, x[i]? = some y := ⟨x[i]'(by rw [HV.out.2]; exact hlt), List.getElem?_eq_getElem _⟩
      obtain ⟨_, ga, offa, rfl, ca⟩ := HV.out.1.at hy
      have da := hin.out.ext.cell ca
      have hgW : ga < W.heap.size := lt_of_cell ca
      obtain ⟨s, t, hps, hoks, hpt, hokt, hrl⟩ := hin.out.st
      have hst := Step_of wr W.heap.size s y hps hoks
      have hrt := fun V (k : RefPar V gb t) => RStep_of V gb t y k hokt
      have hact := (act_stepE hoks y).1
      have hok' := ok_stepE hoks y
      have hokt' := okR_step hokt y
      obtain ⟨hsame, hrl'⟩ := rel_step hoks hrl y
      rw [hsame] at hrt
      generalize (stepE s y).1 = s' at hst hok' hrl'
      generalize (refStepE t y).1 = t' at hrt hokt' hrl'
      generalize (stepE s y).2 = X at hst hact hrt hsame
      have hl8 := hact.len
      obtain ⟨n0, n1, n2, n3, n4, n5, n6, n7, e8⟩ := eight _ hl8
      obtain ⟨kd, rr, pp, mm, nn, ns⟩ := X
      simp only at e8
      subst e8
      rw [told_any] at hst
      rw [show actV ⟨kd, rr, pp, mm, nn, [n0, n1, n2, n3, n4, n5, n6, n7]⟩ = .agg #[.int .i64 kd, .int .i32 rr, .int .u8 pp, .int .u8 mm, .int .i64 nn, .int .i64 n0, .int .i64 n1, .int .i64 n2, .int .i64 n3, .int .i64 n4, .int .i64 n5, .int .i64 n6, .int .i64 n7] from rfl] at hrt
      obtain ⟨B, hB, hBn⟩ : ∃ B, decide (kd ≠ 0) = B ∧ (kd != 0) = B := ⟨_, rfl, by by_cases h : kd = 0 <;> simp [h]⟩
      rw [hB] at hst
      obtain ⟨I, hI, hIn⟩ : ∃ I, decide (s'.st = 0) = I ∧ (t'.inn == 0) = I := ⟨_, rfl, by rw [hrl'.inn]; rfl⟩
      obtain ⟨U, hU⟩ : ∃ U, t'.inn = U := ⟨_, rfl⟩
      rw [hU] at hIn
      obtain ⟨cs, hcs⟩ : ∃ cs : Array Value, cs = #[.int .i64 kd, .int .i32 rr, .int .u8 pp, .int .u8 mm, .int .i64 nn, .int .i64 n0, .int .i64 n1, .int .i64 n2, .int .i64 n3, .int .i64 n4, .int .i64 n5, .int .i64 n6, .int .i64 n7] := ⟨_, rfl⟩
      have HH := Lib.hid (And.intro hin.out.ext (And.intro hin.out.ne (And.intro hst (And.intro hrt (And.intro hpt (And.intro hok' (And.intro hokt' (And.intro hrl' (And.intro hI (And.intro hU hcs))))))))))
      clear hst hrt hpt hok' hokt' hrl' hI hU hcs hin hsame hact hl8 hps hoks hokt hrl hB
      go_wp2_with fail
      refine HH.out.2.2.1.mono ?_
      rintro e w1 ⟨rfl, hp1, ho1⟩
      have hx1 := (Ext.refl w1).alloc (.cells cs 31)
      have hb1 : Blk (w1.alloc (.cells cs 31)) w1.heap.size 31 cs := Go.heap_alloc_new _ _
      have hr1 := (HH.out.2.2.2.2.1.only ho1 (by have := HH.out.2.1; omega)).ext hx1
      have hW1 := (ext_only HH.out.1 ho1 (Nat.le_refl _)).trans hx1
      have hp1' := hp1.ext hx1
      have hgb1 : gb < w1.heap.size := (HH.out.2.2.2.2.1.only ho1 (by have := HH.out.2.1; omega)).lt
      have da1 := ho1.cell (p := ⟨ga, offa + i, none⟩) (by show ga ≠ _; omega) da
      have hga1 : ga < w1.heap.size := lt_of_cell da1
      rw [HH.out.2.2.2.2.2.2.2.2.2.2] at hb1 hr1 hW1 hp1'
      have K1 := Lib.hid (And.intro hb1 (And.intro hr1 (And.intro hW1 hp1'))); clear hb1 hr1 hW1 hp1' hp1 ho1 hx1 da
      go_wp2_with fail
      refine (HH.out.2.2.2.1 _ K1.out.2.1).mono ?_
      rintro e w2 ⟨rfl, hr2, ho2⟩
      have hgbG := HH.out.2.1
      obtain ⟨Wc, hWc⟩ : ∃ Wc, Wc = w2.alloc (.cells #[.int .i64 kd, .int .i32 rr, .int .u8 pp, .int .u8 mm, .int .i64 nn, .int .i64 n0, .int .i64 n1, .int .i64 n2, .int .i64 n3, .int .i64 n4, .int .i64 n5, .int .i64 n6, .int .i64 n7] 31) := ⟨_, rfl⟩
      have hxc : Ext w2 Wc := by rw [hWc]; exact (Ext.refl w2).alloc _
      have hq0 : ActAt Wc w2.heap.size 0 ⟨kd, rr, pp, mm, nn, [n0, n1, n2, n3, n4, n5, n6, n7]⟩ := by
        have hb : Blk Wc w2.heap.size 31 (actC ⟨kd, rr, pp, mm, nn, [n0, n1, n2, n3, n4, n5, n6, n7]⟩).toArray := by rw [hWc]; exact Go.heap_alloc_new _ _
        intro j u hu
        rw [Nat.zero_add, Blk.cell hb j]; simpa using hu
      have hp0 : ActAt Wc w1.heap.size 0 ⟨kd, rr, pp, mm, nn, [n0, n1, n2, n3, n4, n5, n6, n7]⟩ := by
        have hb : Blk Wc w1.heap.size 31 (actC ⟨kd, rr, pp, mm, nn, [n0, n1, n2, n3, n4, n5, n6, n7]⟩).toArray := (K1.out.1.only ho2 (by omega)).ext hxc
        intro j u hu
        rw [Nat.zero_add, Blk.cell hb j]; simpa using hu
      have hrc := hr2.ext hxc
      have hpc := (K1.out.2.2.2.only ho2 (by omega)).ext hxc
      have hWc2 := (ext_only K1.out.2.2.1 ho2 (by omega)).trans hxc
      have hIdle : ∀ V, Ext Wc V → Calls Try.prog 13 #[.pointer (some ⟨W.heap.size, 0, none⟩)] V fun e w' => e = .returned (.bool I) ∧ Ext Wc w' := fun V hV => (Idle_of V W.heap.size s' (hpc.ext hV) HH.out.2.2.2.2.2.1.len).mono fun e w' ⟨he, hw⟩ => ⟨by rw [he, HH.out.2.2.2.2.2.2.2.2.1], by rw [hw]; exact hV⟩
      obtain ⟨p0, p1, p2, p3, p4, p5, p6, p7, p8, p9, pa, pb, pc⟩ := hp0.facts
      obtain ⟨q0, q1, q2, q3, q4, q5, q6, q7, q8, q9, qa, qb, qc⟩ := hq0.facts
      simp only [Nat.zero_add] at p0 p1 p2 p3 p4 p5 p6 p7 p8 p9 pa pb pc q0 q1 q2 q3 q4 q5 q6 q7 q8 q9 qa qb qc
      have r0 : Wc.cell? ⟨gb, 0, none⟩ = some (.int .i64 U) := by have := Blk.cell hrc 0; rw [this]; show some (Value.int .i64 t'.inn) = _; rw [HH.out.2.2.2.2.2.2.2.2.2.1]
      have K2 := Lib.hid (And.intro hWc (And.intro hrc (And.intro hpc (And.intro hWc2 hIdle)))); clear hWc hrc hpc hWc2 hIdle hxc hr2 ho2 hp0 hq0 da1
      go_wp2_with fail
      have zp0 : ∀ n : In (Ext Wc), n.val.cell? ⟨w1.heap.size, 0, none⟩ = some (.int .i64 kd) := fun n => n.prop.cell p0
      have zp1 : ∀ n : In (Ext Wc), n.val.cell? ⟨w1.heap.size, 1, none⟩ = some (.int .i32 rr) := fun n => n.prop.cell p1
      have zp2 : ∀ n : In (Ext Wc), n.val.cell? ⟨w1.heap.size, 2, none⟩ = some (.int .u8 pp) := fun n => n.prop.cell p2
      have zp3 : ∀ n : In (Ext Wc), n.val.cell? ⟨w1.heap.size, 3, none⟩ = some (.int .u8 mm) := fun n => n.prop.cell p3
      have zp4 : ∀ n : In (Ext Wc), n.val.cell? ⟨w1.heap.size, 4, none⟩ = some (.int .i64 nn) := fun n => n.prop.cell p4
      have zp5 : ∀ n : In (Ext Wc), n.val.cell? ⟨w1.heap.size, 5, none⟩ = some (.int .i64 n0) := fun n => n.prop.cell p5
      have zp6 : ∀ n : In (Ext Wc), n.val.cell? ⟨w1.heap.size, 6, none⟩ = some (.int .i64 n1) := fun n => n.prop.cell p6
      have zp7 : ∀ n : In (Ext Wc), n.val.cell? ⟨w1.heap.size, 7, none⟩ = some (.int .i64 n2) := fun n => n.prop.cell p7
      have zp8 : ∀ n : In (Ext Wc), n.val.cell? ⟨w1.heap.size, 8, none⟩ = some (.int .i64 n3) := fun n => n.prop.cell p8
      have zp9 : ∀ n : In (Ext Wc), n.val.cell? ⟨w1.heap.size, 9, none⟩ = some (.int .i64 n4) := fun n => n.prop.cell p9
      have zpa : ∀ n : In (Ext Wc), n.val.cell? ⟨w1.heap.size, 10, none⟩ = some (.int .i64 n5) := fun n => n.prop.cell pa
      have zpb : ∀ n : In (Ext Wc), n.val.cell? ⟨w1.heap.size, 11, none⟩ = some (.int .i64 n6) := fun n => n.prop.cell pb
      have zpc : ∀ n : In (Ext Wc), n.val.cell? ⟨w1.heap.size, 12, none⟩ = some (.int .i64 n7) := fun n => n.prop.cell pc
      have zq0 : ∀ n : In (Ext Wc), n.val.cell? ⟨w2.heap.size, 0, none⟩ = some (.int .i64 kd) := fun n => n.prop.cell q0
      have zq1 : ∀ n : In (Ext Wc), n.val.cell? ⟨w2.heap.size, 1, none⟩ = some (.int .i32 rr) := fun n => n.prop.cell q1
      have zq2 : ∀ n : In (Ext Wc), n.val.cell? ⟨w2.heap.size, 2, none⟩ = some (.int .u8 pp) := fun n => n.prop.cell q2
      have zq3 : ∀ n : In (Ext Wc), n.val.cell? ⟨w2.heap.size, 3, none⟩ = some (.int .u8 mm) := fun n => n.prop.cell q3
      have zq4 : ∀ n : In (Ext Wc), n.val.cell? ⟨w2.heap.size, 4, none⟩ = some (.int .i64 nn) := fun n => n.prop.cell q4
      have zq5 : ∀ n : In (Ext Wc), n.val.cell? ⟨w2.heap.size, 5, none⟩ = some (.int .i64 n0) := fun n => n.prop.cell q5
      have zq6 : ∀ n : In (Ext Wc), n.val.cell? ⟨w2.heap.size, 6, none⟩ = some (.int .i64 n1) := fun n => n.prop.cell q6
      have zq7 : ∀ n : In (Ext Wc), n.val.cell? ⟨w2.heap.size, 7, none⟩ = some (.int .i64 n2) := fun n => n.prop.cell q7
      have zq8 : ∀ n : In (Ext Wc), n.val.cell? ⟨w2.heap.size, 8, none⟩ = some (.int .i64 n3) := fun n => n.prop.cell q8
      have zq9 : ∀ n : In (Ext Wc), n.val.cell? ⟨w2.heap.size, 9, none⟩ = some (.int .i64 n4) := fun n => n.prop.cell q9
      have zqa : ∀ n : In (Ext Wc), n.val.cell? ⟨w2.heap.size, 10, none⟩ = some (.int .i64 n5) := fun n => n.prop.cell qa
      have zqb : ∀ n : In (Ext Wc), n.val.cell? ⟨w2.heap.size, 11, none⟩ = some (.int .i64 n6) := fun n => n.prop.cell qb
      have zqc : ∀ n : In (Ext Wc), n.val.cell? ⟨w2.heap.size, 12, none⟩ = some (.int .i64 n7) := fun n => n.prop.cell qc
      have zr0 : ∀ n : In (Ext Wc), n.val.cell? ⟨gb, 0, none⟩ = some (.int .i64 U) := fun n => n.prop.cell r0
      have gZ : Ext Wc (w2.alloc (.cells #[.int .i64 kd, .int .i32 rr, .int .u8 pp, .int .u8 mm, .int .i64 nn, .int .i64 n0, .int .i64 n1, .int .i64 n2, .int .i64 n3, .int .i64 n4, .int .i64 n5, .int .i64 n6, .int .i64 n7] 31)).drew := by rw [← K2.out.1]; exact (Ext.refl _).drew
      have hne : Nonempty (In (Ext Wc)) := ⟨⟨_, gZ⟩⟩
      clear p0 p1 p2 p3 p4 p5 p6 p7 p8 p9 pa pb pc q0 q1 q2 q3 q4 q5 q6 q7 q8 q9 qa qb qc r0
      try simp only [List.append]
      refine wp_region_class (Ext Wc) (by kernel_rfl) (by kernel_rfl) gZ ?_
      repeat (go_big_quiet_step (first | (go_at_call 13; exact quiet_class K2.out.2.2.2.2 _)))
      refine wpQuiet_nil ?_
      rintro _ ⟨m, rfl⟩
      have hm := m.prop
      generalize m.val = w9 at hm ⊢
      have HF := Lib.hid hm
      clear hm hne gZ zp0 zp1 zp2 zp3 zp4 zp5 zp6 zp7 zp8 zp9 zpa zpb zpc zq0 zq1 zq2 zq3 zq4 zq5 zq6 zq7 zq8 zq9 zqa zqb zqc zr0
      by_cases hre : i = M
      · subst hre
        go_wp2_with fail
        refine (Reset_of _ W.heap.size s' (K2.out.2.2.1.ext HF.out) HH.out.2.2.2.2.2.1.len).mono ?_
        rintro e wA ⟨rfl, hpA, hoA⟩
        have hnew : PlaySt W wA.heap.size (wA.alloc (.cells zero15 33)) :=
          ⟨⟨_, _, hpA.ext ((Ext.refl _).alloc _), ok_innE 0 (by decide) (by decide), ref_new wA, ref_ok, rel_new⟩, hpA.lt, (ext_only (K2.out.2.2.2.1.trans HF.out) hoA (Nat.le_refl _)).alloc _⟩
        have HN := Lib.hid hnew; clear hnew hpA hoA
        go_wp2
        go_roundg (gk - 1)
        case measure => have := hi.out; omega
        case rel =>
          refine ⟨i + 1, _, ?_, rfl, by go_num, HN.out⟩
          show i + 1 + (gk - 1) = L
          have := hi.out; omega
      · have hreb : ((i : Int) == (M : Int)) = false := by simp; omega
        go_wp2_with fail
        go_roundg (gk - 1)
        case measure => have := hi.out; omega
        case rel =>
          refine ⟨i + 1, gb, ?_, rfl, by go_num, ⟨⟨s', t', K2.out.2.2.1.ext HF.out, HH.out.2.2.2.2.2.1, K2.out.2.1.ext HF.out, HH.out.2.2.2.2.2.2.1, HH.out.2.2.2.2.2.2.2.1⟩, HH.out.2.1, K2.out.2.2.2.1.trans HF.out⟩⟩
          show i + 1 + (gk - 1) = L
          have := hi.out; omega
    · go_wp2
      go_ret
      exact ⟨rfl, H1.out.trans hin.out.ext⟩
end Go.Proofs.Ytmppbmbhnoaggab
