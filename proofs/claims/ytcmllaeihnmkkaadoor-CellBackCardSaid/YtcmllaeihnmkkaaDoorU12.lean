/- Are two rows of cells the same? Is a row right? · Are two rows of cells the same? · A row as long that is right: cell.Mend. · What a row's growing leaves as it was; an append of cells, and where the new row lies. -/
import Derived.Test.YtcmllaeihnmkkaaDoorU11
import Derived.Deep.RegionWith
import Derived.Deep.RegionLaw
import Derived.Maps.AppendAt
namespace Go.Proofs.YtcmllaeihnmkkaaDoor
open Go Go.RowKit
attribute [local go_sem 10000] eq_cel

theorem cells_nothing (w : World) (A : Option Addr) (c : Nat) (h : A = none → c = 0) : IsCells w (.slice A 0 c) [] := ⟨A, c, rfl, ⟨Nat.zero_le _, h⟩, fun i x hi => by cases hi⟩
set_option maxHeartbeats 4000000 in
set_option maxRecDepth 100000 in
theorem Right_of (l : List Cel) (v : Value) (w : World) (hv : IsCells w v l) (hS : Spans w) (hm : l.length ≤ maxLen) : Calls Tryd.prog 23 #[v] w fun e w' => e = .returned (.bool (rightL l)) ∧ Ext w w' := by
  obtain ⟨A, c, rfl, hlc, hA⟩ := hv.form
  have H := Lib.hid (And.intro hv (And.intro hS hm)); clear hv hS hm hlc hA
  go_enter Tryd.func23, Tryd.ntmps23
  go_wp2
  go_loopg [0] l.length (fun k u wr => ∃ (m : List Cel), Hid (m.length = k ∧ rightL m = rightL l ∧ m.length ≤ l.length ∧ IsCells wr u m ∧ Ext w wr))
  case atStart => exact ⟨l, rfl, rfl, Nat.le_refl _, H.out.1, Ext.refl w⟩
  case round =>
    obtain ⟨m, hin⟩ := hrel
    obtain ⟨B, d, hu, hmd, hB⟩ := hin.out.2.2.2.1.form
    subst hu
    generalize hK : m.length = K at hmd ⊢
    have HK := Lib.hid hK; clear hK
    cases K with
    | zero =>
      have h0 : rightL l = true := by rw [← hin.out.2.1, List.eq_nil_of_length_eq_zero HK.out]; rfl
      have H0 := Lib.hid h0; clear h0
      go_wp2
      go_ret
      exact ⟨by rw [H0.out]; rfl, hin.out.2.2.2.2⟩
    | succ K =>
      have hp : 0 < K + 1 := Nat.succ_pos K
      have hv : IsCells wr (.slice B (K + 1) d) m := HK.out ▸ hin.out.2.2.2.1
      obtain ⟨g, off, rfl⟩ := hv.addr (by rw [HK.out]; omega)
      have HV := Lib.hid hv; clear hv
      go_wp2_with fail
      refine (whole_of m _ wr HV.out (by rw [HK.out]; omega) (H.out.2.1.ext hin.out.2.2.2.2)).mono ?_
      rintro e w2 ⟨rfl, hx⟩
      have HX := Lib.hid hx; clear hx
      have hstep := rightL_step m (by intro e; rw [e] at HK; have := HK.out; simp at this)
      have hle := wholeL_le m
      rw [HK.out] at hle
      generalize wholeL m = S at hstep hle ⊢
      have HS := Lib.hid hstep; clear hstep
      cases S with
      | zero =>
        have h0 : rightL l = false := by rw [← hin.out.2.1, HS.out]; rfl
        have H0 := Lib.hid h0; clear h0
        go_wp2
        go_ret
        exact ⟨by rw [H0.out]; rfl, hin.out.2.2.2.2.trans HX.out⟩
      | succ S =>
        have hr1 : rightL (m.drop (S + 1)) = rightL l := by rw [← hin.out.2.1, HS.out]; simp
        have hr2 : (m.drop (S + 1)).length = K - S := by rw [List.length_drop, HK.out]; omega
        have HR := Lib.hid (And.intro hr1 hr2); clear hr1 hr2
        have hgk := hin.out.1
        rw [HK.out] at hgk
        have hlm := hin.out.2.2.1
        rw [HK.out] at hlm
        have HG := Lib.hid (And.intro hgk hlm); clear hgk hlm
        go_wp2
        · rename_i hd
          have hD := hd
          clear hd
          go_roundg (K - S)
          case measure => have := HG.out; omega
          case rel =>
            refine ⟨m.drop (S + 1), HR.out.2, HR.out.1, by rw [HR.out.2]; have := HG.out; omega, ?_, hin.out.2.2.2.2.trans HX.out⟩
            have e : m.drop (S + 1) = [] := List.eq_nil_of_length_eq_zero (by rw [HR.out.2]; omega)
            rw [e, show K - S = 0 by omega]
            exact cells_nothing _ _ _ (fun e => by cases e)
        · go_roundg (K - S)
          case measure => have := HG.out; omega
          case rel =>
            refine ⟨m.drop (S + 1), HR.out.2, HR.out.1, by rw [HR.out.2]; have := HG.out; omega, ?_, hin.out.2.2.2.2.trans HX.out⟩
            have := (HV.out.ext HX.out).drop (S + 1) (by rw [HK.out]; omega)
            rwa [HK.out, Nat.add_sub_add_right] at this
end Go.Proofs.YtcmllaeihnmkkaaDoor
namespace Go.Proofs.YtcmllaeihnmkkaaDoor
open Go Go.RowKit
attribute [local go_sem 10000] eq_cel

theorem take_step {α : Type} (l : List α) (i : Nat) (x : α) (h : l[i]? = some x) : l.take (i + 1) = l.take i ++ [x] := by rw [List.take_add_one, h]; rfl
set_option maxHeartbeats 4000000 in
set_option maxRecDepth 100000 in
theorem SameC_of (a b : List Cel) (va vb : Value) (w : World) (ha : IsCells w va a) (hb : IsCells w vb b) (hm : a.length ≤ maxLen) : Calls Tryd.prog 18 #[va, vb] w fun e w' => e = .returned (.bool (decide (a = b))) ∧ Ext w w' := by
  obtain ⟨A, c, rfl, hlc, hA⟩ := ha.form
  obtain ⟨B, d, rfl, hld, hB⟩ := hb.form
  generalize hL : a.length = L at hlc ha hm ⊢
  generalize hK : b.length = K at hld hb ⊢
  generalize hR : decide (a = b) = R
  have H := Lib.hid (And.intro ha (And.intro hb (And.intro hL (And.intro hK hR)))); clear ha hb hL hK hR
  have hm2 : L ≤ 9223372036854775807 := hm
  clear hm
  by_cases hne : L = K
  · subst hne
    go_enter Tryd.func18, Tryd.ntmps18
    go_wp2
    go_loopg [5] L (fun k u wr => ∃ i : Nat, u = .int .i64 i ∧ Hid (i + k = L ∧ a.take i = b.take i ∧ Ext w wr))
    case atStart => exact ⟨0, rfl, Nat.zero_add _, rfl, Ext.refl w⟩
    case round =>
      obtain ⟨i, rfl, hin⟩ := hrel
      by_cases hi : i < L
      · obtain ⟨x, hx⟩ : ∃ x, a[i]? = some x := ⟨a[i]'(by rw [H.out.2.2.1]; exact hi), List.getElem?_eq_getElem _⟩
        obtain ⟨y, hy⟩ : ∃ y, b[i]? = some y := ⟨b[i]'(by rw [H.out.2.2.2.1]; exact hi), List.getElem?_eq_getElem _⟩
        obtain ⟨_, g, off, rfl, hcx⟩ := H.out.1.at hx
        obtain ⟨_, g', off', rfl, hcy⟩ := H.out.2.1.at hy
        have hta := take_step a i x hx
        have htb := take_step b i y hy
        have hne2 : ¬ x = y → R = false := fun h => by
          rw [← H.out.2.2.2.2]
          refine decide_eq_false fun e => h ?_
          rw [e, hy] at hx; injection hx with hx; exact hx.symm
        have HT := Lib.hid (And.intro hta (And.intro htb hne2)); clear hta htb hne2 hx hy
        obtain ⟨r, f, b', a'⟩ := x
        obtain ⟨r2, f2, b2, a2⟩ := y
        obtain ⟨k0, k1, k2, k3⟩ := (hcx.ext hin.out.2.2).four
        obtain ⟨m0, m1, m2, m3⟩ := (hcy.ext hin.out.2.2).four
        clear hcx hcy
        go_wp2_with fail
        go_quiet (fail)
        clear k0 k1 k2 k3 m0 m1 m2 m3
        generalize hE : celEq _ _ = E
        have HE := Lib.hid hE; clear hE
        cases E with
        | false =>
          have h0 := HT.out.2.2 (celEq_false.1 HE.out)
          subst h0
          go_wp2_with fail
          go_ret
          exact ⟨rfl, hin.out.2.2.drewN _⟩
        | true =>
          have hxy := celEq_true.1 HE.out
          have hts : a.take (i + 1) = b.take (i + 1) := by rw [HT.out.1, HT.out.2.1, hin.out.2.1, hxy]
          have HS := Lib.hid (And.intro hts (hin.out.2.2.drewN nq)); clear hxy hts
          have hgk := hin.out.1
          have HG := Lib.hid hgk; clear hgk
          go_wp2_with fail
          go_roundg (gk - 1)
          case measure => have := HG.out; omega
          case rel => exact ⟨i + 1, by go_num, by have := HG.out; show i + 1 + (gk - 1) = L; omega, HS.out.1, HS.out.2⟩
      · have h1 : R = true := by
          rw [← H.out.2.2.2.2]
          refine decide_eq_true ?_
          have h2 := hin.out.2.1
          rw [List.take_of_length_le (by rw [H.out.2.2.1]; omega), List.take_of_length_le (by rw [H.out.2.2.2.1]; omega)] at h2
          exact h2
        subst h1
        go_wp2_with fail
        go_ret
        exact ⟨rfl, hin.out.2.2⟩
  · have hn2 : R = false := by
      rw [← H.out.2.2.2.2]
      refine decide_eq_false fun e => hne ?_
      rw [← H.out.2.2.1, ← H.out.2.2.2.1, e]
    subst hn2
    have e1 : ((L : Int) == (K : Int)) = false := by simp; omega
    go_enter Tryd.func18, Tryd.ntmps18
    go_wp2
    go_ret
    exact ⟨rfl, Ext.refl w⟩
end Go.Proofs.YtcmllaeihnmkkaaDoor
namespace Go.Proofs.YtcmllaeihnmkkaaDoor
open Go Go.RowKit
attribute [local go_sem 10000] eq_cel

/-- What an append of cells leaves. -/
structure AppendedC (base : Nat) (v : Value) (W : World) (l : List Cel) (v' : Value) (w' : World) : Prop where
  own : OwnC w' base v' l
  grown : W.grownBy w' v.ownBlock
section
variable {W : World} {ops : Array Oper} {rest : List Oper} {o : Oper} {a : Act} {Q : Exit → Act → World → Prop}
theorem wpList_app_cells (hgd : o.guard = none) (s x : Operand) (ho : o.op = .call { callee := .builtin .append, args := #[s, x], argTypes := #[27, 27] })
    (base : Nat) (v : Value) (out : List Cel) (hs : a.eval s = v) (hown : OwnC W base v out) (x' : Value) (l : List Cel) (hx : a.eval x = x') (hc : IsCells W x' l)
    (hlen : out.length ≤ 2000000) (hlen2 : l.length ≤ 2000000) (hbase : base ≤ W.heap.size) (h : ∀ v' w', AppendedC base v W (out ++ l) v' w' → wpList Tryd.prog ops Q rest (a.put o.dst v') w') : wpList Tryd.prog ops Q (o :: rest) a W := by
  obtain ⟨i0, hi0, hz0, hz1, hz2⟩ := info_parts infoCell
  obtain ⟨A, c, rfl, hlc, hA⟩ := hc.form
  exact wpList_append_opt hgd s x 27 ho base 57 i0 _ 4 8 Tryd.underlying27 hi0 hz0 hz1 hz2 rfl (by omega) v out.length (cellsC out) hs hown A l.length c (cellsC l) hx (fun e => by have := hA e; subst e; have := hc.none; exact ⟨this.2.1, this.2.2⟩) (cellsC_len l) hc.news (cellsC_one l) (by unfold maxLen; omega) (by omega) hbase
    fun v' w' h1 h2 => h v' w' ⟨OwnC.more h1, h2⟩
/-- Likewise, at a step of a region that draws. -/
theorem step_app_cells {K : Act → World → Prop} {E : Prop} (hgd : o.guard = none) (s x : Operand) (ho : o.op = .call { callee := .builtin .append, args := #[s, x], argTypes := #[27, 27] })
    (base : Nat) (v : Value) (out : List Cel) (hs : a.eval s = v) (hown : OwnC W base v out) (x' : Value) (l : List Cel) (hx : a.eval x = x') (hc : IsCells W x' l)
    (hlen : out.length ≤ 2000000) (hlen2 : l.length ≤ 2000000) (hbase : base ≤ W.heap.size) (h : ∀ v' w', AppendedC base v W (out ++ l) v' w' → K (a.put o.dst v') w') :
    if Region.wanted o (yielded ops a.tmps) = true then Oper.wp Tryd.prog o a W K Q else E := by
  obtain ⟨i0, hi0, hz0, hz1, hz2⟩ := info_parts infoCell
  obtain ⟨A, c, rfl, hlc, hA⟩ := hc.form
  exact step_append_opt hgd s x 27 ho base 57 i0 _ 4 8 Tryd.underlying27 hi0 hz0 hz1 hz2 rfl (by omega) v out.length (cellsC out) hs hown A l.length c (cellsC l) hx (fun e => by have := hA e; subst e; have := hc.none; exact ⟨this.2.1, this.2.2⟩) (cellsC_len l) hc.news (cellsC_one l) (by unfold maxLen; omega) (by omega) hbase
    fun v' w' h1 h2 => h v' w' ⟨OwnC.more h1, h2⟩
end
/-- A row of one cell, just laid. -/
theorem cells_one (w : World) (c : Cel) (h : c.ok) : IsCells (w.alloc (.cells #[.int .i32 c.r, .int .u8 c.f, .int .u8 c.b, .int .u8 c.a] 57)) (.slice (some ⟨w.heap.size, 0, none⟩) 1 1) [c] := by
  refine ⟨some ⟨w.heap.size, 0, none⟩, 1, rfl, ⟨Nat.le_refl _, fun e => by cases e⟩, fun i x hi => ?_⟩
  have h0 : i = 0 := by have := (List.getElem?_eq_some_iff.1 hi).1; simp at this; exact this
  subst h0
  obtain rfl : c = x := by simpa using hi
  exact ⟨h, _, _, rfl, CelAt.new w c⟩
theorem AppendedC.ext {base : Nat} {v v' : Value} {w0 W w' : World} {l m : List Cel} (h : AppendedC base v W (l ++ m) v' w') (ho : OwnC W base v l) (hx : Ext w0 W) (hb : w0.heap.size ≤ base) : Ext w0 w' := ext_grown4 hx ho h.grown hb

set_option maxHeartbeats 4000000 in
set_option maxRecDepth 100000 in
theorem Mend_of (l : List Cel) (v : Value) (w : World) (hv : IsCells w v l) (hS : Spans w) (hm : l.length ≤ 1000000) : Calls Tryd.prog 124 #[v] w fun e w' => ∃ v', e = .returned v' ∧ OwnC w' w.heap.size v' (mendL l) ∧ Ext w w' := by
  obtain ⟨i0, hi0, hz0, hz1, hz2⟩ := info_parts infoCell
  obtain ⟨A, c, rfl, hlc, hA⟩ := hv.form
  generalize hL : l.length = L at hlc hv hm ⊢
  have H := Lib.hid (And.intro hv (And.intro hS hL)); clear hv hS hL
  go_enter Tryd.func124, Tryd.ntmps124
  go_wp2_with (refine wpList_make_own w rfl _ _ 27 rfl w.heap.size 57 i0 _ 4 Tryd.underlying27 hi0 hz0 hz1 .i64 .i64 L L rfl rfl rfl (by rw [hz2]; omega) (by unfold maxLen; omega) (Nat.le_refl _) ?_)
  intro w1 hown hg
  have HB := Lib.hid (And.intro hown ((Below.refl w.heap.size w).grown hg (Nat.le_refl _) (fun k hk => by cases hk))); clear hown hg
  go_wp2
  go_loopg [3] L (fun k u wr => ∃ (D R : List Cel) (g cap : Nat), u = .slice (some ⟨g, 0, none⟩) D.length cap ∧ Hid (R.length = k ∧ D.length + k = L ∧ R = l.drop D.length ∧ D ++ mendL R = mendL l ∧ OwnC wr w.heap.size (.slice (some ⟨g, 0, none⟩) D.length cap) D ∧ Ext w wr))
  case atStart => exact ⟨[], l, _, _, rfl, H.out.2.2, Nat.zero_add _, rfl, rfl, HB.out.1, HB.out.2⟩
  case round =>
    obtain ⟨D, R, g, cap, rfl, hin⟩ := hrel
    generalize hN : D.length = N at hin ⊢
    have HN := Lib.hid hN; clear hN
    by_cases hlt : N < L
    · obtain ⟨ga, oa, rfl⟩ := H.out.1.addr (by rw [H.out.2.2]; omega)
      have hcn : ¬ c = N := by omega
      have hlen := hin.out.1
      have hsum := hin.out.2.1
      have hR := H.out.1.drop N (by rw [H.out.2.2]; omega)
      rw [H.out.2.2, ← hin.out.2.2.1] at hR
      have HR := Lib.hid (And.intro (hR.ext hin.out.2.2.2.2.2) (And.intro hlen hsum)); clear hR hlen hsum
      go_wp2_with fail
      refine (whole_of R _ wr HR.out.1 (by have := HR.out.2; omega) (H.out.2.1.ext hin.out.2.2.2.2.2)).mono ?_
      rintro e w2 ⟨rfl, hx⟩
      have HX := Lib.hid hx; clear hx
      have hne : R ≠ [] := by intro e; have h := HR.out.2; rw [e] at h; simp at h; omega
      have hm1 := mendL_step R hne
      have hm2 : ∀ x t, R = x :: t → wholeL R = 0 → mendL R = x.gone :: mendL t := fun x t e h0 => by subst e; exact mendL_gone x t h0
      have hwl := wholeL_le R
      have hw2 := wholeL_le2 R
      rw [HR.out.2.1] at hwl
      generalize wholeL R = S at hm1 hm2 hwl hw2 ⊢
      have HM := Lib.hid (And.intro hm1 (And.intro hm2 (And.intro hwl (And.intro hw2 hne)))); clear hm1 hm2 hwl hne
      cases S with
      | zero =>
        cases R with
        | nil => exact absurd rfl HM.out.2.2.2.2
        | cons x t =>
          have hat := ((HR.out.1.at' (i := 0) (x := x) rfl).2).ext HX.out
          rw [Nat.zero_mul, Nat.add_zero] at hat
          have hxo := (HR.out.1.at' (i := 0) (x := x) rfl).1
          obtain ⟨r, f, b, a⟩ := x
          obtain ⟨k0, k1, k2, k3⟩ := hat.four
          have HO := Lib.hid (hin.out.2.2.2.2.1.ext HX.out)
          have HE := Lib.hid (hin.out.2.2.2.2.2.trans HX.out)
          have hk : 0 < L - N := by omega
          go_wp2_with fail
          have HC1 := Lib.hid (cells_one w2 (Cel.gone ⟨r, f, b, a⟩) (Cel.ok_gone hxo))
          have HO1 := Lib.hid (HO.out.ext ((Ext.refl w2).alloc (.cells #[.int .i32 32, .int .u8 f, .int .u8 b, .int .u8 0] 57)))
          have HE1 := Lib.hid (HE.out.trans ((Ext.refl w2).alloc (.cells #[.int .i32 32, .int .u8 f, .int .u8 b, .int .u8 0] 57)))
          have HD : Hid (D.length ≤ 2000000) := Lib.hid (by have := HN.out; omega)
          have H1 : Hid (([Cel.gone ⟨r, f, b, a⟩] : List Cel).length ≤ 2000000) := Lib.hid (by simp)
          go_region_law (refine step_app_cells (W := (w2.alloc (.cells #[.int .i32 32, .int .u8 f, .int .u8 b, .int .u8 0] 57)).drew) rfl (.tmp 27) (.tmp 37) rfl w.heap.size (.slice (some ⟨g, 0, none⟩) N cap) D rfl HO1.out _ [Cel.gone ⟨r, f, b, a⟩] rfl HC1.out HD.out H1.out HE1.out.size ?_; intro v1 w4 hap1; obtain ⟨g', cap', rfl, _, _⟩ := World.ownsRow.form hap1.own (by rw [List.length_append]; exact Nat.succ_pos _); have HAP := Lib.hid (And.intro hap1.own (hap1.ext HO1.out HE1.out.drew (Nat.le_refl _))); clear hap1)
          all_goals
            have hln : (D ++ [Cel.gone ⟨r, f, b, a⟩]).length = N + 1 := by rw [List.length_append, HN.out]; rfl
            have hOwn := HAP.out.1
            rw [hln] at hOwn
            have hmm : (D ++ [Cel.gone ⟨r, f, b, a⟩]) ++ mendL t = mendL l := by
              rw [← hin.out.2.2.2.1, HM.out.2.1 _ _ rfl trivial, List.append_assoc]; rfl
            have hdr : t = l.drop (N + 1) := by
              have := congrArg (List.drop 1) hin.out.2.2.1
              rwa [List.drop_drop] at this
            have htl : t.length + 1 = gk := hin.out.1
            have H3 := Lib.hid (And.intro HAP.out.2 (And.intro hOwn (And.intro hln (And.intro hmm (And.intro hdr htl))))); clear hOwn hln hmm hdr htl
            go_wp2
            go_roundg (gk - 1)
            case measure => have := H3.out.2.2.2.2.2; omega
            case rel =>
              refine ⟨D ++ [Cel.gone ⟨r, f, b, a⟩], t, g', cap', by first | rfl | simp | (rw [H3.out.2.2.1]; simp [HN.out]), ?_, ?_, ?_, H3.out.2.2.2.1, ?_, H3.out.1⟩
              · have := H3.out.2.2.2.2.2; omega
              · rw [H3.out.2.2.1]; have := H3.out.2.2.2.2.2; have := HR.out.2.2; omega
              · rw [H3.out.2.2.1]; exact H3.out.2.2.2.2.1
              · rw [H3.out.2.2.1]; exact H3.out.2.1
      | succ S =>
        have hS1 : S + 1 ≤ c - N := by have := HM.out.2.2.1; have := HR.out.2; omega
        have HT := Lib.hid ((HR.out.1.ext HX.out).cut (S + 1) (by have := HM.out.2.2.1; have := HR.out.2; omega))
        have HO := Lib.hid (hin.out.2.2.2.2.1.ext HX.out)
        have HE := Lib.hid (hin.out.2.2.2.2.2.trans HX.out)
        go_wp2_with (at_builtin; refine wpList_app_cells rfl _ _ rfl w.heap.size _ D rfl HO.out _ (R.take (S + 1)) rfl HT.out (by have := HN.out; omega) (by rw [List.length_take]; omega) HE.out.size ?_)
        intro v' w3 hap
        have hE3 := hap.ext HO.out HE.out (Nat.le_refl _)
        have hOwn := hap.own
        have hpos : 0 < (D ++ R.take (S + 1)).length := by rw [List.length_append, List.length_take]; have := HM.out.2.2.1; have := HR.out.2; omega
        obtain ⟨g', cap', rfl, _, _⟩ := World.ownsRow.form hOwn hpos
        have hln : (D ++ R.take (S + 1)).length = N + (S + 1) := by rw [List.length_append, List.length_take, HN.out]; have := HM.out.2.2.1; have := HR.out.2; omega
        rw [hln] at hOwn ⊢
        have hmm : (D ++ R.take (S + 1)) ++ mendL (R.drop (S + 1)) = mendL l := by rw [← hin.out.2.2.2.1, HM.out.1 (by omega), List.append_assoc]
        have H3 := Lib.hid (And.intro hE3 (And.intro hOwn (And.intro hln hmm))); clear hE3 hOwn hln hmm hap hpos
        go_wp2
        go_roundg (gk - (S + 1))
        case measure => have := HM.out.2.2.1; have := HR.out.2; omega
        case rel =>
          refine ⟨D ++ R.take (S + 1), R.drop (S + 1), g', cap', by rw [H3.out.2.2.1], ?_, ?_, ?_, H3.out.2.2.2, ?_, H3.out.1⟩
          · rw [List.length_drop, HR.out.2.1]
          · rw [H3.out.2.2.1]; have := HM.out.2.2.1; have := HR.out.2; omega
          · rw [H3.out.2.2.1, hin.out.2.2.1, List.drop_drop]
          · rw [H3.out.2.2.1]; exact H3.out.2.1
    · have hR : D = mendL l := by
        have h1 := hin.out.1
        have h2 := hin.out.2.1
        have h3 : R = [] := List.eq_nil_of_length_eq_zero (by omega)
        have h4 := hin.out.2.2.2.1
        rw [h3] at h4
        simpa [mendL_nil] using h4
      have HR := Lib.hid hR; clear hR
      go_wp2
      go_ret
      refine ⟨_, rfl, ?_, hin.out.2.2.2.2.2⟩
      rw [← HR.out]
      exact hin.out.2.2.2.2.1
end Go.Proofs.YtcmllaeihnmkkaaDoor
namespace Go.Proofs.YtcmllaeihnmkkaaDoor
open Go Go.RowKit

theorem bothC_of (c : Cel) (w : World) (hc : c.ok) : Calls Tryd.prog 55 #[c.val] w fun e w' => ∃ v', e = .returned v' ∧ OwnC w' w.heap.size v' (bothL c) ∧ Ext w w' := both_of c w hc
theorem Only.grown {g : Nat} {a w w' : World} {row : Option Nat} (h : Only g a w) (hg : w.grownBy w' row) (hr : ∀ k, row = some k → a.heap.size ≤ k) : Only g a w' :=
  ⟨hg.os.trans h.os, hg.tape.trans h.tape, hg.output.trans h.output, Nat.le_trans h.size hg.size, fun k hk hl => (hg.block k (Nat.lt_of_lt_of_le hl h.size) (fun e => absurd (hr k e.symm) (by omega))).trans (h.block k hk hl)⟩
theorem Blk.grown {w w' : World} {g : Nat} {t : TypeId} {cs : Array Value} {row : Option Nat} (h : Blk w g t cs) (hg : w.grownBy w' row) (hne : row ≠ some g) : Blk w' g t cs :=
  (hg.block g h.lt (fun e => hne e.symm)).trans h
section
variable {ops : Array Oper} {rest : List Oper} {o : Oper} {a : Act} {Q : Exit → Act → World → Prop} {W : World}
theorem wpList_app_cells_at (hgd : o.guard = none) (s x : Operand) (ho : o.op = .call { callee := .builtin .append, args := #[s, x], argTypes := #[27, 27] })
    (base : Nat) (v : Value) (out : List Cel) (hs : a.eval s = v) (hown : OwnC W base v out) (g off m c : Nat) (l : List Cel) (hx : a.eval x = .slice (some ⟨g, off, none⟩) m c) (hc : IsCells W (.slice (some ⟨g, off, none⟩) m c) l)
    (hlen : out.length ≤ 2000000) (hlen2 : l.length ≤ 2000000) (hbase : base ≤ W.heap.size) (h : ∀ v' w', OwnC w' base v' (out ++ l) → W.grownBy w' v.ownBlock → (v'.ownBlock = v.ownBlock ∨ v'.ownBlock = some W.heap.size) → wpList Tryd.prog ops Q rest (a.put o.dst v') w') : wpList Tryd.prog ops Q (o :: rest) a W := by
  obtain ⟨i0, hi0, hz0, hz1, hz2⟩ := info_parts infoCell
  have hm := hc.len
  exact wpList_append_own_at W hgd s x 27 ho base 57 i0 _ 4 8 Tryd.underlying27 hi0 hz0 hz1 hz2 rfl (by omega) v out.length (cellsC out) hs hown ⟨g, off, none⟩ m c (cellsC l) hx (by rw [cellsC_len, hm.1]) (hc.news _ rfl) (cellsC_one l) (by unfold maxLen; omega) (by omega) hbase
    fun v' w' h1 h2 _ h4 => h v' w' (OwnC.more (by rw [hm.1] at h1; exact h1)) h2 h4
end
end Go.Proofs.YtcmllaeihnmkkaaDoor
