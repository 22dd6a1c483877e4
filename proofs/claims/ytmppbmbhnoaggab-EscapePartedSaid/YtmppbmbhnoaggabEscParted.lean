/- The law EscapeParted, walked. -/
import Derived.Test.YtmppbmbhnoaggabEscI
namespace Go.Proofs.Ytmppbmbhnoaggab
open Go Go.RowKit

theorem place_ofE (a : Int) (n : Nat) (hn : n ≤ 60) : ∃ I : Nat, I ≤ n ∧ (wrap64 (wrap64 (a.tmod ((n : Int) + 1) + (n : Int)) + 1)).tmod ((n : Int) + 1) = (I : Int) := by
  have hm : (0 : Int) < (n : Int) + 1 := by omega
  have h1 := Int.tmod_lt_of_pos a hm
  have h2 := Int.lt_tmod_of_pos a hm
  generalize a.tmod ((n : Int) + 1) = u at h1 h2
  have e1 : wrap64 (u + (n : Int)) = u + (n : Int) := by unfold wrap64; omega
  rw [e1]
  have e2 : wrap64 (u + (n : Int) + 1) = u + (n : Int) + 1 := by unfold wrap64; omega
  rw [e2]
  have h3 := Int.tmod_lt_of_pos (u + (n : Int) + 1) hm
  have h4 := Int.tmod_nonneg ((n : Int) + 1) (show 0 ≤ u + (n : Int) + 1 by omega)
  exact ⟨((u + (n : Int) + 1).tmod ((n : Int) + 1)).toNat, by omega, by omega⟩
theorem IsRunes.dropE {w : World} {g off c : Nat} {zs : List Int} {L : Nat} (h : IsRunes w (.slice (some ⟨g, off, none⟩) L c) zs) (hL : zs.length = L) (hc : L ≤ c) (k : Nat) (hk : k ≤ L) : IsRunes w (.slice (some ⟨g, off + k, none⟩) (L - k) (c - k)) (zs.drop k) := by
  refine ⟨some ⟨g, off + k, none⟩, c - k, by rw [List.length_drop, hL], ⟨by rw [List.length_drop, hL]; omega, fun e => by cases e⟩, fun i m hi => ?_⟩
  rw [List.getElem?_drop] at hi
  obtain ⟨h1, h2⟩ := h.at' hi
  refine ⟨h1, g, off + k, rfl, ?_⟩
  rwa [show off + k + i = off + (k + i) by omega]
theorem step_app_acts {W : World} {ops : Array Oper} {o : Oper} {a : Act} {K : Act → World → Prop} {Q : Exit → Act → World → Prop} {E : Prop} (hgd : o.guard = none) (s x : Operand)
    (ho : o.op = .call { callee := .builtin .append, args := #[s, x], argTypes := #[39, 39] })
    (base : Nat) (v : Value) (out : List ActV) (hs : a.eval s = v) (hown : OwnA W base v out) (base2 : Nat) (x' : Value) (l : List ActV) (hx : a.eval x = x') (hown2 : OwnA W base2 x' l) (hl : okAs l)
    (hlen : out.length ≤ 2000000) (hlen2 : l.length ≤ 2000000) (hbase : base ≤ W.heap.size) (h : ∀ v' w', AppendedA base v W (out ++ l) v' w' → K (a.put o.dst v') w') : if Region.wanted o (yielded ops a.tmps) = true then Oper.wp Try.prog o a W K Q else E := by
  obtain ⟨i0, hi0, hz0, hz1, hz2⟩ := info_parts infoAct
  obtain ⟨A, c, rfl, hc⟩ := hown2.form
  exact step_append_opt hgd s x 39 ho base 31 i0 _ 13 88 Try.underlying39 hi0 hz0 hz1 hz2 rfl (by omega) v out.length (cellsA out) hs hown A l.length c (cellsA l) hx hc (cellsA_len l hl) hown2.news (cellsA_one l) (by unfold maxLen; omega) (by omega) hbase
    fun v' w' h1 h2 => h v' w' ⟨OwnA.more h1, h2⟩
/-- A row of no acts, just laid. -/
theorem own_none0 (V : World) : OwnA (V.alloc (.cells #[] 31)) V.heap.size (.slice (some ⟨V.heap.size, 0, none⟩) 0 0) [] :=
  ⟨rfl, .inr ⟨V.heap.size, 0, #[], rfl, Nat.le_refl _, Go.heap_alloc_new _ _, Nat.le_refl _, Nat.zero_le _, rfl, rfl⟩⟩
/-- A row of acts under way, and the parser that it comes of. -/
structure Going (w2 : World) (G : Nat) (v : Value) (l : List ActV) (s : Par) (V : World) : Prop where
  own : ∃ B, w2.heap.size ≤ B ∧ B ≤ V.heap.size ∧ OwnA V B v l
  par : ParAt V G s
  only : Only G w2 V
theorem Going.app {w2 V V' : World} {G : Nat} {v v' : Value} {l m : List ActV} {s : Par} {B : Nat} (hG : G < w2.heap.size) (hB : w2.heap.size ≤ B) (hBV : B ≤ V.heap.size) (ho : OwnA V B v l) (hp : ParAt V G s) (hx : Only G w2 V) (k : AppendedA B v V (l ++ m) v' V') : Going w2 G v' (l ++ m) s V' := by
  have h1 := only_grownA hx ho k.grown hB
  refine ⟨⟨B, hB, ?_, k.own⟩, par_grown hp ho k.grown (by omega), h1⟩
  have := k.grown
  obtain ⟨_, _, _, g4, _⟩ := this
  omega
/-- The text's cut, in the three forms that it takes. -/
structure Cut (W : World) (A : Option Addr) (L c k : Nat) (x : List Int) (u : Value) : Prop where
  lo : IsRunes W (.slice A k c) (x.take k)
  hi : IsRunes W u (x.drop k)
  len : x.length ≤ 60
set_option maxHeartbeats 1500000 in
set_option maxRecDepth 100000 in
theorem escapeParted_true (xs : List Int) (v : Value) (a : Int) (w : World) (hv : IsRunes w v xs) (hm : xs.length ≤ maxLen) :
    Calls Try.prog 4 #[v, .int .i64 a] w fun e w' => e = .returned (.bool true) ∧ Ext w w' := by
  have H := Lib.hid (And.intro hv hm); clear hv hm
  go_enter Try.func4, Try.ntmps4
  go_wp2_with fail
  refine (awake_true _).mono ?_
  rintro e W ⟨rfl, hx1⟩
  have H1 := Lib.hid hx1; clear hx1
  go_wp2_with fail
  refine (few_of xs v _ (H.out.1.ext H1.out) H.out.2).mono ?_
  rintro e W2 ⟨⟨v', rfl, h4, _⟩, rfl⟩
  have hlen := fewL_len xs 60
  generalize fewL xs 60 = x at h4 hlen
  obtain ⟨A, c, rfl, hc, hA0⟩ := h4.form
  obtain ⟨L, hL⟩ : ∃ L, x.length = L := ⟨_, rfl⟩
  rw [hL] at h4 hc hlen ⊢
  obtain ⟨k, hkL, hk⟩ := place_ofE a L hlen
  have hcut : IsRunes W2 (.slice A k c) (x.take k) := by rw [← hL] at h4 hkL; exact h4.cut k hkL
  -- what is made ahead of the cut
  have hp2 := par_new W2
  have hq2 := par_new (W2.alloc (.cells zero12 28))
  rw [World.size_alloc] at hq2
  have hx2 := ((Ext.refl W2).alloc (.cells zero12 28)).alloc (.cells zero12 28)
  have hp2' := hp2.ext ((Ext.refl _).alloc (.cells zero12 28))
  have H2 := Lib.hid (And.intro hp2' (And.intro hq2 (And.intro hx2 (And.intro h4 (And.intro hcut hL))))); clear hp2 hq2 hx2 hp2' hcut
  have hcase : (A = none ∧ L = 0 ∧ c = 0 ∧ k = 0) ∨ (∃ g off, A = some ⟨g, off, none⟩) ∨ (L = 0 ∧ k = 0 ∧ A ≠ none) := by
    cases hAA : A with
    | none => left; have := hA0 hAA; exact ⟨rfl, by omega, this, by omega⟩
    | some ad =>
      rcases Nat.eq_zero_or_pos L with h0 | h0
      · right; right; exact ⟨h0, by omega, by simp⟩
      · right; left
        obtain ⟨g, off, e⟩ := h4.addr (by omega)
        rw [hAA] at e
        exact ⟨g, off, e⟩
  have hacts := acts_runE (s := .new) (ok_innE 0 (by decide) (by decide)) x
  have hactsl := len_runE .new x
  rw [hL] at hactsl
  obtain ⟨l1, hl1⟩ : ∃ l1, (runE .new (x.take k)).1 = l1 := ⟨_, rfl⟩
  obtain ⟨s1, hs1⟩ : ∃ s1, (runE .new (x.take k)).2 = s1 := ⟨_, rfl⟩
  obtain ⟨l2, hl2⟩ : ∃ l2, (runE s1 (x.drop k)).1 = l2 := ⟨_, rfl⟩
  obtain ⟨s2, hs2⟩ : ∃ s2, (runE s1 (x.drop k)).2 = s2 := ⟨_, rfl⟩
  have hrun : runE .new x = (l1 ++ l2, s2) := by
    have := runE_append .new (x.take k) (x.drop k)
    rw [List.take_append_drop, hl1, hs1, hl2, hs2] at this
    exact this
  have hok1 : s1.ok := by rw [← hs1]; exact ok_runE (ok_innE 0 (by decide) (by decide)) _
  have hok2 : s2.ok := by rw [← hs2]; exact ok_runE hok1 _
  rw [hrun] at hacts hactsl
  have ha1 : okAs l1 := fun y hy => hacts y (List.mem_append_left _ hy)
  have ha2 : okAs l2 := fun y hy => hacts y (List.mem_append_right _ hy)
  have hlen1 : l1.length ≤ 60 ∧ l2.length ≤ 60 ∧ l1.length + l2.length ≤ L := by
    have : (l1 ++ l2).length ≤ L := hactsl
    rw [List.length_append] at this; omega
  have HR := Lib.hid (And.intro hrun (And.intro hok1 (And.intro hok2 (And.intro ha1 (And.intro ha2 (And.intro hacts (And.intro hlen1 (And.intro hl1 (And.intro hs1 (And.intro hl2 hs2))))))))))
  clear hacts hactsl hl1 hs1 hl2 hs2 hrun hok1 hok2 ha1 ha2
  obtain ⟨hn1, hn2, _⟩ := hlen1
  have hstep : ∀ u : Value, IsRunes W2 u (x.drop k) → True := fun _ _ => trivial
  clear hstep
  rcases hcase with ⟨rfl, rfl, rfl, rfl⟩ | ⟨g, off, rfl⟩ | ⟨rfl, rfl, hAn⟩
  · have hD0 : IsRunes W2 (.slice none 0 0) (x.drop 0) := by
      rw [List.drop_zero]; exact h4
    have HD := Lib.hid hD0; clear hD0
    go_wp2_with fail
    refine (Feed_of _ W2.heap.size .new _ x H2.out.1 (ok_innE 0 (by decide) (by decide)) (H2.out.2.2.2.1.ext H2.out.2.2.1) (H2.out.2.2.2.1.beside (Nat.le_refl _)) (by omega)).mono ?_
    rintro e w2 ⟨v2, rfl, ho2, hp2, hy2⟩
    rw [HR.out.1] at ho2 hp2
    obtain ⟨A2, c2, rfl, hA2⟩ := ho2.form
    rw [World.size_alloc, World.size_alloc] at ho2
    have hb2 := H2.out.2.1.only hy2 (by omega)
    have hlt2 : W2.heap.size + 1 < w2.heap.size := hb2.lt
    have hx2 : Ext W2 w2 := ext_only H2.out.2.2.1 hy2 (Nat.le_refl _)
    have F1 : ∀ V, Ext w2 V → Calls Try.prog 15 #[.pointer (some ⟨W2.heap.size + 1, 0, none⟩), .slice none 0 0] V fun e w' => ∃ v, e = .returned v ∧ (OwnA w' V.heap.size v l1 ∧ ParAt w' (W2.heap.size + 1) s1 ∧ Only (W2.heap.size + 1) V w') := fun V hV => by
      have hF := Feed_of V (W2.heap.size + 1) .new _ (x.take 0) (hb2.ext hV) (ok_innE 0 (by decide) (by decide)) (H2.out.2.2.2.2.1.ext (hx2.trans hV)) (H2.out.2.2.2.2.1.beside (by omega)) (by rw [List.length_take]; omega)
      rw [HR.out.2.2.2.2.2.2.2.1, HR.out.2.2.2.2.2.2.2.2.1] at hF
      exact hF
    have F2 : ∀ V, Ext W2 V → ParAt V (W2.heap.size + 1) s1 → Calls Try.prog 15 #[.pointer (some ⟨W2.heap.size + 1, 0, none⟩), .slice none 0 0] V fun e w' => ∃ v, e = .returned v ∧ (OwnA w' V.heap.size v l2 ∧ ParAt w' (W2.heap.size + 1) s2 ∧ Only (W2.heap.size + 1) V w') := fun V hV hp => by
      have hF := Feed_of V (W2.heap.size + 1) s1 _ (x.drop 0) hp HR.out.2.1 (HD.out.ext hV) (HD.out.beside (by omega)) (by rw [List.length_drop]; omega)
      rw [HR.out.2.2.2.2.2.2.2.2.2.1, HR.out.2.2.2.2.2.2.2.2.2.2] at hF
      exact hF
    have HF := Lib.hid (And.intro F1 F2); clear F1 F2
    have H3 := Lib.hid (And.intro ho2 (And.intro hp2 (And.intro hx2 (And.intro hlt2 hb2)))); clear ho2 hp2 hx2 hb2 hy2
    have hkI : (0 : Int) ≤ (0 : Int) := by omega
    have hkc : (0 : Int) ≤ (0 : Int) := by omega
    go_wp2_with fail
    have hGw : W2.heap.size + 1 < w2.heap.size := hlt2
    go_region_law (first
      | (have hqq := HO3a; clear hqq; have HO3 := HO3a; refine step_app_acts rfl (.tmp 36) (.tmp 41) rfl w2.heap.size (.slice (some ⟨w2.heap.size, 0, none⟩) 0 0) [] rfl (((own_none0 w2).ext ((Ext.refl _).drew)).only HO3.out.2.2 (by omega)) _ v3 l1 rfl HO3.out.1 HR.out.2.2.2.1 (by simp) (by omega) (by have := HO3.out.2.2.size; simp at this; omega) ?_; intro v4 w4 happ; have HG := Lib.hid (Going.app hGw (Nat.le_refl _) (by have := HO3.out.2.2.size; simp at this; omega) (((own_none0 w2).ext ((Ext.refl _).drew)).only HO3.out.2.2 (by omega)) HO3.out.2.1 ((Only.of_ext (((Ext.refl w2).alloc _).drew)).trans HO3.out.2.2) happ); obtain ⟨B, hB1, hB2, hB3⟩ := HG.out.own; have HBB := Lib.hid (And.intro hB1 (And.intro hB2 hB3)); clear happ hB1 hB2 hB3)
      | (have hqq := HO3b; clear hqq; have HO3 := HO3b; refine step_app_acts rfl (.tmp 36) (.tmp 41) rfl w3.heap.size (.slice (some ⟨w3.heap.size, 0, none⟩) 0 0) [] rfl (own_none0 w3) _ v3 l1 rfl (HO3.out.1.ext ((Ext.refl _).alloc _)) HR.out.2.2.2.1 (by simp) (by omega) (by simp) ?_; intro v4 w4 happ; have HG := Lib.hid (Going.app hGw (by have := HO3.out.2.2.size; exact this) (by simp) (own_none0 w3) (HO3.out.2.1.ext ((Ext.refl _).alloc _)) (((Only.of_ext ((Ext.refl w2).drew)).trans HO3.out.2.2).ext ((Ext.refl _).alloc _)) happ); obtain ⟨B, hB1, hB2, hB3⟩ := HG.out.own; have HBB := Lib.hid (And.intro hB1 (And.intro hB2 hB3)); clear happ hB1 hB2 hB3)
      | (have hqq := HO5; clear hqq; refine step_app_acts rfl (.tmp 42) (.tmp 47) rfl B v4 ([] ++ l1) rfl (HBB.out.2.2.only HO5.out.2.2 (by have := HBB.out.1; omega)) _ v5 l2 rfl HO5.out.1 HR.out.2.2.2.2.1 (by simp; omega) (by omega) (by have := HBB.out.2.1; have := HO5.out.2.2.size; omega) ?_; intro v6 w6 happ; have HG6 := Lib.hid (Going.app hGw HBB.out.1 (by have := HBB.out.2.1; have := HO5.out.2.2.size; omega) (HBB.out.2.2.only HO5.out.2.2 (by have := HBB.out.1; omega)) HO5.out.2.1 (HG.out.only.trans HO5.out.2.2) happ); clear happ)
      | (have hqq := HG; clear hqq; go_simp; go_at_call_of 15 (Value.slice none 0 0); refine (HF.out.2 _ (ext_only H3.out.2.2.1 HG.out.only (by omega)) HG.out.par).mono ?_; rintro e w5 ⟨v5, rfl, ho5, hp5, hy5⟩; have HO5 := Lib.hid (And.intro ho5 (And.intro hp5 hy5)); clear ho5 hp5 hy5)
      | (go_simp; go_at_call_of 15 (Value.slice none 0 0); refine (HF.out.1 _ ((Ext.refl _).drew)).mono ?_; rintro e w3 ⟨v3, rfl, ho3, hp3, hy3⟩; have HO3b := Lib.hid (And.intro ho3 (And.intro hp3 hy3)); clear ho3 hp3 hy3)
      | (go_simp; go_at_call_of 15 (Value.slice none 0 0); refine (HF.out.1 _ (((Ext.refl _).alloc _).drew)).mono ?_; rintro e w3 ⟨v3, rfl, ho3, hp3, hy3⟩; have HO3a := Lib.hid (And.intro ho3 (And.intro hp3 hy3)); clear ho3 hp3 hy3))
    all_goals
      have hG6 := HG6.out
      clear HG HBB HO5 HG6
      obtain ⟨⟨B6, hB61, hB62, hB63⟩, hp6, hy6⟩ := hG6
      rw [List.nil_append] at hB63
      obtain ⟨A6, c6, rfl, hA6⟩ := hB63.form
      have HP6 := Lib.hid (And.intro hB63 (And.intro (H3.out.1.only hy6 (by omega)) (And.intro (H3.out.2.1.only hy6 (by omega)) (And.intro hp6 (ext_only H3.out.2.2.1 hy6 (by omega)))))); clear hB61 hB62 hB63 hp6 hy6 hA6
      go_wp2_with fail
      have ho6 := HP6.out.1
      have ho2' := HP6.out.2.1
      simp only [List.length_append] at ho6 ho2'
      have HO := Lib.hid (And.intro ho2' ho6); clear ho6 ho2'
      refine (SameA_of (l1 ++ l2) _ _ _ _ _ HO.out.1 HO.out.2 HR.out.2.2.2.2.2.1 (by rw [List.length_append]; omega)).mono ?_
      rintro e w7 ⟨rfl, hx7⟩
      have HQ := Lib.hid (And.intro (HP6.out.2.2.1.ext hx7) (And.intro (HP6.out.2.2.2.1.ext hx7) (HP6.out.2.2.2.2.trans hx7))); clear hx7
      have hlenI : (l1.length : Int) + (l2.length : Int) ≤ (0 : Int) := by have := HR.out.2.2.2.2.2.2.1.2.2; omega
      go_wp2_with fail
      refine (Idle_of _ _ s2 HQ.out.1 HR.out.2.2.1.len).mono ?_
      rintro e w8 ⟨rfl, rfl⟩
      go_wp2_with fail
      refine (Idle_of _ _ s2 HQ.out.2.1 HR.out.2.2.1.len).mono ?_
      rintro e w9 ⟨rfl, rfl⟩
      generalize decide (s2.st = 0) = I
      go_wp2
      go_ret
      exact ⟨rfl, H1.out.trans HQ.out.2.2⟩
  · have hdrop := h4.dropE hL hc k hkL
    have HD := Lib.hid hdrop; clear hdrop h4
    by_cases hck : c = k
    · have hLk : L = k := by omega
      have hd2 : x.drop k = [] := List.drop_eq_nil_of_le (by omega)
      subst hck
      subst hLk
      have hD0 : IsRunes W2 (.slice (some ⟨g, off, none⟩) 0 0) (x.drop L) := by
        rw [hd2]
        exact ⟨_, 0, rfl, ⟨Nat.le_refl _, fun e => by cases e⟩, fun i n h => by cases h⟩
      have HD := Lib.hid hD0; clear hD0 hd2
      go_wp2_with fail
      refine (Feed_of _ W2.heap.size .new _ x H2.out.1 (ok_innE 0 (by decide) (by decide)) (H2.out.2.2.2.1.ext H2.out.2.2.1) (H2.out.2.2.2.1.beside (Nat.le_refl _)) (by omega)).mono ?_
      rintro e w2 ⟨v2, rfl, ho2, hp2, hy2⟩
      rw [HR.out.1] at ho2 hp2
      obtain ⟨A2, c2, rfl, hA2⟩ := ho2.form
      rw [World.size_alloc, World.size_alloc] at ho2
      have hb2 := H2.out.2.1.only hy2 (by omega)
      have hlt2 : W2.heap.size + 1 < w2.heap.size := hb2.lt
      have hx2 : Ext W2 w2 := ext_only H2.out.2.2.1 hy2 (Nat.le_refl _)
      have F1 : ∀ V, Ext w2 V → Calls Try.prog 15 #[.pointer (some ⟨W2.heap.size + 1, 0, none⟩), .slice (some ⟨g, off, none⟩) L L] V fun e w' => ∃ v, e = .returned v ∧ (OwnA w' V.heap.size v l1 ∧ ParAt w' (W2.heap.size + 1) s1 ∧ Only (W2.heap.size + 1) V w') := fun V hV => by
        have hF := Feed_of V (W2.heap.size + 1) .new _ (x.take L) (hb2.ext hV) (ok_innE 0 (by decide) (by decide)) (H2.out.2.2.2.2.1.ext (hx2.trans hV)) (H2.out.2.2.2.2.1.beside (by omega)) (by rw [List.length_take]; omega)
        rw [HR.out.2.2.2.2.2.2.2.1, HR.out.2.2.2.2.2.2.2.2.1] at hF
        exact hF
      have F2 : ∀ V, Ext W2 V → ParAt V (W2.heap.size + 1) s1 → Calls Try.prog 15 #[.pointer (some ⟨W2.heap.size + 1, 0, none⟩), .slice (some ⟨g, off, none⟩) 0 0] V fun e w' => ∃ v, e = .returned v ∧ (OwnA w' V.heap.size v l2 ∧ ParAt w' (W2.heap.size + 1) s2 ∧ Only (W2.heap.size + 1) V w') := fun V hV hp => by
        have hF := Feed_of V (W2.heap.size + 1) s1 _ (x.drop L) hp HR.out.2.1 (HD.out.ext hV) (HD.out.beside (by omega)) (by rw [List.length_drop]; omega)
        rw [HR.out.2.2.2.2.2.2.2.2.2.1, HR.out.2.2.2.2.2.2.2.2.2.2] at hF
        exact hF
      have HF := Lib.hid (And.intro F1 F2); clear F1 F2
      have H3 := Lib.hid (And.intro ho2 (And.intro hp2 (And.intro hx2 (And.intro hlt2 hb2)))); clear ho2 hp2 hx2 hb2 hy2
      have hkI : (L : Int) ≤ (L : Int) := by omega
      have hkc : (L : Int) ≤ (L : Int) := by omega
      go_wp2_with fail
      have hGw : W2.heap.size + 1 < w2.heap.size := hlt2
      go_region_law (first
        | (have hqq := HO3a; clear hqq; have HO3 := HO3a; refine step_app_acts rfl (.tmp 36) (.tmp 41) rfl w2.heap.size (.slice (some ⟨w2.heap.size, 0, none⟩) 0 0) [] rfl (((own_none0 w2).ext ((Ext.refl _).drew)).only HO3.out.2.2 (by omega)) _ v3 l1 rfl HO3.out.1 HR.out.2.2.2.1 (by simp) (by omega) (by have := HO3.out.2.2.size; simp at this; omega) ?_; intro v4 w4 happ; have HG := Lib.hid (Going.app hGw (Nat.le_refl _) (by have := HO3.out.2.2.size; simp at this; omega) (((own_none0 w2).ext ((Ext.refl _).drew)).only HO3.out.2.2 (by omega)) HO3.out.2.1 ((Only.of_ext (((Ext.refl w2).alloc _).drew)).trans HO3.out.2.2) happ); obtain ⟨B, hB1, hB2, hB3⟩ := HG.out.own; have HBB := Lib.hid (And.intro hB1 (And.intro hB2 hB3)); clear happ hB1 hB2 hB3)
        | (have hqq := HO3b; clear hqq; have HO3 := HO3b; refine step_app_acts rfl (.tmp 36) (.tmp 41) rfl w3.heap.size (.slice (some ⟨w3.heap.size, 0, none⟩) 0 0) [] rfl (own_none0 w3) _ v3 l1 rfl (HO3.out.1.ext ((Ext.refl _).alloc _)) HR.out.2.2.2.1 (by simp) (by omega) (by simp) ?_; intro v4 w4 happ; have HG := Lib.hid (Going.app hGw (by have := HO3.out.2.2.size; exact this) (by simp) (own_none0 w3) (HO3.out.2.1.ext ((Ext.refl _).alloc _)) (((Only.of_ext ((Ext.refl w2).drew)).trans HO3.out.2.2).ext ((Ext.refl _).alloc _)) happ); obtain ⟨B, hB1, hB2, hB3⟩ := HG.out.own; have HBB := Lib.hid (And.intro hB1 (And.intro hB2 hB3)); clear happ hB1 hB2 hB3)
        | (have hqq := HO5; clear hqq; refine step_app_acts rfl (.tmp 42) (.tmp 47) rfl B v4 ([] ++ l1) rfl (HBB.out.2.2.only HO5.out.2.2 (by have := HBB.out.1; omega)) _ v5 l2 rfl HO5.out.1 HR.out.2.2.2.2.1 (by simp; omega) (by omega) (by have := HBB.out.2.1; have := HO5.out.2.2.size; omega) ?_; intro v6 w6 happ; have HG6 := Lib.hid (Going.app hGw HBB.out.1 (by have := HBB.out.2.1; have := HO5.out.2.2.size; omega) (HBB.out.2.2.only HO5.out.2.2 (by have := HBB.out.1; omega)) HO5.out.2.1 (HG.out.only.trans HO5.out.2.2) happ); clear happ)
        | (go_simp; go_at_call_of 15 (Value.slice (some ⟨g, off, none⟩) L L); refine (HF.out.1 _ ((Ext.refl _).drew)).mono ?_; rintro e w3 ⟨v3, rfl, ho3, hp3, hy3⟩; have HO3b := Lib.hid (And.intro ho3 (And.intro hp3 hy3)); clear ho3 hp3 hy3)
        | (go_simp; go_at_call_of 15 (Value.slice (some ⟨g, off, none⟩) L L); refine (HF.out.1 _ (((Ext.refl _).alloc _).drew)).mono ?_; rintro e w3 ⟨v3, rfl, ho3, hp3, hy3⟩; have HO3a := Lib.hid (And.intro ho3 (And.intro hp3 hy3)); clear ho3 hp3 hy3)
        | (go_simp; go_at_call_of 15 (Value.slice (some ⟨g, off, none⟩) 0 0); refine (HF.out.2 _ (ext_only H3.out.2.2.1 HG.out.only (by omega)) HG.out.par).mono ?_; rintro e w5 ⟨v5, rfl, ho5, hp5, hy5⟩; have HO5 := Lib.hid (And.intro ho5 (And.intro hp5 hy5)); clear ho5 hp5 hy5))
      all_goals
        have hG6 := HG6.out
        clear HG HBB HO5 HG6
        obtain ⟨⟨B6, hB61, hB62, hB63⟩, hp6, hy6⟩ := hG6
        rw [List.nil_append] at hB63
        obtain ⟨A6, c6, rfl, hA6⟩ := hB63.form
        have HP6 := Lib.hid (And.intro hB63 (And.intro (H3.out.1.only hy6 (by omega)) (And.intro (H3.out.2.1.only hy6 (by omega)) (And.intro hp6 (ext_only H3.out.2.2.1 hy6 (by omega)))))); clear hB61 hB62 hB63 hp6 hy6 hA6
        go_wp2_with fail
        have ho6 := HP6.out.1
        have ho2' := HP6.out.2.1
        simp only [List.length_append] at ho6 ho2'
        have HO := Lib.hid (And.intro ho2' ho6); clear ho6 ho2'
        refine (SameA_of (l1 ++ l2) _ _ _ _ _ HO.out.1 HO.out.2 HR.out.2.2.2.2.2.1 (by rw [List.length_append]; omega)).mono ?_
        rintro e w7 ⟨rfl, hx7⟩
        have HQ := Lib.hid (And.intro (HP6.out.2.2.1.ext hx7) (And.intro (HP6.out.2.2.2.1.ext hx7) (HP6.out.2.2.2.2.trans hx7))); clear hx7
        have hlenI : (l1.length : Int) + (l2.length : Int) ≤ (L : Int) := by have := HR.out.2.2.2.2.2.2.1.2.2; omega
        go_wp2_with fail
        refine (Idle_of _ _ s2 HQ.out.1 HR.out.2.2.1.len).mono ?_
        rintro e w8 ⟨rfl, rfl⟩
        go_wp2_with fail
        refine (Idle_of _ _ s2 HQ.out.2.1 HR.out.2.2.1.len).mono ?_
        rintro e w9 ⟨rfl, rfl⟩
        generalize decide (s2.st = 0) = I
        go_wp2
        go_ret
        exact ⟨rfl, H1.out.trans HQ.out.2.2⟩
    · have hck2 : ¬ c = k := hck
      go_wp2_with fail
      refine (Feed_of _ W2.heap.size .new _ x H2.out.1 (ok_innE 0 (by decide) (by decide)) (H2.out.2.2.2.1.ext H2.out.2.2.1) (H2.out.2.2.2.1.beside (Nat.le_refl _)) (by omega)).mono ?_
      rintro e w2 ⟨v2, rfl, ho2, hp2, hy2⟩
      rw [HR.out.1] at ho2 hp2
      obtain ⟨A2, c2, rfl, hA2⟩ := ho2.form
      rw [World.size_alloc, World.size_alloc] at ho2
      have hb2 := H2.out.2.1.only hy2 (by omega)
      have hlt2 : W2.heap.size + 1 < w2.heap.size := hb2.lt
      have hx2 : Ext W2 w2 := ext_only H2.out.2.2.1 hy2 (Nat.le_refl _)
      have F1 : ∀ V, Ext w2 V → Calls Try.prog 15 #[.pointer (some ⟨W2.heap.size + 1, 0, none⟩), .slice (some ⟨g, off, none⟩) k c] V fun e w' => ∃ v, e = .returned v ∧ (OwnA w' V.heap.size v l1 ∧ ParAt w' (W2.heap.size + 1) s1 ∧ Only (W2.heap.size + 1) V w') := fun V hV => by
        have hF := Feed_of V (W2.heap.size + 1) .new _ (x.take k) (hb2.ext hV) (ok_innE 0 (by decide) (by decide)) (H2.out.2.2.2.2.1.ext (hx2.trans hV)) (H2.out.2.2.2.2.1.beside (by omega)) (by rw [List.length_take]; omega)
        rw [HR.out.2.2.2.2.2.2.2.1, HR.out.2.2.2.2.2.2.2.2.1] at hF
        exact hF
      have F2 : ∀ V, Ext W2 V → ParAt V (W2.heap.size + 1) s1 → Calls Try.prog 15 #[.pointer (some ⟨W2.heap.size + 1, 0, none⟩), .slice (some ⟨g, off + k, none⟩) (L - k) (c - k)] V fun e w' => ∃ v, e = .returned v ∧ (OwnA w' V.heap.size v l2 ∧ ParAt w' (W2.heap.size + 1) s2 ∧ Only (W2.heap.size + 1) V w') := fun V hV hp => by
        have hF := Feed_of V (W2.heap.size + 1) s1 _ (x.drop k) hp HR.out.2.1 (HD.out.ext hV) (HD.out.beside (by omega)) (by rw [List.length_drop]; omega)
        rw [HR.out.2.2.2.2.2.2.2.2.2.1, HR.out.2.2.2.2.2.2.2.2.2.2] at hF
        exact hF
      have HF := Lib.hid (And.intro F1 F2); clear F1 F2
      have H3 := Lib.hid (And.intro ho2 (And.intro hp2 (And.intro hx2 (And.intro hlt2 hb2)))); clear ho2 hp2 hx2 hb2 hy2
      have hkI : (k : Int) ≤ (L : Int) := by omega
      have hkc : (k : Int) ≤ (c : Int) := by omega
      go_wp2_with fail
      have hGw : W2.heap.size + 1 < w2.heap.size := hlt2
      go_region_law (first
        | (have hqq := HO3a; clear hqq; have HO3 := HO3a; refine step_app_acts rfl (.tmp 36) (.tmp 41) rfl w2.heap.size (.slice (some ⟨w2.heap.size, 0, none⟩) 0 0) [] rfl (((own_none0 w2).ext ((Ext.refl _).drew)).only HO3.out.2.2 (by omega)) _ v3 l1 rfl HO3.out.1 HR.out.2.2.2.1 (by simp) (by omega) (by have := HO3.out.2.2.size; simp at this; omega) ?_; intro v4 w4 happ; have HG := Lib.hid (Going.app hGw (Nat.le_refl _) (by have := HO3.out.2.2.size; simp at this; omega) (((own_none0 w2).ext ((Ext.refl _).drew)).only HO3.out.2.2 (by omega)) HO3.out.2.1 ((Only.of_ext (((Ext.refl w2).alloc _).drew)).trans HO3.out.2.2) happ); obtain ⟨B, hB1, hB2, hB3⟩ := HG.out.own; have HBB := Lib.hid (And.intro hB1 (And.intro hB2 hB3)); clear happ hB1 hB2 hB3)
        | (have hqq := HO3b; clear hqq; have HO3 := HO3b; refine step_app_acts rfl (.tmp 36) (.tmp 41) rfl w3.heap.size (.slice (some ⟨w3.heap.size, 0, none⟩) 0 0) [] rfl (own_none0 w3) _ v3 l1 rfl (HO3.out.1.ext ((Ext.refl _).alloc _)) HR.out.2.2.2.1 (by simp) (by omega) (by simp) ?_; intro v4 w4 happ; have HG := Lib.hid (Going.app hGw (by have := HO3.out.2.2.size; exact this) (by simp) (own_none0 w3) (HO3.out.2.1.ext ((Ext.refl _).alloc _)) (((Only.of_ext ((Ext.refl w2).drew)).trans HO3.out.2.2).ext ((Ext.refl _).alloc _)) happ); obtain ⟨B, hB1, hB2, hB3⟩ := HG.out.own; have HBB := Lib.hid (And.intro hB1 (And.intro hB2 hB3)); clear happ hB1 hB2 hB3)
        | (have hqq := HO5; clear hqq; refine step_app_acts rfl (.tmp 42) (.tmp 47) rfl B v4 ([] ++ l1) rfl (HBB.out.2.2.only HO5.out.2.2 (by have := HBB.out.1; omega)) _ v5 l2 rfl HO5.out.1 HR.out.2.2.2.2.1 (by simp; omega) (by omega) (by have := HBB.out.2.1; have := HO5.out.2.2.size; omega) ?_; intro v6 w6 happ; have HG6 := Lib.hid (Going.app hGw HBB.out.1 (by have := HBB.out.2.1; have := HO5.out.2.2.size; omega) (HBB.out.2.2.only HO5.out.2.2 (by have := HBB.out.1; omega)) HO5.out.2.1 (HG.out.only.trans HO5.out.2.2) happ); clear happ)
        | (go_simp; go_at_call_of 15 (Value.slice (some ⟨g, off, none⟩) k c); refine (HF.out.1 _ ((Ext.refl _).drew)).mono ?_; rintro e w3 ⟨v3, rfl, ho3, hp3, hy3⟩; have HO3b := Lib.hid (And.intro ho3 (And.intro hp3 hy3)); clear ho3 hp3 hy3)
        | (go_simp; go_at_call_of 15 (Value.slice (some ⟨g, off, none⟩) k c); refine (HF.out.1 _ (((Ext.refl _).alloc _).drew)).mono ?_; rintro e w3 ⟨v3, rfl, ho3, hp3, hy3⟩; have HO3a := Lib.hid (And.intro ho3 (And.intro hp3 hy3)); clear ho3 hp3 hy3)
        | (go_simp; go_at_call_of 15 (Value.slice (some ⟨g, off + k, none⟩) (L - k) (c - k)); refine (HF.out.2 _ (ext_only H3.out.2.2.1 HG.out.only (by omega)) HG.out.par).mono ?_; rintro e w5 ⟨v5, rfl, ho5, hp5, hy5⟩; have HO5 := Lib.hid (And.intro ho5 (And.intro hp5 hy5)); clear ho5 hp5 hy5))
      all_goals
        have hG6 := HG6.out
        clear HG HBB HO5 HG6
        obtain ⟨⟨B6, hB61, hB62, hB63⟩, hp6, hy6⟩ := hG6
        rw [List.nil_append] at hB63
        obtain ⟨A6, c6, rfl, hA6⟩ := hB63.form
        have HP6 := Lib.hid (And.intro hB63 (And.intro (H3.out.1.only hy6 (by omega)) (And.intro (H3.out.2.1.only hy6 (by omega)) (And.intro hp6 (ext_only H3.out.2.2.1 hy6 (by omega)))))); clear hB61 hB62 hB63 hp6 hy6 hA6
        go_wp2_with fail
        have ho6 := HP6.out.1
        have ho2' := HP6.out.2.1
        simp only [List.length_append] at ho6 ho2'
        have HO := Lib.hid (And.intro ho2' ho6); clear ho6 ho2'
        refine (SameA_of (l1 ++ l2) _ _ _ _ _ HO.out.1 HO.out.2 HR.out.2.2.2.2.2.1 (by rw [List.length_append]; omega)).mono ?_
        rintro e w7 ⟨rfl, hx7⟩
        have HQ := Lib.hid (And.intro (HP6.out.2.2.1.ext hx7) (And.intro (HP6.out.2.2.2.1.ext hx7) (HP6.out.2.2.2.2.trans hx7))); clear hx7
        have hlenI : (l1.length : Int) + (l2.length : Int) ≤ (L : Int) := by have := HR.out.2.2.2.2.2.2.1.2.2; omega
        go_wp2_with fail
        refine (Idle_of _ _ s2 HQ.out.1 HR.out.2.2.1.len).mono ?_
        rintro e w8 ⟨rfl, rfl⟩
        go_wp2_with fail
        refine (Idle_of _ _ s2 HQ.out.2.1 HR.out.2.2.1.len).mono ?_
        rintro e w9 ⟨rfl, rfl⟩
        generalize decide (s2.st = 0) = I
        go_wp2
        go_ret
        exact ⟨rfl, H1.out.trans HQ.out.2.2⟩
  · have hD0 : IsRunes W2 (.slice A 0 c) (x.drop 0) := by
      rw [List.drop_zero]; exact h4
    have HD := Lib.hid hD0; clear hD0
    cases A with
    | none => exact absurd rfl hAn
    | some ad =>
    obtain ⟨g, off, sp⟩ := ad
    go_wp2_with fail
    refine (Feed_of _ W2.heap.size .new _ x H2.out.1 (ok_innE 0 (by decide) (by decide)) (H2.out.2.2.2.1.ext H2.out.2.2.1) (H2.out.2.2.2.1.beside (Nat.le_refl _)) (by omega)).mono ?_
    rintro e w2 ⟨v2, rfl, ho2, hp2, hy2⟩
    rw [HR.out.1] at ho2 hp2
    obtain ⟨A2, c2, rfl, hA2⟩ := ho2.form
    rw [World.size_alloc, World.size_alloc] at ho2
    have hb2 := H2.out.2.1.only hy2 (by omega)
    have hlt2 : W2.heap.size + 1 < w2.heap.size := hb2.lt
    have hx2 : Ext W2 w2 := ext_only H2.out.2.2.1 hy2 (Nat.le_refl _)
    have F1 : ∀ V, Ext w2 V → Calls Try.prog 15 #[.pointer (some ⟨W2.heap.size + 1, 0, none⟩), .slice (some ⟨g, off, sp⟩) 0 c] V fun e w' => ∃ v, e = .returned v ∧ (OwnA w' V.heap.size v l1 ∧ ParAt w' (W2.heap.size + 1) s1 ∧ Only (W2.heap.size + 1) V w') := fun V hV => by
      have hF := Feed_of V (W2.heap.size + 1) .new _ (x.take 0) (hb2.ext hV) (ok_innE 0 (by decide) (by decide)) (H2.out.2.2.2.2.1.ext (hx2.trans hV)) (H2.out.2.2.2.2.1.beside (by omega)) (by rw [List.length_take]; omega)
      rw [HR.out.2.2.2.2.2.2.2.1, HR.out.2.2.2.2.2.2.2.2.1] at hF
      exact hF
    have F2 : ∀ V, Ext W2 V → ParAt V (W2.heap.size + 1) s1 → Calls Try.prog 15 #[.pointer (some ⟨W2.heap.size + 1, 0, none⟩), .slice (some ⟨g, off, sp⟩) 0 c] V fun e w' => ∃ v, e = .returned v ∧ (OwnA w' V.heap.size v l2 ∧ ParAt w' (W2.heap.size + 1) s2 ∧ Only (W2.heap.size + 1) V w') := fun V hV hp => by
      have hF := Feed_of V (W2.heap.size + 1) s1 _ (x.drop 0) hp HR.out.2.1 (HD.out.ext hV) (HD.out.beside (by omega)) (by rw [List.length_drop]; omega)
      rw [HR.out.2.2.2.2.2.2.2.2.2.1, HR.out.2.2.2.2.2.2.2.2.2.2] at hF
      exact hF
    have HF := Lib.hid (And.intro F1 F2); clear F1 F2
    have H3 := Lib.hid (And.intro ho2 (And.intro hp2 (And.intro hx2 (And.intro hlt2 hb2)))); clear ho2 hp2 hx2 hb2 hy2
    have hkI : (0 : Int) ≤ (0 : Int) := by omega
    have hkc : (0 : Int) ≤ (c : Int) := by omega
    go_wp2_with fail
    have hGw : W2.heap.size + 1 < w2.heap.size := hlt2
    go_region_law (first
      | (have hqq := HO3a; clear hqq; have HO3 := HO3a; refine step_app_acts rfl (.tmp 36) (.tmp 41) rfl w2.heap.size (.slice (some ⟨w2.heap.size, 0, none⟩) 0 0) [] rfl (((own_none0 w2).ext ((Ext.refl _).drew)).only HO3.out.2.2 (by omega)) _ v3 l1 rfl HO3.out.1 HR.out.2.2.2.1 (by simp) (by omega) (by have := HO3.out.2.2.size; simp at this; omega) ?_; intro v4 w4 happ; have HG := Lib.hid (Going.app hGw (Nat.le_refl _) (by have := HO3.out.2.2.size; simp at this; omega) (((own_none0 w2).ext ((Ext.refl _).drew)).only HO3.out.2.2 (by omega)) HO3.out.2.1 ((Only.of_ext (((Ext.refl w2).alloc _).drew)).trans HO3.out.2.2) happ); obtain ⟨B, hB1, hB2, hB3⟩ := HG.out.own; have HBB := Lib.hid (And.intro hB1 (And.intro hB2 hB3)); clear happ hB1 hB2 hB3)
      | (have hqq := HO3b; clear hqq; have HO3 := HO3b; refine step_app_acts rfl (.tmp 36) (.tmp 41) rfl w3.heap.size (.slice (some ⟨w3.heap.size, 0, none⟩) 0 0) [] rfl (own_none0 w3) _ v3 l1 rfl (HO3.out.1.ext ((Ext.refl _).alloc _)) HR.out.2.2.2.1 (by simp) (by omega) (by simp) ?_; intro v4 w4 happ; have HG := Lib.hid (Going.app hGw (by have := HO3.out.2.2.size; exact this) (by simp) (own_none0 w3) (HO3.out.2.1.ext ((Ext.refl _).alloc _)) (((Only.of_ext ((Ext.refl w2).drew)).trans HO3.out.2.2).ext ((Ext.refl _).alloc _)) happ); obtain ⟨B, hB1, hB2, hB3⟩ := HG.out.own; have HBB := Lib.hid (And.intro hB1 (And.intro hB2 hB3)); clear happ hB1 hB2 hB3)
      | (have hqq := HO5; clear hqq; refine step_app_acts rfl (.tmp 42) (.tmp 47) rfl B v4 ([] ++ l1) rfl (HBB.out.2.2.only HO5.out.2.2 (by have := HBB.out.1; omega)) _ v5 l2 rfl HO5.out.1 HR.out.2.2.2.2.1 (by simp; omega) (by omega) (by have := HBB.out.2.1; have := HO5.out.2.2.size; omega) ?_; intro v6 w6 happ; have HG6 := Lib.hid (Going.app hGw HBB.out.1 (by have := HBB.out.2.1; have := HO5.out.2.2.size; omega) (HBB.out.2.2.only HO5.out.2.2 (by have := HBB.out.1; omega)) HO5.out.2.1 (HG.out.only.trans HO5.out.2.2) happ); clear happ)
      | (have hqq := HG; clear hqq; go_simp; go_at_call_of 15 (Value.slice (some ⟨g, off, sp⟩) 0 c); refine (HF.out.2 _ (ext_only H3.out.2.2.1 HG.out.only (by omega)) HG.out.par).mono ?_; rintro e w5 ⟨v5, rfl, ho5, hp5, hy5⟩; have HO5 := Lib.hid (And.intro ho5 (And.intro hp5 hy5)); clear ho5 hp5 hy5)
      | (go_simp; go_at_call_of 15 (Value.slice (some ⟨g, off, sp⟩) 0 c); refine (HF.out.1 _ ((Ext.refl _).drew)).mono ?_; rintro e w3 ⟨v3, rfl, ho3, hp3, hy3⟩; have HO3b := Lib.hid (And.intro ho3 (And.intro hp3 hy3)); clear ho3 hp3 hy3)
      | (go_simp; go_at_call_of 15 (Value.slice (some ⟨g, off, sp⟩) 0 c); refine (HF.out.1 _ (((Ext.refl _).alloc _).drew)).mono ?_; rintro e w3 ⟨v3, rfl, ho3, hp3, hy3⟩; have HO3a := Lib.hid (And.intro ho3 (And.intro hp3 hy3)); clear ho3 hp3 hy3))
    all_goals
      have hG6 := HG6.out
      clear HG HBB HO5 HG6
      obtain ⟨⟨B6, hB61, hB62, hB63⟩, hp6, hy6⟩ := hG6
      rw [List.nil_append] at hB63
      obtain ⟨A6, c6, rfl, hA6⟩ := hB63.form
      have HP6 := Lib.hid (And.intro hB63 (And.intro (H3.out.1.only hy6 (by omega)) (And.intro (H3.out.2.1.only hy6 (by omega)) (And.intro hp6 (ext_only H3.out.2.2.1 hy6 (by omega)))))); clear hB61 hB62 hB63 hp6 hy6 hA6
      go_wp2_with fail
      have ho6 := HP6.out.1
      have ho2' := HP6.out.2.1
      simp only [List.length_append] at ho6 ho2'
      have HO := Lib.hid (And.intro ho2' ho6); clear ho6 ho2'
      refine (SameA_of (l1 ++ l2) _ _ _ _ _ HO.out.1 HO.out.2 HR.out.2.2.2.2.2.1 (by rw [List.length_append]; omega)).mono ?_
      rintro e w7 ⟨rfl, hx7⟩
      have HQ := Lib.hid (And.intro (HP6.out.2.2.1.ext hx7) (And.intro (HP6.out.2.2.2.1.ext hx7) (HP6.out.2.2.2.2.trans hx7))); clear hx7
      have hlenI : (l1.length : Int) + (l2.length : Int) ≤ (0 : Int) := by have := HR.out.2.2.2.2.2.2.1.2.2; omega
      go_wp2_with fail
      refine (Idle_of _ _ s2 HQ.out.1 HR.out.2.2.1.len).mono ?_
      rintro e w8 ⟨rfl, rfl⟩
      go_wp2_with fail
      refine (Idle_of _ _ s2 HQ.out.2.1 HR.out.2.2.1.len).mono ?_
      rintro e w9 ⟨rfl, rfl⟩
      generalize decide (s2.st = 0) = I
      go_wp2
      go_ret
      exact ⟨rfl, H1.out.trans HQ.out.2.2⟩
end Go.Proofs.Ytmppbmbhnoaggab
