/- The law CellMakes, walked. -/
import Derived.Test.YtckdchkegbdiaaaDoorAwakeC
import Derived.Test.YtckdchkegbdiaaaDoorMake
import Derived.Test.YtckdchkegbdiaaaDoorTextC
import Derived.Deep.RegionWith
namespace Go.Proofs.YtckdchkegbdiaaaDoor
open Go Go.RowKit

/-- The characters that take a place; all their cells. -/
def wideL (l : List Int) : List Int := l.filter fun r => decide (0 < widthL r)
def makesL (l : List Int) (p : Cel) : List Cel := l.flatMap fun r => makeL r p
theorem width_cases (r : Int) (h : isI32 r) : widthL r = 0 ∨ widthL r = 1 ∨ widthL r = 2 := by
  rw [widthL_eq r h]
  unfold widthR
  split
  · exact .inl rfl
  · split
    · exact .inr (.inr rfl)
    · exact .inr (.inl rfl)
theorem make_check1 (r : Int) (p : Cel) (hp : p.ok) (h : widthL r = 1) : (Cel.mk r p.f p.b (p.a % 64)).plain = true := by
  have h4 := hp.2.2.2
  unfold isU8 at h4
  unfold Cel.plain Cel.check Cel.wide Cel.tl
  have e1 : ¬ (p.a % 64 / 128 = 1) := by omega
  have e2 : ¬ (p.a % 64 / 64 % 2 = 1) := by omega
  simp [e1, e2, h]
theorem make_check2 (r : Int) (p : Cel) (hp : p.ok) (h : widthL r = 2) : (Cel.mk r p.f p.b (p.a % 64 + 64)).opens = true := by
  have h4 := hp.2.2.2
  unfold isU8 at h4
  unfold Cel.opens Cel.check Cel.wide Cel.tl
  have e1 : ¬ ((p.a % 64 + 64) / 128 = 1) := by omega
  have e2 : (p.a % 64 + 64) / 64 % 2 = 1 := by omega
  simp [e1, e2, h]
theorem make_len (r : Int) (p : Cel) (h : isI32 r) : ((makeL r p).length : Int) = widthL r := by
  rcases width_cases r h with h | h | h
  · rw [make_none p (by omega) (by omega), h]; rfl
  · rw [make_one p h, h]; rfl
  · rw [make_two p h, h]; rfl
theorem right_append : ∀ (n : Nat) (a b : List Cel), a.length ≤ n → rightL a = true → rightL (a ++ b) = rightL b := by
  intro n
  induction n with
  | zero => intro a b h _; obtain rfl := List.eq_nil_of_length_eq_zero (Nat.le_zero.1 h); rfl
  | succ n ih =>
    intro a b h hr
    match a, h, hr with
    | [], _, _ => rfl
    | [c], _, hr =>
      rw [rightL_one] at hr
      cases b with
      | nil => simp [rightL_one, rightL_nil, hr]
      | cons d b => simp [rightL_two, hr]
    | c :: d :: u, h, hr =>
      simp only [List.length_cons] at h
      rw [rightL_two] at hr
      show rightL (c :: d :: (u ++ b)) = _
      rw [rightL_two]
      split at hr
      · rename_i hp
        rw [if_pos hp]
        exact ih (d :: u) b (by simp only [List.length_cons]; omega) hr
      · rename_i hp
        simp only [Bool.and_eq_true] at hr
        rw [if_neg hp, hr.1.1, hr.1.2, ih u b (by omega) hr.2]
        rfl
theorem make_right (r : Int) (p : Cel) (hr : isI32 r) (hp : p.ok) : rightL (makeL r p) = true := by
  rcases width_cases r hr with h | h | h
  · rw [make_none p (by omega) (by omega)]; rfl
  · rw [make_one p h, rightL_one]; exact make_check1 r p hp h
  · rw [make_two p h, rightL_two, Cel.opens_plain (make_check2 r p hp h)]
    simp [make_check2 r p hp h, rightL_nil]
theorem make_ok (r : Int) (p : Cel) (hr : isI32 r) (hp : p.ok) : ∀ c, c ∈ makeL r p → c.ok := by
  intro c hc
  have h4 := hp.2.2.2
  unfold isU8 at h4
  unfold makeL at hc
  split at hc
  · obtain rfl := List.mem_singleton.1 hc
    exact ⟨hr, hp.2.1, hp.2.2.1, by unfold isU8; simp only; omega⟩
  · split at hc
    · have h2 : Cel.ok ⟨r, p.f, p.b, p.a % 64 + 64⟩ := ⟨hr, hp.2.1, hp.2.2.1, by unfold isU8; simp only; omega⟩
      rcases List.mem_cons.1 hc with rfl | hc
      · exact h2
      · obtain rfl := List.mem_singleton.1 hc
        exact Cel.ok_tail h2
    · cases hc
theorem make_chars (r : Int) (p : Cel) (hr : isI32 r) (hp : p.ok) : charsL (makeL r p) = if 0 < widthL r then [r] else [] := by
  rcases width_cases r hr with h | h | h
  · rw [make_none p (by omega) (by omega), h]; rfl
  · rw [make_one p h, h]
    have := make_check1 r p hp h
    unfold Cel.plain at this
    simp only [Bool.and_eq_true, Bool.not_eq_true'] at this
    rw [charsL_good this.1.1 this.2]; rfl
  · rw [make_two p h, h]
    have h1 := make_check2 r p hp h
    have h2 := Cel.opens_tl h1
    unfold Cel.opens at h1
    simp only [Bool.and_eq_true] at h1
    rw [show ∀ x y : Cel, [x, y] = [x] ++ [y] from fun _ _ => rfl, charsL_append, charsL_good h1.1 h2, charsL_tail (Cel.tail_check _) (Cel.tail_tl _)]; rfl
theorem makes_take (l : List Int) (p : Cel) (i : Nat) (r : Int) (h : l[i]? = some r) : makesL (l.take (i + 1)) p = makesL (l.take i) p ++ makeL r p := by
  unfold makesL
  rw [List.take_add_one, h, List.flatMap_append]
  simp
theorem wide_take (l : List Int) (i : Nat) (r : Int) (h : l[i]? = some r) : wideL (l.take (i + 1)) = wideL (l.take i) ++ (if 0 < widthL r then [r] else []) := by
  unfold wideL
  rw [List.take_add_one, h, List.filter_append]
  congr 1
  by_cases h2 : 0 < widthL r <;> simp [h2]
/-- What is true of all that was made. -/
theorem makes_all (p : Cel) (hp : p.ok) : ∀ (l : List Int), (∀ r, r ∈ l → isI32 r) → rightL (makesL l p) = true ∧ charsL (makesL l p) = wideL l ∧ (∀ c, c ∈ makesL l p → c.ok) ∧ (makesL l p).length ≤ 2 * l.length
  | [], _ => ⟨rfl, rfl, (fun c hc => by cases hc), Nat.le_refl _⟩
  | r :: l, h => by
    have hr := h r (List.mem_cons_self ..)
    obtain ⟨h1, h2, h3, h4⟩ := makes_all p hp l (fun x hx => h x (List.mem_cons_of_mem _ hx))
    have e : makesL (r :: l) p = makeL r p ++ makesL l p := rfl
    have h5 := make_len r p hr
    rw [e]
    refine ⟨?_, ?_, ?_, ?_⟩
    · rw [right_append _ _ _ (Nat.le_refl _) (make_right r p hr hp)]; exact h1
    · rw [charsL_append, make_chars r p hr hp, h2]
      unfold wideL
      by_cases h6 : 0 < widthL r <;> simp [h6]
    · intro c hc
      rcases List.mem_append.1 hc with hc | hc
      · exact make_ok r p hr hp c hc
      · exact h3 c hc
    · rw [List.length_append, List.length_cons]
      rcases width_cases r hr with h6 | h6 | h6 <;> omega
theorem own_apart {w : World} {b b' n n' z z' : Nat} {e e' : TypeId} {v v' : Value} {xs xs' : List Value} (h : w.ownsRow b e z v n xs) (h' : w.ownsRow b' e' z' v' n' xs') (he : e ≠ e') : v.ownBlock = none ∨ v.ownBlock ≠ v'.ownBlock := by
  rcases h.2 with ⟨rfl, _⟩ | ⟨g, cap, cur, rfl, _, hg, _⟩
  · exact .inl rfl
  · rcases h'.2 with ⟨rfl, _⟩ | ⟨g', cap', cur', rfl, _, hg', _⟩
    · exact .inr (by simp [Value.ownBlock])
    · refine .inr (fun e1 => ?_)
      have e2 : g = g' := by simpa [Value.ownBlock] using e1
      subst e2
      rw [hg] at hg'
      injection hg' with hg'
      injection hg' with _ e3 _
      exact he e3
theorem make_head (r : Int) (p : Cel) (h : 0 < (makeL r p).length) : ∃ x, (makeL r p)[0]? = some x ∧ x.r = r := by
  unfold makeL at h ⊢
  split
  · exact ⟨_, rfl, rfl⟩
  · rename_i h1
    rw [if_neg h1] at h
    split
    · exact ⟨_, rfl, rfl⟩
    · rename_i h2
      rw [if_neg h2] at h
      simp at h
theorem dot_width : widthL 46 = 1 := by decide
theorem encS_dot (zs : List Int) : encS (zs ++ [46]) = encS zs ++ ⟨#[46]⟩ := by
  apply ba_ext
  rw [bts_append, bts_encS, bts_encS, encL_append]
  rfl
set_option maxHeartbeats 8000000 in
set_option maxRecDepth 100000 in
theorem cellMakes_true (l : List Int) (v : Value) (p : Cel) (w : World) (hv : IsRunes w v l) (hm : l.length ≤ maxLen) (hp : p.ok) (hS : Spans w) :
    Calls Tryd.prog 7 #[v, p.val] w fun e w' => e = .returned (.bool true) ∧ Ext w w' := by
  have hm2 : l.length ≤ 9223372036854775807 := hm
  clear hm
  obtain ⟨A, c, rfl, hlc, hA⟩ := hv.form
  obtain ⟨pr, pf, pb, pa⟩ := p
  have hall := hv.all
  have H := Lib.hid (And.intro hv (And.intro hp (And.intro hS hall))); clear hv hp hS hall
  unfold Cel.val
  go_enter Tryd.func7, Tryd.ntmps7
  go_wp2_with fail
  refine (awakeC_true _ (H.out.2.2.1.ext ((Ext.refl w).alloc _))).mono ?_
  rintro e w0 ⟨rfl, hx0⟩
  have H0 := Lib.hid (And.intro (((Ext.refl w).alloc _).trans hx0) ((CelAt.new w ⟨pr, pf, pb, pa⟩).ext hx0)); clear hx0
  go_wp2_with fail
  obtain ⟨K, hK⟩ : ∃ K, K = min l.length 12 := ⟨_, rfl⟩
  have hKl : K ≤ l.length ∧ K ≤ 12 := by omega
  have HK := Lib.hid hK; clear hK
  go_loopg [6, 7, 8] K (fun k u6 u7 u8 wr => ∃ (i : Nat) (A6 : Option Addr) (c6 : Nat) (A7 : Option Addr) (c7 : Nat), u8 = .int .i64 i ∧ u6 = .slice A6 (makesL (l.take i) ⟨pr, pf, pb, pa⟩).length c6 ∧ u7 = .slice A7 (wideL (l.take i)).length c7 ∧
    Hid (i + k = K ∧ OwnC wr w0.heap.size (.slice A6 (makesL (l.take i) ⟨pr, pf, pb, pa⟩).length c6) (makesL (l.take i) ⟨pr, pf, pb, pa⟩) ∧ OwnR wr w0.heap.size (.slice A7 (wideL (l.take i)).length c7) (wideL (l.take i)) ∧ Ext w0 wr))
  case atStart => exact ⟨0, none, 0, none, 0, rfl, rfl, rfl, Nat.zero_add _, OwnC.nil _ _, OwnR.nil _ _, Ext.refl w0⟩
  case round =>
    obtain ⟨i, A6, c6, A7, c7, rfl, rfl, rfl, hin⟩ := hrel
    have hta := makes_all ⟨pr, pf, pb, pa⟩ H.out.2.1 (l.take i) (fun r hr => H.out.2.2.2 r (List.mem_of_mem_take hr))
    by_cases hi : i < K
    · have hi12 : i < 12 := by omega
      have hil : i < l.length := by omega
      obtain ⟨r, hr⟩ : ∃ r, l[i]? = some r := ⟨l[i]'hil, List.getElem?_eq_getElem _⟩
      obtain ⟨hr32, g, off, rfl, hcr⟩ := H.out.1.at hr
      have ht1 := makes_take l ⟨pr, pf, pb, pa⟩ i r hr
      have ht2 := wide_take l i r hr
      have hml := make_len r ⟨pr, pf, pb, pa⟩ hr32
      have hmr := make_right r ⟨pr, pf, pb, pa⟩ hr32 H.out.2.1
      have hmo := make_ok r ⟨pr, pf, pb, pa⟩ hr32 H.out.2.1
      have k0 := (H0.out.1.trans hin.out.2.2.2).cell hcr
      obtain ⟨q0, q1, q2, q3⟩ := (H0.out.2.ext hin.out.2.2.2).four0
      have hml2 : (makesL (l.take i) ⟨pr, pf, pb, pa⟩).length ≤ 24 := by
        have := hta.2.2.2
        rw [List.length_take] at this
        omega
      have hwl2 : (wideL (l.take i)).length ≤ 12 := by
        have h5 : (wideL (l.take i)).length ≤ (l.take i).length := List.length_filter_le _ _
        rw [List.length_take] at h5
        omega
      generalize makesL (l.take i) ⟨pr, pf, pb, pa⟩ = M at hin ht1 hta hml2 ⊢
      generalize wideL (l.take i) = U at hin ht2 hta hwl2 ⊢
      generalize hMn : M.length = Mn at hin hml2 ⊢
      generalize hUn : U.length = Un at hin hwl2 ⊢
      have HT := Lib.hid (And.intro ht1 (And.intro ht2 (And.intro hml (And.intro hmr (And.intro hmo (And.intro hr32 (And.intro hta (And.intro hMn (And.intro hUn hr))))))))); clear ht1 ht2 hml hmr hmo hr32 hta hMn hUn hr hcr
      go_wp2_with fail
      go_region_with (go_at_call 13; refine (Make_of r ⟨pr, pf, pb, pa⟩ _ HT.out.2.2.2.2.2.1 H.out.2.1 (H.out.2.2.1.ext ((H0.out.1.trans hin.out.2.2.2).drew))).mono ?_; rintro e w3 ⟨v3, rfl, ho3, hx3⟩; have HX3 := Lib.hid (And.intro ho3 hx3); have k3 := hx3.cell (w := wr.drew) k0; clear ho3 hx3)
      all_goals
        clear q0 q1 q2 q3 k0
        go_wp2_with fail
        refine (RefWidth_is r _ HT.out.2.2.2.2.2.1).mono ?_
        rintro e w4 ⟨rfl, rfl⟩
        have hhd := make_head r ⟨pr, pf, pb, pa⟩
        have hvv := HT.out.2.2.1
        have hw4 := (H0.out.1.trans hin.out.2.2.2).trans ((Ext.refl wr).drew.trans HX3.out.2)
        have ho4 := HX3.out.1
        have hi4 := HX3.out.1.isCells HT.out.2.2.2.2.1
        have hrt := HT.out.2.2.2.1
        have hm6 := hin.out.2.1.ext ((Ext.refl wr).drew.trans HX3.out.2)
        have hm7 := hin.out.2.2.1.ext ((Ext.refl wr).drew.trans HX3.out.2)
        have ht1 := HT.out.1
        have ht2 := HT.out.2.1
        have hmo := HT.out.2.2.2.2.1
        generalize makeL r ⟨pr, pf, pb, pa⟩ = X at hhd hvv ho4 hi4 hrt ht1 hmo
        obtain ⟨A3, c3, rfl, hXc, hA3⟩ := hi4.form
        rw [← hvv] at ht2 ⊢
        have hX24 : X.length ≤ 2 := by
          have := width_cases r HT.out.2.2.2.2.2.1
          omega
        generalize hXn : X.length = n at *
        have hZ : ∀ W, Ext w4 W → Calls Tryd.prog 29 #[.slice A3 n c3] W fun e w' => e = .returned (.bool true) ∧ Ext W w' := fun W hW => by
          have := Right_of X _ W (hi4.ext hW) ((H.out.2.2.1.ext hw4).ext hW) (by rw [hXn]; unfold maxLen; omega)
          rw [hrt] at this
          exact this
        have hnn : ((n : Int) != (n : Int)) = false := by simp
        have HZ := Lib.hid (And.intro hZ (And.intro hw4 (And.intro hi4 (And.intro hm6 (And.intro hm7 (And.intro ht1 (And.intro ht2 (And.intro hXn (And.intro ho4 hmo)))))))))
        have HVV := Lib.hid hvv
        clear hZ hw4 hrt hm6 hm7 ht1 ht2 hXn ho4 hvv hmo
        by_cases hn0 : 0 < n
        · have hd : decide ((0 : Int) < (n : Int)) = true := by simp; omega
          obtain ⟨x, hx, hxr⟩ := hhd hn0
          obtain ⟨g3, o3, rfl⟩ := hi4.addr (by rw [HZ.out.2.2.2.2.2.2.2.1]; exact hn0)
          have hcx := (hi4.at' hx).2.r
          rw [Nat.zero_mul, Nat.add_zero, hxr] at hcx
          have z0 : ∀ nn : In (Ext w4), nn.val.cell? ⟨g3, o3, none⟩ = some (.int .i32 r) := fun nn => nn.prop.cell hcx
          have z1 : ∀ nn : In (Ext w4), nn.val.cell? ⟨g, off + i, none⟩ = some (.int .i32 r) := fun nn => nn.prop.cell k3
          have hne : Nonempty (In (Ext w4)) := in_ext w4
          clear hcx hx hxr hi4 hhd
          go_wp2_with fail
          refine wp_region_class (Ext w4) (by kernel_rfl) (by kernel_rfl) (Ext.refl w4).drew ?_
          repeat (go_big_quiet_step (first
            | (go_at_call 29; exact quiet_ext (fun W hW => HZ.out.1 W hW) _)))
          refine wpQuiet_nil ?_
          rintro _ ⟨nn, rfl⟩
          have hp9 := nn.prop
          have h9 := And.intro (OwnC.ext HZ.out.2.2.2.2.2.2.2.2.1 hp9) (And.intro (HZ.out.2.2.2.1.ext hp9) (And.intro (HZ.out.2.2.2.2.1.ext hp9) ((Ext.trans (hin.out.2.2.2) ((Ext.refl wr).drew.trans HX3.out.2)).trans hp9)))
          generalize nn.val = w9 at h9 hp9 ⊢
          have k9 := hp9.cell k3
          have H9 := Lib.hid h9; clear h9 hp9 z0 z1 hne k3
          go_wp2_with (at_builtin; refine wpList_app_rune rfl _ _ rfl w0.heap.size (.slice A7 Un c7) U rfl (H9.out.2.2.1.ext ((Ext.refl w9).alloc _)) w9.heap.size r rfl (Lib.cell_of_heap (Go.heap_alloc_new w9 (.cells #[.int .i32 r] 21)) 0) (by have := HT.out.2.2.2.2.2.2.2.2.1; omega) (H9.out.2.2.2.alloc _).size ?_)
          intro v7 w5 hap
          obtain ⟨g7, cap7, rfl, _, _⟩ := World.ownsRow.form hap.own (by rw [List.length_append]; exact Nat.succ_pos _)
          have hx0 := (Ext.refl w9).alloc (.cells #[.int .i32 r] 21)
          have hx5 := ext_grown (H9.out.2.2.2.trans hx0) (H9.out.2.2.1.ext hx0) hap.grown (Nat.le_refl _)
          have hm5 := World.ownsRow.kept (H9.out.2.1.ext hx0) hap.grown (own_apart (H9.out.2.1.ext hx0) (H9.out.2.2.1.ext hx0) (by decide))
          have hX5 := World.ownsRow.kept (H9.out.1.ext hx0) hap.grown (own_apart (H9.out.1.ext hx0) (H9.out.2.2.1.ext hx0) (by decide))
          have hU5 := hap.own
          clear hx0 hap
          have hu5 := HZ.out.2.2.2.2.2.2.1
          rw [if_pos (by omega)] at hu5
          have H5 := Lib.hid (And.intro hm5 (And.intro hU5 (And.intro hX5 hx5))); clear hm5 hU5 hX5 hx5
          go_wp2_with (at_builtin; (refine wpList_app_cells rfl _ _ rfl w0.heap.size (.slice A6 Mn c6) M rfl H5.out.1 _ X rfl (OwnC.isCells H5.out.2.2.1 HZ.out.2.2.2.2.2.2.2.2.2) (by have := HT.out.2.2.2.2.2.2.2.1; omega) (by have := HZ.out.2.2.2.2.2.2.2.1; omega) H5.out.2.2.2.size ?_))
          intro v6 w6 hap6
          have hx6 := ext_grown4 H5.out.2.2.2 H5.out.1 hap6.grown (Nat.le_refl _)
          have hr6 := World.ownsRow.kept H5.out.2.1 hap6.grown (own_apart H5.out.2.1 H5.out.1 (by decide))
          obtain ⟨Af, cf, rfl, _⟩ := hap6.own.form
          have hown6 := hap6.own
          rw [← HZ.out.2.2.2.2.2.1] at hown6 ⊢
          have H6 := Lib.hid (And.intro hown6 (And.intro hr6 hx6)); clear hown6 hr6 hx6 hap6
          have hgk := hin.out.1
          go_wp2_with fail
          go_roundg (gk - 1)
          case measure => omega
          case rel => exact ⟨i + 1, Af, cf, some ⟨g7, 0, none⟩, cap7, by go_num, rfl, by rw [hu5]; simp, by show i + 1 + (gk - 1) = K; omega, H6.out.1, by rw [hu5]; exact H6.out.2.1, H6.out.2.2⟩
        · obtain rfl : n = 0 := by omega
          have hne : Nonempty (In (Ext w4)) := in_ext w4
          clear hi4 hhd
          go_wp2_with fail
          refine wp_region_class (Ext w4) (by kernel_rfl) (by kernel_rfl) (Ext.refl w4).drew ?_
          repeat (go_big_quiet_step (first
            | (go_at_call 29; exact quiet_ext (fun W hW => HZ.out.1 W hW) _)))
          refine wpQuiet_nil ?_
          rintro _ ⟨nn, rfl⟩
          have hp9 := nn.prop
          have h9 := And.intro (OwnC.ext HZ.out.2.2.2.2.2.2.2.2.1 hp9) (And.intro (HZ.out.2.2.2.1.ext hp9) (And.intro (HZ.out.2.2.2.2.1.ext hp9) ((Ext.trans (hin.out.2.2.2) ((Ext.refl wr).drew.trans HX3.out.2)).trans hp9)))
          generalize nn.val = w9 at h9 hp9 ⊢
          have k9 := hp9.cell k3
          have H9 := Lib.hid h9; clear h9 hp9 hne k3
          have hm5 := H9.out.2.1
          have hU5 := H9.out.2.2.1
          have hX5 := H9.out.1
          have hx5 := H9.out.2.2.2
          have hu5 := HZ.out.2.2.2.2.2.2.1
          rw [if_neg (by omega), List.append_nil] at hu5
          have H5 := Lib.hid (And.intro hm5 (And.intro hU5 (And.intro hX5 hx5))); clear hm5 hU5 hX5 hx5
          go_wp2_with (at_builtin; (refine wpList_app_cells rfl _ _ rfl w0.heap.size (.slice A6 Mn c6) M rfl H5.out.1 _ X rfl (OwnC.isCells H5.out.2.2.1 HZ.out.2.2.2.2.2.2.2.2.2) (by have := HT.out.2.2.2.2.2.2.2.1; omega) (by have := HZ.out.2.2.2.2.2.2.2.1; omega) H5.out.2.2.2.size ?_))
          intro v6 w6 hap6
          have hx6 := ext_grown4 H5.out.2.2.2 H5.out.1 hap6.grown (Nat.le_refl _)
          have hr6 := World.ownsRow.kept H5.out.2.1 hap6.grown (own_apart H5.out.2.1 H5.out.1 (by decide))
          obtain ⟨Af, cf, rfl, _⟩ := hap6.own.form
          have hown6 := hap6.own
          rw [← HZ.out.2.2.2.2.2.1] at hown6 ⊢
          have H6 := Lib.hid (And.intro hown6 (And.intro hr6 hx6)); clear hown6 hr6 hx6 hap6
          have hgk := hin.out.1
          go_wp2_with fail
          go_roundg (gk - 1)
          case measure => omega
          case rel => exact ⟨i + 1, Af, cf, A7, c7, by go_num, rfl, by rw [hu5, HT.out.2.2.2.2.2.2.2.2.1], by show i + 1 + (gk - 1) = K; omega, H6.out.1, by rw [hu5, HT.out.2.2.2.2.2.2.2.2.1]; exact H6.out.2.1, H6.out.2.2⟩
    · have hii : ¬ i < l.length ∨ (i < l.length ∧ ¬ (i : Int) < 12) := by have h5 := HK.out; omega
      have hs1 : ∀ P : Prop, (¬ i < l.length → P) → (i < l.length → ¬ (i : Int) < 12 → P) → P := fun P h1 h2 => hii.elim h1 (fun h => h2 h.1 h.2)
      clear hii
      apply hs1
      all_goals
        intros
        obtain ⟨q0, q1, q2, q3⟩ := (H0.out.2.ext hin.out.2.2.2).four0
        have hml2 : (makesL (l.take i) ⟨pr, pf, pb, pa⟩).length ≤ 24 := by
          have h5 := hta.2.2.2
          have h6 := hin.out.1
          rw [List.length_take] at h5
          omega
        have hwl2 : (wideL (l.take i)).length ≤ 12 := by
          have h5 : (wideL (l.take i)).length ≤ (l.take i).length := List.length_filter_le _ _
          have h6 := hin.out.1
          rw [List.length_take] at h5
          omega
        have hui : ∀ n, n ∈ wideL (l.take i) → isI32 n := fun n hn => H.out.2.2.2 n (List.mem_of_mem_take (List.mem_filter.1 hn).1)
        generalize makesL (l.take i) ⟨pr, pf, pb, pa⟩ = M at hin hta hml2 ⊢
        generalize wideL (l.take i) = U at hin hta hwl2 hui ⊢
        generalize hMn : M.length = Mn at hin hml2 ⊢
        generalize hUn : U.length = Un at hin hwl2 ⊢
        have HT := Lib.hid (And.intro hta (And.intro hMn (And.intro hUn hui))); clear hta hMn hUn hui
        go_wp2_with fail
        refine (Make_of 46 ⟨pr, pf, pb, pa⟩ _ (by unfold isI32; omega) H.out.2.1 (H.out.2.2.1.ext (H0.out.1.trans hin.out.2.2.2))).mono ?_
        rintro e w3 ⟨v3, rfl, ho3, hx3⟩
        clear q0 q1 q2 q3
        rw [make_one _ dot_width] at ho3
        have hdp := make_check1 46 ⟨pr, pf, pb, pa⟩ H.out.2.1 dot_width
        have hdo : Cel.ok ⟨46, pf, pb, pa % 64⟩ := by
          have := make_ok 46 ⟨pr, pf, pb, pa⟩ (by unfold isI32; omega) H.out.2.1
          rw [make_one _ dot_width] at this
          exact this _ (List.mem_singleton.2 rfl)
        simp only at ho3 hdp
        have hi3 := ho3.isCells (fun c hc => by rw [List.mem_singleton.1 hc]; exact hdo)
        obtain ⟨A3, c3, rfl, _, _⟩ := hi3.form
        have H3 := Lib.hid (And.intro hi3 (And.intro (hin.out.2.1.ext hx3) (And.intro (hin.out.2.2.1.ext hx3) (And.intro (hin.out.2.2.2.trans hx3) (And.intro hdp hdo))))); clear hi3 ho3 hx3 hdp hdo
        go_wp2_with (at_builtin; (refine wpList_app_cells rfl _ _ rfl w0.heap.size (.slice A6 Mn c6) M rfl H3.out.2.1 _ [⟨46, pf, pb, pa % 64⟩] rfl H3.out.1 (by have := HT.out.2.1; omega) (by simp) H3.out.2.2.2.1.size ?_))
        intro v6 w6 hap6
        have hx6 := ext_grown4 H3.out.2.2.2.1 H3.out.2.1 hap6.grown (Nat.le_refl _)
        have hr6 : OwnR w6 w0.heap.size (.slice A7 Un c7) U := World.ownsRow.kept H3.out.2.2.1 hap6.grown (own_apart H3.out.2.2.1 H3.out.2.1 (by decide))
        have hi6 := hap6.own.isCells (fun c hc => by
          rcases List.mem_append.1 hc with hc | hc
          · exact HT.out.1.2.2.1 c hc
          · rw [List.mem_singleton.1 hc]; exact H3.out.2.2.2.2.2)
        have hrt : rightL (M ++ [⟨46, pf, pb, pa % 64⟩]) = true := by
          rw [right_append _ _ _ (Nat.le_refl _) HT.out.1.1, rightL_one]; exact H3.out.2.2.2.2.1
        have hch : stripL (charsL (M ++ [⟨46, pf, pb, pa % 64⟩])) = U ++ [46] := by
          have h1 := H3.out.2.2.2.2.1
          unfold Cel.plain at h1
          simp only [Bool.and_eq_true, Bool.not_eq_true'] at h1
          rw [charsL_append, HT.out.1.2.1, charsL_good h1.1.1 h1.2, stripL_stop _ _ (show (46 : Int) ≠ 32 by decide)]
        have hll : (M ++ [(⟨46, pf, pb, pa % 64⟩ : Cel)]).length ≤ 25 := by rw [List.length_append, HT.out.2.1]; simp; omega
        obtain ⟨Af, cf, rfl, _⟩ := hap6.own.form
        generalize (M ++ [(⟨46, pf, pb, pa % 64⟩ : Cel)]) = X at hi6 hrt hch hll ⊢
        have hru := hr6.isRunes HT.out.2.2.2
        have H6 := Lib.hid (And.intro hi6 (And.intro hru (And.intro hx6 (And.intro hrt (And.intro hch hll))))); clear hi6 hru hr6 hx6 hrt hch hap6 hll
        go_wp2_with fail
        refine (Right_of X _ _ H6.out.1 ((H.out.2.2.1.ext H0.out.1).ext H6.out.2.2.1) (by have := H6.out.2.2.2.2.2; unfold maxLen; omega)).mono ?_
        rintro e w7 ⟨rfl, hx7⟩
        rw [H6.out.2.2.2.1]
        have H7 := Lib.hid (And.intro (H6.out.1.ext hx7) (And.intro (H6.out.2.1.ext hx7) (H6.out.2.2.1.trans hx7))); clear hx7
        go_wp2_with fail
        refine (TextC_of X _ _ H7.out.1 ((H.out.2.2.1.ext H0.out.1).ext H7.out.2.2) (by have := H6.out.2.2.2.2.2; omega)).mono ?_
        rintro e w8 ⟨rfl, hx8⟩
        rw [H6.out.2.2.2.2.1, encS_dot]
        have H8 := Lib.hid (And.intro (H7.out.2.1.ext hx8) (H7.out.2.2.trans hx8)); clear hx8
        have hes := encS_size U
        rw [HT.out.2.2.1] at hes
        have hru8 := H8.out.1
        go_wp2_with fail
        refine (RefEncode_runes U _ _ H8.out.1 (by rw [HT.out.2.2.1]; omega)).mono ?_
        rintro e w9 ⟨rfl, hx9⟩
        clear hru8
        generalize encS U = E at hes ⊢
        have H9 := Lib.hid (H0.out.1.trans (H8.out.2.trans hx9)); clear hx9
        have hes2 : E.size ≤ 48 := by omega
        go_wp2_with fail
        go_ret
        exact ⟨by simp, H9.out⟩
end Go.Proofs.YtckdchkegbdiaaaDoor
