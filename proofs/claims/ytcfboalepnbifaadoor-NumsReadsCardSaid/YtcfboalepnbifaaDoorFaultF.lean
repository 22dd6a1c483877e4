/- errors.Is(err, api.Errno) at a fault: is it one of its codes? -/
import Derived.Test.YtcfboalepnbifaaDoorFaultC
import Derived.Test.YtcfboalepnbifaaDoorIsFacts
namespace Go.Proofs.YtcfboalepnbifaaDoor
open Go Go.RowKit Go.Extern
attribute [local go_sem] eqlEE eqlPE eqlWE eqlRE methodComparable callComparableE callTypeOf typeOfE
attribute [local go_sem] ta_E_Is ta_E_U1 ta_E_UN ta_P_Is ta_P_U1 ta_P_UN ta_W_Is ta_W_U1 ta_W_UN ta_R_Is ta_R_U1 ta_R_UN unwrapP unwrapW unwrapR

theorem hasAny_take (c : Int) : ∀ (ts : List Tr) (i : Nat) (t : Tr), ts[i]? = some t → hasAny c (ts.take (i + 1)) = (hasAny c (ts.take i) || t.has c)
  | [], i, t, h => by simp at h
  | s :: ts, 0, t, h => by simp at h; subst h; simp [hasAny]
  | s :: ts, i + 1, t, h => by
    have := hasAny_take c ts i t (by simpa using h)
    simp only [List.take_succ_cons, hasAny] at this ⊢
    rw [this, Bool.or_assoc]
theorem hasAny_mem (c : Int) : ∀ (ts : List Tr) (i : Nat) (t : Tr), ts[i]? = some t → t.has c = true → hasAny c ts = true
  | [], i, t, h, _ => by simp at h
  | s :: ts, 0, t, h, ht => by simp at h; subst h; simp [hasAny, ht]
  | s :: ts, i + 1, t, h, ht => by simp [hasAny, hasAny_mem c ts i t (by simpa using h) ht]
set_option maxHeartbeats 4000000 in
set_option maxRecDepth 100000 in
theorem is_loop (d : Int) (n : Nat) (ih : ∀ (m : Nat) (t : Tr) (v : Value) (w : World), m < n → t.sz ≤ m → Rep w t v →
      Calls Tryd.prog 49 #[v, .iface 28 (.int .i64 d), .bool true] w fun e w' => e = .returned (.bool (t.has d)) ∧ Ext w w')
    (t : Tr) (v : Value) (w : World) (hn : t.sz ≤ n) (hr : Rep w t v) :
      Calls Tryd.prog 49 #[v, .iface 28 (.int .i64 d), .bool true] w fun e w' => e = .returned (.bool (t.has d)) ∧ Ext w w' := by
  have IH := Lib.hid ih; clear ih
  go_enter Tryd.func49, Tryd.ntmps49
  go_wp2
  go_loopg [0] t.sz (fun k p wr => ∃ t' : Tr, Rep wr t' p ∧ t'.has d = t.has d ∧ t'.sz ≤ k ∧ t'.sz ≤ t.sz ∧ Ext w wr)
  case atStart => exact ⟨t, hr, rfl, Nat.le_refl _, Nat.le_refl _, Ext.refl _⟩
  case round =>
    obtain ⟨t', hr', hc, hk, hle, hx⟩ := hrel
    have HC := Lib.hid hc; clear hc
    have HK := Lib.hid (And.intro hk hle); clear hk hle
    clear hr
    cases t' with
    | code c =>
      obtain ⟨rfl, hc0, hc1, hc2⟩ := hr'
      clear hc0 hc1 hc2
      by_cases hcd : c = d
      · subst hcd
        go_wp2
        go_ret
        exact ⟨by rw [← HC.out]; simp [Tr.has], hx⟩
      · have hd : decide (c = d) = false := by simpa using hcd
        have HD := Lib.hid hcd; clear hcd
        go_wp2
        go_ret
        exact ⟨by rw [← HC.out]; simp [Tr.has, HD.out], hx⟩
    | place p t1 =>
      obtain ⟨u, x, rfl, _, h1⟩ := hr'
      go_wp2_with (go_at_call 72; refine (placed_Unwrap _ _ _ _ _).mono ?_; rintro e w2 ⟨rfl, hx2⟩)
      go_roundg t1.sz
      case measure => have := HK.out.1; simp only [Tr.sz] at this; omega
      case rel => exact ⟨t1, h1.ext hx2, HC.out, Nat.le_refl _, by have := HK.out.2; simp only [Tr.sz] at this; omega, hx.trans hx2⟩
    | word s t1 =>
      obtain ⟨u, x, rfl, h1⟩ := hr'
      go_wp2_with (go_at_call 74; refine (worded_Unwrap _ _ _ _ _).mono ?_; rintro e w2 ⟨rfl, hx2⟩)
      go_roundg t1.sz
      case measure => have := HK.out.1; simp only [Tr.sz] at this; omega
      case rel => exact ⟨t1, h1.ext hx2, HC.out, Nat.le_refl _, by have := HK.out.2; simp only [Tr.sz] at this; omega, hx.trans hx2⟩
    | row ts =>
      obtain ⟨r, b, off, cap, rfl, h0, h1, h2, h3, h4, hall⟩ := hr'
      have H0 := Lib.hid (And.intro h0 (And.intro h1 (And.intro h2 (And.intro h3 hall)))); clear h0 h1 h2 h3 h4 hall
      go_wp2_with (go_at_call 76; refine (row_Unwrap r b off cap ts _ H0.out.1 (by have := H0.out.2.2.1; omega) H0.out.2.2.2.1 H0.out.2.2.2.2).mono ?_; rintro e w2 ⟨g, cap', rfl, hx2, hall2⟩)
      have HR := Lib.hid hall2; clear hall2
      have hb : ts.length ≤ 1000000 := H0.out.2.2.2.1
      go_wp2
      go_loopg [45] ts.length (fun k p wq => ∃ i : Nat, i + k = ts.length ∧ p = .int .i64 i ∧ Ext w2 wq ∧ Hid (hasAny d (ts.take i) = false))
      case atStart => exact ⟨0, by omega, rfl, Ext.refl _, rfl⟩
      case round =>
        obtain ⟨i, hik, rfl, hxq, hno⟩ := hrel
        have HI := Lib.hid hik; clear hik
        have hi1 : i ≤ ts.length := by have := HI.out; omega
        by_cases hlt : i < ts.length
        · obtain ⟨ti, hti⟩ : ∃ ti, ts[i]? = some ti := ⟨ts[i], List.getElem?_eq_getElem hlt⟩
          obtain ⟨u, x, hcell, hrep⟩ := RepAll.at HR.out hti
          rw [Nat.zero_add] at hcell
          have hcell' := hxq.cell hcell
          have HT := Lib.hid (And.intro hti (hrep.ext hxq)); clear hti hrep hcell
          by_cases hh : ti.has d = true
          · have HH := Lib.hid hh; clear hh
            go_wp2_with (go_at_call 49; go_loud (refine (IH.out ti.sz ti _ _ ?_ (Nat.le_refl _) HT.out.2).mono ?_))
            · have h1 := HK.out.2; have h2 := sz_mem _ _ _ HT.out.1; simp only [Tr.sz] at h1; omega
            rw [HH.out]
            rintro e w3 ⟨rfl, hx3⟩
            go_wp2
            go_ret
            exact ⟨by rw [← HC.out]; simp only [Tr.has]; rw [hasAny_mem d ts i ti HT.out.1 HH.out]; rfl, ((hx.trans hx2).trans hxq).trans hx3⟩
          · have HH := Lib.hid (Bool.eq_false_iff.2 hh); clear hh
            go_wp2_with (go_at_call 49; go_loud (refine (IH.out ti.sz ti _ _ ?_ (Nat.le_refl _) HT.out.2).mono ?_))
            · have h1 := HK.out.2; have h2 := sz_mem _ _ _ HT.out.1; simp only [Tr.sz] at h1; omega
            rw [HH.out]
            rintro e w3 ⟨rfl, hx3⟩
            go_wp2
            go_roundg (gk - 1)
            case measure => have := HI.out; omega
            case rel => exact ⟨i + 1, by have := HI.out; omega, by go_num, hxq.trans hx3, by show _ = _; rw [hasAny_take d ts i ti HT.out.1, hno.out, HH.out]; rfl⟩
        · have hie : i = ts.length := by omega
          have HE := Lib.hid hie; clear hie
          go_wp2
          go_ret
          refine ⟨?_, (hx.trans hx2).trans hxq⟩
          have := hno.out
          rw [HE.out, List.take_length] at this
          rw [← HC.out]; simp only [Tr.has]; rw [this]; rfl
end Go.Proofs.YtcfboalepnbifaaDoor
