/- The law FaultRows, walked. -/
import Derived.Test.YtlcnicgjlddldaaDoorTold
import Derived.Deep.RegionHeld3
import Derived.Deep.CutRange
namespace Go.Proofs.YtlcnicgjlddldaaDoor
open Go Go.RowKit

/-! What a row of rows tells. -/
def codeL : List Tr → Int
  | [] => 0
  | t :: _ => t.codeOf
def hasL (c : Int) (l : List Tr) : Bool := if l = [] then decide (c = 0) else hasAny c l
theorem codeU_joined (us : List (Option Tr)) : codeU (joined us) = codeL (somes us) := by
  unfold joined
  split
  · rename_i h; rw [h]; rfl
  · rename_i t h; rw [h]; rfl
  · rename_i l h1 h2
    cases hl : somes us with
    | nil => exact absurd hl h1
    | cons t ts => show (Tr.row (t :: ts)).codeOf = t.codeOf; rw [Tr.codeOf, codeFirst]
theorem hasU_joined (c : Int) (us : List (Option Tr)) : hasU c (joined us) = hasL c (somes us) := by
  unfold joined
  split
  · rename_i h; rw [h]; rfl
  · rename_i t h
    rw [h]
    show t.has c = if [t] = [] then _ else hasAny c [t]
    rw [if_neg (by simp), hasAny, hasAny, Bool.or_false]
  · rename_i l h1 h2
    have hne : somes us ≠ [] := h1
    unfold hasL
    rw [if_neg hne]
    show (Tr.row (somes us)).has c = _
    rw [Tr.has]
theorem textO_joined (us : List (Option Tr)) : textO (joined us) = textAll true (somes us) := by
  unfold joined
  split
  · rename_i h; rw [h]; simp [textO, textAll]
  · rename_i t h
    rw [h]
    show t.text = textAll true [t]
    rw [textAll, textAll]; simp
  · show (Tr.row (somes us)).text = _
    rw [Tr.text]
theorem joined_cases (us : List (Option Tr)) : (somes us = [] ∧ joined us = none) ∨ (somes us ≠ [] ∧ ∃ t, joined us = some t ∧ t.codeOf = codeL (somes us) ∧ (∀ c, t.has c = hasAny c (somes us)) ∧ t.text = textAll true (somes us)) := by
  by_cases h : somes us = []
  · exact .inl ⟨h, by unfold joined; rw [h]⟩
  · refine .inr ⟨h, ?_⟩
    have h1 := codeU_joined us
    have h2 := fun c => hasU_joined c us
    have h3 := textO_joined us
    cases hj : joined us with
    | none =>
      unfold joined at hj
      split at hj
      · rename_i h0; exact absurd h0 h
      · cases hj
      · cases hj
    | some t =>
      rw [hj] at h1 h2 h3
      refine ⟨t, rfl, h1, fun c => ?_, h3⟩
      have := h2 c
      unfold hasL at this
      rw [if_neg h] at this
      exact this
theorem codeL_append (a b : List Tr) (h : a ≠ []) : codeL (a ++ b) = codeL a := by
  cases a with
  | nil => exact absurd rfl h
  | cons t ts => rfl
theorem hasAny_append (c : Int) : ∀ (a b : List Tr), hasAny c (a ++ b) = (hasAny c a || hasAny c b)
  | [], b => by simp [hasAny]
  | t :: a, b => by rw [List.cons_append, hasAny, hasAny_append c a b, hasAny, Bool.or_assoc]
theorem textAll_false : ∀ (b : List Tr), b ≠ [] → textAll false b = [59, 32] ++ textAll true b
  | [], h => absurd rfl h
  | t :: ts, _ => by rw [textAll, textAll]; simp
theorem textAll_append (f : Bool) : ∀ (a b : List Tr), a ≠ [] → textAll f (a ++ b) = textAll f a ++ textAll false b
  | [], b, h => absurd rfl h
  | [t], b, _ => by rw [List.singleton_append, textAll, textAll, textAll]; simp
  | t :: u :: a, b, _ => by
    have ih := textAll_append false (u :: a) b (by simp)
    rw [List.cons_append, show textAll f (t :: (u :: a ++ b)) = (if f then [] else [59, 32]) ++ t.text ++ textAll false (u :: a ++ b) from by rw [textAll], ih, show textAll f (t :: u :: a) = (if f then [] else [59, 32]) ++ t.text ++ textAll false (u :: a) from by rw [textAll]]
    simp only [List.append_assoc]
/-- Rows in a row are as good as one of all. -/
theorem rows_told (A B : List (Option Tr)) : codeU (joined [joined A, joined B]) = codeL (somes (A ++ B)) ∧ (∀ c, hasU c (joined [joined A, joined B]) = hasL c (somes (A ++ B))) ∧ textO (joined [joined A, joined B]) = textAll true (somes (A ++ B)) := by
  rw [somes_append, codeU_joined, textO_joined]
  simp only [hasU_joined]
  rcases joined_cases A with ⟨a0, a1⟩ | ⟨a0, t, a1, a2, a3, a4⟩
  · rcases joined_cases B with ⟨b0, b1⟩ | ⟨b0, u, b1, b2, b3, b4⟩
    · rw [a0, a1, b0, b1]; exact ⟨rfl, fun c => rfl, rfl⟩
    · rw [a0, a1, b1, List.nil_append]
      refine ⟨b2, fun c => ?_, ?_⟩
      · show hasL c [u] = _
        unfold hasL
        rw [if_neg (by simp), if_neg b0, hasAny, hasAny, Bool.or_false, b3]
      · show textAll true [u] = _
        rw [textAll, textAll, b4]; simp
  · rcases joined_cases B with ⟨b0, b1⟩ | ⟨b0, u, b1, b2, b3, b4⟩
    · rw [a1, b0, b1, List.append_nil]
      refine ⟨a2, fun c => ?_, ?_⟩
      · show hasL c [t] = _
        unfold hasL
        rw [if_neg (by simp), if_neg a0, hasAny, hasAny, Bool.or_false, a3]
      · show textAll true [t] = _
        rw [textAll, textAll, a4]; simp
    · rw [a1, b1]
      refine ⟨?_, fun c => ?_, ?_⟩
      · rw [codeL_append _ _ a0]; exact a2
      · show hasL c [t, u] = _
        unfold hasL
        rw [if_neg (by simp), if_neg (by simp [a0]), hasAny, hasAny, hasAny, Bool.or_false, a3, b3, hasAny_append]
      · show textAll true [t, u] = _
        rw [textAll_append true _ _ a0, textAll_false _ b0, textAll, textAll, textAll, a4, b4]; simp
theorem list_both {w3 w5 : World} (hx : Ext w3 w5) {A : Option Addr} {c : Nat} {us us' : List (Option Tr)} {vs vs' : List Value} {S S' : Nat → Prop} {B : Nat} {T : TypeId} (h1 : RepsA S w3 us vs) (h2 : RepsA S' w3 us' vs') (hl1 : vs.length = us.length) (hl2 : vs'.length = us'.length)
    (hown : w5.ownsRow B T 1 (.slice A (us.length + us'.length) c) (us.length + us'.length) (vs.take us.length ++ vs'.take us'.length)) : ListRep w5 (.slice A (us.length + us'.length) c) (us ++ us') := by
  rcases Nat.eq_zero_or_pos (us.length + us'.length) with h0 | hp
  · refine .inl ⟨List.eq_nil_of_length_eq_zero (by rw [List.length_append]; exact h0), A, c, by rw [h0]⟩
  · obtain ⟨g, rfl⟩ := own_some hown hp
    refine .inr ⟨g, 0, c, by rw [List.length_append], fun j t hj => ?_⟩
    rw [← hl1, List.take_length, ← hl2, List.take_length] at hown
    have hc := fun u (hu : (vs ++ vs')[j]? = some u) => (congrArg w5.cell? (show (⟨g, 0, none⟩ : Addr).add j = ⟨g, j, none⟩ by unfold Addr.add; split <;> simp_all)).symm.trans (World.ownsRow.cells hown (g := g) rfl j u hu)
    rw [Nat.zero_add]
    by_cases hlt : j < us.length
    · rw [List.getElem?_append_left hlt] at hj
      obtain ⟨v, hv, hr⟩ := h1 j t hj
      exact ⟨v, hc v (by rw [List.getElem?_append_left (by omega)]; exact hv), hr.rep.ext hx⟩
    · rw [List.getElem?_append_right (by omega)] at hj
      obtain ⟨v, hv, hr⟩ := h2 _ t hj
      exact ⟨v, hc v (by rw [List.getElem?_append_right (by omega), hl1]; exact hv), hr.rep.ext hx⟩
theorem list_at {w : World} {A : Option Addr} {M c i : Nat} {L : List (Option Tr)} (h : ListRep w (.slice A M c) L) (hi : i < L.length) : ∃ b off, A = some ⟨b, off, none⟩ ∧ Errs w b off L := by
  rcases h with ⟨h0, _⟩ | ⟨b, off, cap, e, h⟩
  · rw [h0] at hi; simp at hi
  · injection e with e1 e2 e3
    exact ⟨b, off, e1, h⟩
theorem rows_step {h m h' : Bool} {f f' code : Int} {T T' : List Tr} {t : Tr} {c : Int} (hinv : h = hasAny code T ∧ f = codeL T ∧ (m = true ↔ T ≠ [])) (hT : T' = T ++ [t]) (hc : c = codeU (some t)) (hf : f' = if m then f else c) (hh : h' = (h || hasU code (some t))) :
    h' = hasAny code T' ∧ f' = codeL T' ∧ (true = true ↔ T' ≠ []) := by
  obtain ⟨h1, h2, h3⟩ := hinv
  subst hT hh hf
  refine ⟨?_, ?_, by simp⟩
  · rw [h1, hasAny_append, hasAny, hasAny, Bool.or_false]; rfl
  · cases m
    · have : T = [] := by
        cases T with
        | nil => rfl
        | cons a l => exact absurd (h3.2 (by simp)) (by simp)
      rw [this, hc]; rfl
    · rw [codeL_append _ _ (h3.1 rfl), ← h2]; rfl
theorem RepO.forms {w : World} {t : Option Tr} {v : Value} (h : RepO w t v) : v = .nilIface ∨ ∃ u x, v = .iface u x := by
  cases t with
  | none => exact .inl h
  | some t => exact .inr (Rep.form h)
set_option maxHeartbeats 4000000 in
set_option maxRecDepth 100000 in
theorem rows_true (x y : Value) (code : Int) (w : World) (hx : IsScript w x) (hy : IsScript w y) (hp : Pow10 w) (hg : ErrType w) :
    Calls Tryd.prog 5 #[x, y, .int .i64 code] w fun e w' => e = .returned (.bool true) ∧ Ext w w' := by
  have HS := Lib.hid (And.intro hp (And.intro hg (And.intro hx hy))); clear hp hg hx hy
  obtain ⟨j0, hj, hy0, hy1, hy2⟩ := info_parts infoError
  have HJ := Lib.hid (And.intro hj (And.intro hy0 (And.intro hy1 hy2))); clear hj hy0 hy1 hy2
  go_enter Tryd.func5, Tryd.ntmps5
  go_wp2_with fail
  refine (awake_true _ HS.out.1).mono ?_
  rintro e w1 ⟨rfl, hx1⟩
  have HX1 := Lib.hid hx1; clear hx1
  go_wp2_with fail
  refine (built_any x w1 (HS.out.2.2.1.ext HX1.out)).mono ?_
  rintro e w2 ⟨ga, ca, gb, cb, us, vs, cs, rfl, HB⟩
  have HX2 := Lib.hid (HX1.out.trans HB.out.piles.below)
  go_wp2_with fail
  refine (built_any y w2 (HS.out.2.2.2.ext HX2.out)).mono ?_
  rintro e w3 ⟨ga', ca', gb', cb', us', vs', cs', rfl, HB'⟩
  have HX3 := Lib.hid (HX2.out.trans HB'.out.piles.below)
  have hul : us.length ≤ 30 := HB.out.len
  have hul' : us'.length ≤ 30 := HB'.out.len
  have HA := Lib.hid (HB.out.piles.ext HB'.out.piles.below)
  have HLN : Hid ((vs.take us.length).length = us.length * 1 ∧ ∀ u ∈ vs.take us.length, u.oneCell' = true) := ⟨by rw [List.length_take]; have := HA.out.owna.1; omega, fun u hu => HA.out.repa.ones (by have := HA.out.owna.1; omega) u (List.mem_of_mem_take hu)⟩
  have HLN' : Hid ((vs'.take us'.length).length = us'.length * 1 ∧ ∀ u ∈ vs'.take us'.length, u.oneCell' = true) := ⟨by rw [List.length_take]; have := HB'.out.piles.owna.1; omega, fun u hu => HB'.out.piles.repa.ones (by have := HB'.out.piles.owna.1; omega) u (List.mem_of_mem_take hu)⟩
  go_wp2_with (at_builtin; go_loud (refine wpList_append_opt rfl _ _ 24 rfl w3.heap.size 31 j0 .nilIface 1 16 Tryd.underlying24 HJ.out.1 HJ.out.2.1 HJ.out.2.2.1 HJ.out.2.2.2 rfl (by decide) _ 0 [] rfl (World.ownsRow_lit w3 #[] 0 (Nat.le_refl _) (by decide) rfl) ga us.length ca (vs.take us.length) rfl (fun h => own_none HA.out.owna h) HLN.out.1 (own_take (HA.out.owna.alloc _) us.length) HLN.out.2 (by unfold maxLen; omega) (by omega) (by simp) ?g2))
  case g2 =>
    intro v1 w4 hown1 hg1
    have hx4 : Ext w3 w4 := ext_app ((Ext.refl w3).alloc _) hg1 (lit_ge (Nat.le_refl _))
    have HX4 := Lib.hid (And.intro hx4 hown1)
    clear hx4 hown1 hg1
    go_wp2_with (at_builtin; go_loud (refine wpList_append_opt rfl _ _ 24 rfl w3.heap.size 31 j0 .nilIface 1 16 Tryd.underlying24 HJ.out.1 HJ.out.2.1 HJ.out.2.2.1 HJ.out.2.2.2 rfl (by decide) v1 us.length (vs.take us.length) rfl HX4.out.2 ga' us'.length ca' (vs'.take us'.length) rfl (fun h => own_none HB'.out.piles.owna h) HLN'.out.1 (own_take (HB'.out.piles.ext HX4.out.1).owna us'.length) HLN'.out.2 (by unfold maxLen; omega) (by omega) HX4.out.1.size ?g3))
    case g3 =>
      intro v2 w5 hown2 hg2
      have hx5 : Ext w3 w5 := ext_app HX4.out.1 hg2 (fun j ej => (HX4.out.2.lt j ej).1)
      obtain ⟨A, cv, rfl⟩ := XownsRow_form hown2
      have HL := Lib.hid (list_both hx5 HA.out.repa HB'.out.piles.repa (by have := HA.out.owna.1; omega) (by have := HB'.out.piles.owna.1; omega) hown2)
      have hlen : us.length + us'.length = (us ++ us').length := by rw [List.length_append]
      have hgood : Goods (us ++ us') := fun t ht => by
        rcases List.mem_append.1 ht with h | h
        · exact HB.out.good t h
        · exact HB'.out.good t h
      have htext : tsum (us ++ us') ≤ 4000 := by rw [tsum_append]; have := HB.out.text; have := HB'.out.text; omega
      have HX5 := Lib.hid hx5
      have HT := rows_told us us'
      generalize us ++ us' = L at HL hlen hgood htext HT
      obtain ⟨M, hM⟩ : ∃ M, us.length + us'.length = M := ⟨_, rfl⟩
      rw [hM] at HL hlen
      have hM60 : M ≤ 60 := by omega
      have HM := Lib.hid hlen.symm
      replace HT := Lib.hid HT
      have HG := Lib.hid (And.intro hgood htext); clear hgood htext hown2 hg2 hx5 HX4 HLN HLN' hlen
      rw [hM]
      clear hM
      go_wp2_with fail
      refine (Join_rep L _ _ HL.out (by rw [HM.out]; omega)).mono ?_
      rintro e w6 ⟨vr, rfl, hr, hx6⟩
      have H6 := Lib.hid (And.intro hr (HX5.out.trans hx6)); clear hr
      have HL6 := Lib.hid (HL.out.ext hx6); clear hx6
      go_upto_region 6 with fail
      go_cut [14] from 38 to 43 (fun sv wx => Hid (RepO wx (joined [joined us, joined us']) sv ∧ Ext w6 wx))
      case first =>
        go_wp2_with fail
        refine (Join_bj HB.out (Ext.trans (b := w3) HB'.out.piles.below H6.out.2)).mono ?_
        rintro e w7 ⟨vp, rfl, hvp, hx7⟩
        have HP7 := Lib.hid (And.intro hvp.rep hx7); clear hvp hx7
        go_wp2_with fail
        refine (Join_bj HB'.out (H6.out.2.trans HP7.out.2)).mono ?_
        rintro e w8 ⟨vq, rfl, hvq, hx8⟩
        have HQ8 := Lib.hid (And.intro hvq.rep hx8); clear hvq hx8
        have HPO := Lib.hid (RepO.ext HQ8.out.2 HP7.out.1)
        rcases RepO.forms HP7.out.1 with h1 | ⟨u1, x1, h1⟩ <;> rcases RepO.forms HQ8.out.1 with h2 | ⟨u2, x2, h2⟩
        all_goals
          subst h1 h2
          go_wp2_with fail
          refine (Join_two (joined us) (joined us') _ _ _ w8.heap.size (RepO.ext ((Ext.refl w8).alloc _) HPO.out) (RepO.ext ((Ext.refl w8).alloc _) HQ8.out.1) (by rw [Lib.cell_of_heap (Go.heap_alloc_new _ _)]; rfl) (by rw [Lib.cell_of_heap (Go.heap_alloc_new _ _)]; rfl)).mono ?_
          rintro e w9 ⟨vt, rfl, hvt, hx9⟩
          have HT9 := Lib.hid (And.intro hvt (((HP7.out.2.trans HQ8.out.2).alloc _).trans hx9)); clear hvt hx9
          go_wp2_with fail
          go_meet
          case rel => exact HT9.out
      case rest =>
        obtain ⟨wy, hwy⟩ : ∃ wy, wy = wc := ⟨_, rfl⟩
        subst hwy
        have HSV := Lib.hid hcut.out; clear hcut
        go_wp2_with fail
        go_loopg [15, 16, 17, 18] M (fun k hv fv mv c wr => ∃ (i : Nat) (h : Bool) (f : Int) (m : Bool), Hid (i + k = M) ∧ hv = .bool h ∧ fv = .int .i64 f ∧ mv = .bool m ∧ c = .int .i64 i ∧ Hid (h = hasAny code (somes (L.take i)) ∧ f = codeL (somes (L.take i)) ∧ (m = true ↔ somes (L.take i) ≠ [])) ∧ Hid (Ext wy wr))
        case atStart => exact ⟨0, false, 0, false, Nat.zero_add _, rfl, rfl, rfl, rfl, ⟨by simp [somes, hasAny], by simp [somes, codeL], by simp [somes]⟩, Ext.refl _⟩
        case round =>
          obtain ⟨i, h, f, m, hi, rfl, rfl, rfl, rfl, hinv, hwr⟩ := hrel
          by_cases hlt : i < M
          · have hiL : i < L.length := by rw [HM.out]; exact hlt
            obtain ⟨u, hu⟩ : ∃ u, L[i]? = some u := ⟨L[i], List.getElem?_eq_getElem hiL⟩
            obtain ⟨b, off, rfl, hE⟩ := list_at HL6.out hiL
            clear hiL
            obtain ⟨v, hc, hv⟩ := hE i u hu
            have E6 : Ext w6 wr := HSV.out.2.trans hwr.out
            have kr := E6.cell hc
            have hst := somes_take L i u hu
            have hgd : ∀ t, u = some t → t.good := HG.out.1.at hu
            have HV := Lib.hid (And.intro (RepO.ext E6 hv) (And.intro hst (And.intro hgd (And.intro E6 hc)))); clear hu hc hv hst hgd E6 hE
            rcases u with _ | t
            · obtain rfl : v = .nilIface := HV.out.1
              go_wp2_with fail
              refine (Code_nil wr).mono ?_
              rintro e wn ⟨rfl, hxn⟩
              have HN := Lib.hid (hwr.out.trans hxn); clear hxn kr
              go_wp2
              go_roundg (gk - 1)
              case measure => have := hi.out; omega
              case rel =>
                refine ⟨i + 1, h, f, m, ?_, rfl, rfl, rfl, by go_num, ?_, HN.out⟩
                · show i + 1 + (gk - 1) = M
                  have := hi.out; omega
                · have e1 : somes (L.take (i + 1)) = somes (L.take i) := by rw [HV.out.2.1]; simp [somes]
                  rw [e1]; exact hinv.out
            · have hgt : t.good := HV.out.2.2.1 t rfl
              go_wp2_with fail
              refine (Code_O (some t) v wr ((HS.out.2.1.ext HX3.out).ext ((H6.out.2.trans HSV.out.2).trans hwr.out)) HV.out.1).mono ?_
              rintro e wn ⟨rfl, hxn⟩
              have kn := hxn.cell kr
              have HN := Lib.hid hxn; clear hxn kr
              have hc0 : codeU (some t) ≠ 0 := good_code_ne hgt
              have hcb : (codeU (some t) == 0) = false := by simpa using hc0
              have e1 : somes (L.take (i + 1)) = somes (L.take i) ++ [t] := by rw [HV.out.2.1]; simp [somes]
              have HE1 := Lib.hid (And.intro e1 hgt); clear e1 hgt hc0
              generalize hcc : codeU (some t) = c at hcb ⊢
              have HCC := Lib.hid hcc; clear hcc
              cases m <;> cases h
              all_goals
                have HI := hinv.out
                have HI' := Lib.hid HI; clear HI
                go_wp2_with fail
                first
                  | (refine (Is_O (some t) v code wn (RepO.ext HN.out HV.out.1)).mono ?_
                     rintro e wq ⟨rfl, hxq⟩
                     have HQ := Lib.hid ((hwr.out.trans HN.out).trans hxq); clear hxq kn
                     go_wp2
                     go_roundg (gk - 1)
                     case measure => have := hi.out; omega
                     case rel =>
                       have HI2 := HI'.out
                       refine ⟨i + 1, _, _, true, ?_, rfl, rfl, rfl, by go_num, ?_, HQ.out⟩
                       · show i + 1 + (gk - 1) = M
                         have := hi.out; omega
                       · (first | exact rows_step (m := true) (h := false) (by simpa using HI2) HE1.out.1 HCC.out.symm rfl rfl | exact rows_step (m := false) (h := false) (by simpa using HI2) HE1.out.1 HCC.out.symm rfl rfl))
                  | (go_roundg (gk - 1)
                     case measure => have := hi.out; omega
                     case rel =>
                       have HI2 := HI'.out
                       refine ⟨i + 1, _, _, true, ?_, rfl, rfl, rfl, by go_num, ?_, hwr.out.trans HN.out⟩
                       · show i + 1 + (gk - 1) = M
                         have := hi.out; omega
                       · (first | exact rows_step (m := true) (h := true) (by simpa using HI2) HE1.out.1 HCC.out.symm rfl rfl | exact rows_step (m := false) (h := true) (by simpa using HI2) HE1.out.1 HCC.out.symm rfl rfl))
          · have hil : L.take i = L := List.take_of_length_le (by have := hi.out; have := HM.out; omega)
            rw [hil] at hinv
            have E3 : Ext w wr := HX3.out.trans ((H6.out.2.trans HSV.out.2).trans hwr.out)
            have HR := Lib.hid (RepO.ext (HSV.out.2.trans hwr.out) H6.out.1)
            have HSO := Lib.hid (RepO.ext hwr.out HSV.out.1)
            have h1 := codeU_joined L
            have h2 := hasU_joined code L
            have h3 := textO_joined L
            have HTL := Lib.hid (And.intro h1 (And.intro h2 h3)); clear h1 h2 h3 hil
            have HE3 := Lib.hid E3; clear E3
            cases m
            · have hT0 : somes L = [] := by
                rcases hn : somes L with _ | ⟨a, l⟩
                · rfl
                · exact absurd (hinv.out.2.2.2 (by rw [hn]; simp)) (by simp)
              have hj0 : joined L = none := by unfold joined; rw [hT0]
              have HJ0 := Lib.hid hj0; clear hT0 hj0
              obtain rfl : vr = .nilIface := by have := HR.out; rw [HJ0.out] at this; exact this
              go_wp2_with fail
              refine (Code_nil _).mono ?_
              rintro e wa ⟨rfl, hxa⟩
              go_wp2_with fail
              refine (Text_O none .nilIface _ rfl ((HS.out.1.ext HE3.out).ext hxa) (by decide)).mono ?_
              rintro e wb ⟨rfl, hxb⟩
              have hcd : (decide (code = 0) == (code == 0)) = true := by by_cases h : code = 0 <;> simp [h]
              go_wp2_with fail
              refine (Is_nil code _).mono ?_
              rintro e wd ⟨rfl, hxd⟩
              have HF := Lib.hid (((HE3.out.trans hxa).trans hxb).trans hxd); clear hxa hxb hxd
              go_wp2
              go_ret
              exact ⟨rfl, HF.out⟩
            · have hT0 : somes L ≠ [] := hinv.out.2.2.1 rfl
              have e1 : codeU (joined L) = f := by rw [HTL.out.1]; exact hinv.out.2.1.symm
              have e2 : hasU code (joined L) = h := by rw [HTL.out.2.1]; unfold hasL; rw [if_neg hT0]; exact hinv.out.1.symm
              have e3 : codeU (joined [joined us, joined us']) = f := by rw [HT.out.1]; exact hinv.out.2.1.symm
              have e4 : hasU code (joined [joined us, joined us']) = h := by rw [HT.out.2.1 code]; unfold hasL; rw [if_neg hT0]; exact hinv.out.1.symm
              have e5 : textO (joined [joined us, joined us']) = textO (joined L) := by rw [HT.out.2.2, HTL.out.2.2]
              have HEQ := Lib.hid (And.intro e1 (And.intro e2 (And.intro e3 (And.intro e4 e5)))); clear e1 e2 e3 e4 e5 hT0
              go_wp2_with fail
              refine (Code_O (joined L) vr wr (HS.out.2.1.ext HE3.out) HR.out).mono ?_
              rintro e wa ⟨rfl, hxa⟩
              rw [HEQ.out.1]
              have HA1 := Lib.hid hxa; clear hxa
              go_wp2_with fail
              refine (Is_O (joined L) vr code wa (RepO.ext HA1.out HR.out)).mono ?_
              rintro e wb ⟨rfl, hxb⟩
              rw [HEQ.out.2.1]
              have HA2 := Lib.hid (HA1.out.trans hxb); clear hxb
              go_wp2_with fail
              refine (Code_O (joined [joined us, joined us']) _ wb (HS.out.2.1.ext (HE3.out.trans HA2.out)) (RepO.ext HA2.out HSO.out)).mono ?_
              rintro e wd ⟨rfl, hxd⟩
              rw [HEQ.out.2.2.1]
              have HA3 := Lib.hid (HA2.out.trans hxd); clear hxd
              go_wp2_with fail
              refine (Is_O (joined [joined us, joined us']) _ code wd (RepO.ext HA3.out HSO.out)).mono ?_
              rintro e wf ⟨rfl, hxf⟩
              rw [HEQ.out.2.2.2.1]
              have HA4 := Lib.hid (HA3.out.trans hxf); clear hxf
              have ht1 : tlen (joined L) ≤ 140737488355328 := by have := tlen_joined L; have := HG.out.2; have := HM.out; omega
              have ht2 : tlen (joined [joined us, joined us']) ≤ 140737488355328 := by rw [← textO_len, HEQ.out.2.2.2.2, textO_len]; exact ht1
              have HTT := Lib.hid (And.intro ht1 ht2); clear ht1 ht2
              go_wp2_with fail
              refine (Text_O (joined [joined us, joined us']) _ wf (RepO.ext HA4.out HSO.out) (HS.out.1.ext (HE3.out.trans HA4.out)) HTT.out.2).mono ?_
              rintro e wh ⟨rfl, hxh⟩
              rw [HEQ.out.2.2.2.2]
              have HA5 := Lib.hid (HA4.out.trans hxh); clear hxh
              go_wp2_with fail
              refine (Text_O (joined L) vr wh (RepO.ext HA5.out HR.out) (HS.out.1.ext (HE3.out.trans HA5.out)) HTT.out.1).mono ?_
              rintro e wk ⟨rfl, hxk⟩
              have HA6 := Lib.hid ((HE3.out.trans HA5.out).trans hxk); clear hxk
              go_wp2
              go_ret
              exact ⟨rfl, HA6.out⟩
end Go.Proofs.YtlcnicgjlddldaaDoor
