/- FaultTexts, walked. -/
import Derived.Test.YtlcnicgjlddldaaDoorBuilt
import Derived.Test.YtlcnicgjlddldaaDoorNone
namespace Go.Proofs.YtlcnicgjlddldaaDoor
open Go Go.RowKit

def textO : Option Tr → List UInt8
  | none => []
  | some t => t.text
theorem textO_len (u : Option Tr) : (textO u).length = tlen u := by cases u <;> rfl
theorem Text_O (u : Option Tr) (v : Value) (w : World) (h : RepO w u v) (hp : Pow10 w) (hl : tlen u ≤ 140737488355328) :
    Calls Tryd.prog 19 #[v] w fun e w' => e = .returned (.string ⟨(textO u).toArray⟩) ∧ Ext w w' := by
  cases u with
  | none =>
    obtain rfl : v = .nilIface := h
    exact Text_nil w
  | some t => exact Text_rep t v w h hp hl
theorem bytes_app (l m : List UInt8) : (⟨(l ++ m).toArray⟩ : ByteArray) = ⟨l.toArray⟩ ++ ⟨m.toArray⟩ := by
  apply ByteArray.ext
  simp [ByteArray.data_append]
theorem ba_app (a b : ByteArray) : (a ++ b).toList = a.toList ++ b.toList := by
  rw [Lib.toList_data, Lib.toList_data, Lib.toList_data]
  simp [ByteArray.data_append]
theorem ba_mk (l : List UInt8) : (⟨l.toArray⟩ : ByteArray).toList = l := by
  rw [Lib.toList_data]
attribute [local go_sem] ba_app ba_mk
theorem text_two (tp tq : Tr) : textO (joined [some tp, some tq]) = tp.text ++ ([59, 32] ++ tq.text) := by
  simp [textO, joined, somes, Tr.text, textAll]
theorem text_word (tq : Tr) (s : ByteArray) : textO ((some tq).map (Tr.word s)) = s.toList ++ ([58, 32] ++ tq.text) := by
  rw [Lib.toList_data]
  simp [textO, Tr.text]
theorem joined_two (p q : Option Tr) : tlen (joined [p, q]) ≤ tlen p + tlen q + 4 := by
  have h := tlen_joined [p, q]
  simp only [tsum, List.length_cons, List.length_nil] at h
  omega

theorem StepsAt.ext {w w' : World} {g off : Nat} {os : List Step} (h : StepsAt w g off os) (hx : Ext w w') : StepsAt w' g off os := fun i o hi =>
  ⟨fun j u hj => hx.cell ((h i o hi).1 j u hj), (h i o hi).2⟩
def IsScript (w : World) (v : Value) : Prop := (∃ a c, v = .slice a 0 c) ∨ ∃ os g off cap, v = .slice (some ⟨g, off, none⟩) (List.length os) cap ∧ StepsAt w g off os
theorem IsScript.ext {w w' : World} {v : Value} (h : IsScript w v) (hx : Ext w w') : IsScript w' v := by
  rcases h with h | ⟨os, g, off, cap, h1, h2⟩
  · exact .inl h
  · exact .inr ⟨os, g, off, cap, h1, h2.ext hx⟩
theorem built_any (v : Value) (w : World) (h : IsScript w v) :
    Calls Tryd.prog 12 #[v] w fun e w' => ∃ ga ca gb cb us vs cs, e = .returned (.tuple #[.slice ga (List.length us) ca, .slice gb us.length cb]) ∧ Hid (BJ w w' 30 (.slice ga us.length ca) (.slice gb us.length cb) us vs cs) := by
  have h1 : Calls Tryd.prog 12 #[v] w fun e w' => ∃ a b us vs cs, e = .returned (.tuple #[a, b]) ∧ BJ w w' 30 a b us vs cs := by
    rcases h with ⟨a, c, rfl⟩ | ⟨os, g, off, cap, rfl, hs⟩
    · exact built_nil a c w
    · exact built_rep os g off cap w hs
  refine h1.mono ?_
  rintro e w' ⟨a, b, us, vs, cs, rfl, hb⟩
  obtain ⟨ga, ca, rfl⟩ := XownsRow_form hb.piles.owna
  obtain ⟨gb, cb, rfl⟩ := XownsRow_form hb.piles.ownb
  exact ⟨ga, ca, gb, cb, us, vs, cs, rfl, hb⟩
theorem Join_bj {w w1 w2 : World} {ga : Option Addr} {ca : Nat} {b : Value} {us : List (Option Tr)} {vs cs : List Value} (h : BJ w w1 30 (.slice ga us.length ca) b us vs cs) (hx : Ext w1 w2) :
    Calls Tryd.prog 25 #[.slice ga us.length ca] w2 fun e w' => ∃ v, e = .returned v ∧ RepOS (Own (.slice ga us.length ca) b) w' (joined us) v ∧ Ext w2 w' := by
  have hP := h.piles.ext hx
  refine Join_mid (Own (.slice ga us.length ca) b) us ga us.length ca w2 (fun k hk => (hP.lt k hk).2) rfl (by have := h.len; omega) (fun hn => ?_)
  obtain ⟨g, rfl⟩ := own_some hP.owna hn
  exact ⟨g, 0, rfl, by simpa using hP.errsA 0⟩
theorem Join_two (p q : Option Tr) (vp vq : Value) (w : World) (g : Nat) (hp : RepO w p vp) (hq : RepO w q vq) (h0 : w.cell? ⟨g, 0, none⟩ = some vp) (h1 : w.cell? ⟨g, 1, none⟩ = some vq) :
    Calls Tryd.prog 25 #[.slice (some ⟨g, 0, none⟩) 2 2] w fun e w' => ∃ v, e = .returned v ∧ RepO w' (joined [p, q]) v ∧ Ext w w' := by
  refine Join_some [p, q] g 0 2 w ?_ (by simp)
  intro j t hj
  match j, hj with
  | 0, hj => exact ⟨_, h0, by simp at hj; subst hj; exact hp⟩
  | 1, hj => exact ⟨_, h1, by simp at hj; subst hj; exact hq⟩
theorem tlen_bj {w w1 : World} {a b : Value} {us : List (Option Tr)} {vs cs : List Value} (h : BJ w w1 30 a b us vs cs) : tlen (joined us) ≤ 4000 := by
  have h1 := tlen_joined us
  have h2 := h.text
  have h3 := h.len
  omega

set_option maxHeartbeats 4000000 in
set_option maxRecDepth 100000 in
theorem texts_true (x y : Value) (word : ByteArray) (w : World) (hx : IsScript w x) (hy : IsScript w y) (hp : Pow10 w) (hs : word.size ≤ 9223372036854775807) :
    Calls Tryd.prog 7 #[x, y, .string word] w fun e w' => e = .returned (.bool true) ∧ Ext w w' := by
  have HS := Lib.hid (And.intro hp (And.intro hx hy)); clear hp hx hy
  go_enter Tryd.func7, Tryd.ntmps7
  go_wp2_with fail
  refine (awake_true _ HS.out.1).mono ?_
  rintro e w1 ⟨rfl, hx1⟩
  have HX1 := Lib.hid hx1; clear hx1
  go_wp2_with fail
  refine (built_any x w1 (HS.out.2.1.ext HX1.out)).mono ?_
  rintro e w2 ⟨ga, ca, gb, cb, us, vs, cs, rfl, HB⟩
  have HX2 := Lib.hid (HX1.out.trans HB.out.piles.below)
  go_wp2_with fail
  refine (built_any y w2 (HS.out.2.2.ext HX2.out)).mono ?_
  rintro e w3 ⟨ga', ca', gb', cb', us', vs', cs', rfl, HB'⟩
  have HX3 := Lib.hid (HX2.out.trans HB'.out.piles.below)
  go_upto_if 31 with fail
  go_cut [2] from 18 to 88 (fun wd wx => ∃ s : ByteArray, wd = .string s ∧ s.size ≤ 8 ∧ wx = w3)
  case first =>
    by_cases hw8 : word.size > 8
    · go_wp2_with fail
      go_meet
      case rel => exact ⟨_, rfl, extract8 word, rfl⟩
    · go_wp2_with fail
      go_meet
      case rel => exact ⟨_, rfl, by omega, rfl⟩
  case rest =>
    obtain ⟨s, rfl, hs8, hwc⟩ := hcut
    have hwx := hwc.symm
    subst hwx
    have hx23 : Ext w2 w3 := HB'.out.piles.below
    have HX23 := Lib.hid hx23; clear hx23
    have hlp := tlen_bj HB.out
    have hlq := tlen_bj HB'.out
    have hgp := good_joined HB.out.good
    have hgq := good_joined HB'.out.good
    have HLG := Lib.hid (And.intro (And.intro hlp hlq) (And.intro hgp hgq)); clear hlp hlq hgp hgq
    go_wp2_with fail
    refine (Join_bj HB.out HX23.out).mono ?_
    rintro e w4 ⟨vp, rfl, hvp, hx4⟩
    have HP4 := Lib.hid (And.intro hvp hx4); clear hvp hx4
    go_wp2_with fail
    refine (Join_bj HB'.out HP4.out.2).mono ?_
    rintro e w5 ⟨vq, rfl, hvq, hx5⟩
    have H5 := Lib.hid ((HX3.out.trans HP4.out.2).trans hx5)
    have HPO := Lib.hid (RepO.ext hx5 HP4.out.1.rep)
    have HQO := Lib.hid hvq.rep
    have HQ := Lib.hid hvq
    have hfq := hvq.forms
    have hfp := HP4.out.1.forms
    have HLP := Lib.hid HLG.out.1.1
    have HLQ := Lib.hid HLG.out.1.2
    have HGP := Lib.hid HLG.out.2.1
    have HGQ := Lib.hid HLG.out.2.2
    clear hvq hx5 HLG HP4 
    generalize joined us = p at HPO HLP HGP
    generalize joined us' = q at HQO HQ HLQ HGQ
    rcases p with _ | tp
    · obtain rfl : vp = .nilIface := HPO.out
      clear hfp
      rcases q with _ | tq
      · obtain rfl : vq = .nilIface := HQO.out
        clear hfq
        go_wp2_with fail
        refine (Join_two none none _ _ _ _ (RepO.ext ((Ext.refl w5).alloc _) HPO.out) (RepO.ext ((Ext.refl w5).alloc _) HQO.out) (by simp) (by simp)).mono ?_
        rintro e w6 ⟨vr, rfl, hvr, hx6⟩
        have HX6 := Lib.hid (((Ext.refl w5).alloc _).trans hx6)
        have H6 := Lib.hid (And.intro hvr (H5.out.trans HX6.out))
        clear hvr hx6
        go_wp2_with fail
        refine (Text_O (joined [none, none]) vr _ H6.out.1 (HS.out.1.ext H6.out.2) (by have := joined_two none none; have := HLP.out; have := HLQ.out; omega)).mono ?_
        rintro e w7 ⟨rfl, hx7⟩
        have H7 := Lib.hid (H6.out.2.trans hx7)
        have HX7 := Lib.hid (HX6.out.trans hx7)
        clear hx7
        rw [show textO (joined [none, none]) = [] from rfl]
        go_wp2_with fail
        refine (Text_O none _ _ (RepO.ext HX7.out HPO.out) (HS.out.1.ext H7.out) (by have := HLP.out; omega)).mono ?_
        rintro e w8 ⟨rfl, hx8⟩
        have H8 := Lib.hid (H7.out.trans hx8)
        have HX8 := Lib.hid (HX7.out.trans hx8)
        clear hx8
        rw [show textO none = [] from rfl]
        go_wp2_with fail
        refine (Text_O none _ _ (RepO.ext HX8.out HQO.out) (HS.out.1.ext H8.out) (by have := HLQ.out; omega)).mono ?_
        rintro e w9 ⟨rfl, hx9⟩
        have H9 := Lib.hid (H8.out.trans hx9)
        have HX9 := Lib.hid (HX8.out.trans hx9)
        clear hx9
        rw [show textO none = [] from rfl]
        go_wp2_with fail
        refine (In_repS (Own (.slice ga' us'.length ca') (.slice gb' us'.length cb')) none _ s _ (RepOS.kept (HX9.out.but _) (fun _ h => .inl h) HQ.out)).mono ?_
        rintro e w10 ⟨vw, rfl, hvw, hx10⟩
        have H10 := Lib.hid (And.intro hvw (H9.out.trans hx10))
        clear hvw hx10
        go_wp2_with fail
        refine (Text_O (Option.map (Tr.word s) none) vw _ H10.out.1.rep (HS.out.1.ext H10.out.2) (by have := tlen_word s hs8 none; have := HLQ.out; omega)).mono ?_
        rintro e w11 ⟨rfl, hx11⟩
        have H11 := Lib.hid (H10.out.2.trans hx11)
        clear hx11
        rw [show textO (Option.map (Tr.word s) none) = [] from rfl]
        go_wp2
        go_ret
        exact ⟨rfl, H11.out⟩
      · clear hfq
        obtain ⟨yq, zq, rfl⟩ := RepS.form (t := tq) HQ.out
        obtain ⟨U, hU⟩ : ∃ U, tq.text = U := ⟨_, rfl⟩
        have hUn : U.isEmpty = false := by rw [← hU]; simpa using good_text (HGQ.out tq rfl)
        have HU : Hid (textO (some tq) = U) := hU
        clear hU
        have hUl : U.length ≤ 4000 := by have h := HLQ.out; rw [← textO_len, show textO (some tq) = U from HU.out] at h; exact h
        have hN1 : ¬ 9223372036854775807 < U.length := by omega
        have hWn : (s.toList ++ 58 :: 32 :: U).isEmpty = false := by simp
        have hN2 : ¬ 9223372036854775807 < s.size + 2 := by omega
        have hN3 : ¬ 9223372036854775807 < s.size + 2 + U.length := by omega
        go_wp2_with fail
        refine (Join_two none (some tq) _ _ _ _ (RepO.ext ((Ext.refl w5).alloc _) HPO.out) (RepO.ext ((Ext.refl w5).alloc _) HQO.out) (by simp) (by simp)).mono ?_
        rintro e w6 ⟨vr, rfl, hvr, hx6⟩
        have HX6 := Lib.hid (((Ext.refl w5).alloc _).trans hx6)
        have H6 := Lib.hid (And.intro hvr (H5.out.trans HX6.out))
        clear hvr hx6
        go_wp2_with fail
        refine (Text_O (joined [none, (some tq)]) vr _ H6.out.1 (HS.out.1.ext H6.out.2) (by have := joined_two none (some tq); have := HLP.out; have := HLQ.out; omega)).mono ?_
        rintro e w7 ⟨rfl, hx7⟩
        have H7 := Lib.hid (H6.out.2.trans hx7)
        have HX7 := Lib.hid (HX6.out.trans hx7)
        clear hx7
        rw [show textO (joined [none, (some tq)]) = U from HU.out]
        go_wp2_with fail
        refine (Text_O none _ _ (RepO.ext HX7.out HPO.out) (HS.out.1.ext H7.out) (by have := HLP.out; omega)).mono ?_
        rintro e w8 ⟨rfl, hx8⟩
        have H8 := Lib.hid (H7.out.trans hx8)
        have HX8 := Lib.hid (HX7.out.trans hx8)
        clear hx8
        rw [show textO none = [] from rfl]
        go_wp2_with fail
        refine (Text_O (some tq) _ _ (RepO.ext HX8.out HQO.out) (HS.out.1.ext H8.out) (by have := HLQ.out; omega)).mono ?_
        rintro e w9 ⟨rfl, hx9⟩
        have H9 := Lib.hid (H8.out.trans hx9)
        have HX9 := Lib.hid (HX8.out.trans hx9)
        clear hx9
        rw [show textO (some tq) = U from HU.out]
        go_wp2_with fail
        refine (In_repS (Own (.slice ga' us'.length ca') (.slice gb' us'.length cb')) (some tq) _ s _ (RepOS.kept (HX9.out.but _) (fun _ h => .inl h) HQ.out)).mono ?_
        rintro e w10 ⟨vw, rfl, hvw, hx10⟩
        have H10 := Lib.hid (And.intro hvw (H9.out.trans hx10))
        clear hvw hx10
        go_wp2_with fail
        refine (Text_O (Option.map (Tr.word s) (some tq)) vw _ H10.out.1.rep (HS.out.1.ext H10.out.2) (by have := tlen_word s hs8 (some tq); have := HLQ.out; omega)).mono ?_
        rintro e w11 ⟨rfl, hx11⟩
        have H11 := Lib.hid (H10.out.2.trans hx11)
        clear hx11
        rw [show textO (Option.map (Tr.word s) (some tq)) = s.toList ++ ([58, 32] ++ U) from (by rw [text_word, show tq.text = U from HU.out])]
        go_wp2
        go_ret
        exact ⟨rfl, H11.out⟩
    · clear hfp
      obtain ⟨yp, zp, rfl⟩ := Rep.form (t := tp) HPO.out
      obtain ⟨T, hT⟩ : ∃ T, tp.text = T := ⟨_, rfl⟩
      have hTn : T.isEmpty = false := by rw [← hT]; simpa using good_text (HGP.out tp rfl)
      have HT : Hid (textO (some tp) = T) := hT
      clear hT
      have hTl : T.length ≤ 4000 := by have h := HLP.out; rw [← textO_len, show textO (some tp) = T from HT.out] at h; exact h
      have hN4 : ¬ 9223372036854775807 < T.length := by omega
      have hN5 : ¬ 9223372036854775807 < T.length + 2 := by omega
      rcases q with _ | tq
      · obtain rfl : vq = .nilIface := HQO.out
        clear hfq
        go_wp2_with fail
        refine (Join_two (some tp) none _ _ _ _ (RepO.ext ((Ext.refl w5).alloc _) HPO.out) (RepO.ext ((Ext.refl w5).alloc _) HQO.out) (by simp) (by simp)).mono ?_
        rintro e w6 ⟨vr, rfl, hvr, hx6⟩
        have HX6 := Lib.hid (((Ext.refl w5).alloc _).trans hx6)
        have H6 := Lib.hid (And.intro hvr (H5.out.trans HX6.out))
        clear hvr hx6
        go_wp2_with fail
        refine (Text_O (joined [(some tp), none]) vr _ H6.out.1 (HS.out.1.ext H6.out.2) (by have := joined_two (some tp) none; have := HLP.out; have := HLQ.out; omega)).mono ?_
        rintro e w7 ⟨rfl, hx7⟩
        have H7 := Lib.hid (H6.out.2.trans hx7)
        have HX7 := Lib.hid (HX6.out.trans hx7)
        clear hx7
        rw [show textO (joined [(some tp), none]) = T from HT.out]
        go_wp2_with fail
        refine (Text_O (some tp) _ _ (RepO.ext HX7.out HPO.out) (HS.out.1.ext H7.out) (by have := HLP.out; omega)).mono ?_
        rintro e w8 ⟨rfl, hx8⟩
        have H8 := Lib.hid (H7.out.trans hx8)
        have HX8 := Lib.hid (HX7.out.trans hx8)
        clear hx8
        rw [show textO (some tp) = T from HT.out]
        go_wp2_with fail
        refine (Text_O none _ _ (RepO.ext HX8.out HQO.out) (HS.out.1.ext H8.out) (by have := HLQ.out; omega)).mono ?_
        rintro e w9 ⟨rfl, hx9⟩
        have H9 := Lib.hid (H8.out.trans hx9)
        have HX9 := Lib.hid (HX8.out.trans hx9)
        clear hx9
        rw [show textO none = [] from rfl]
        go_wp2_with fail
        refine (In_repS (Own (.slice ga' us'.length ca') (.slice gb' us'.length cb')) none _ s _ (RepOS.kept (HX9.out.but _) (fun _ h => .inl h) HQ.out)).mono ?_
        rintro e w10 ⟨vw, rfl, hvw, hx10⟩
        have H10 := Lib.hid (And.intro hvw (H9.out.trans hx10))
        clear hvw hx10
        go_wp2_with fail
        refine (Text_O (Option.map (Tr.word s) none) vw _ H10.out.1.rep (HS.out.1.ext H10.out.2) (by have := tlen_word s hs8 none; have := HLQ.out; omega)).mono ?_
        rintro e w11 ⟨rfl, hx11⟩
        have H11 := Lib.hid (H10.out.2.trans hx11)
        clear hx11
        rw [show textO (Option.map (Tr.word s) none) = [] from rfl]
        go_wp2
        go_ret
        exact ⟨rfl, H11.out⟩
      · clear hfq
        obtain ⟨yq, zq, rfl⟩ := RepS.form (t := tq) HQ.out
        obtain ⟨U, hU⟩ : ∃ U, tq.text = U := ⟨_, rfl⟩
        have hUn : U.isEmpty = false := by rw [← hU]; simpa using good_text (HGQ.out tq rfl)
        have HU : Hid (textO (some tq) = U) := hU
        clear hU
        have hUl : U.length ≤ 4000 := by have h := HLQ.out; rw [← textO_len, show textO (some tq) = U from HU.out] at h; exact h
        have hN1 : ¬ 9223372036854775807 < U.length := by omega
        have hWn : (s.toList ++ 58 :: 32 :: U).isEmpty = false := by simp
        have hN2 : ¬ 9223372036854775807 < s.size + 2 := by omega
        have hN3 : ¬ 9223372036854775807 < s.size + 2 + U.length := by omega
        have hN6 : ¬ 9223372036854775807 < T.length + 2 + U.length := by omega
        go_wp2_with fail
        refine (Join_two (some tp) (some tq) _ _ _ _ (RepO.ext ((Ext.refl w5).alloc _) HPO.out) (RepO.ext ((Ext.refl w5).alloc _) HQO.out) (by simp) (by simp)).mono ?_
        rintro e w6 ⟨vr, rfl, hvr, hx6⟩
        have HX6 := Lib.hid (((Ext.refl w5).alloc _).trans hx6)
        have H6 := Lib.hid (And.intro hvr (H5.out.trans HX6.out))
        clear hvr hx6
        go_wp2_with fail
        refine (Text_O (joined [(some tp), (some tq)]) vr _ H6.out.1 (HS.out.1.ext H6.out.2) (by have := joined_two (some tp) (some tq); have := HLP.out; have := HLQ.out; omega)).mono ?_
        rintro e w7 ⟨rfl, hx7⟩
        have H7 := Lib.hid (H6.out.2.trans hx7)
        have HX7 := Lib.hid (HX6.out.trans hx7)
        clear hx7
        rw [show textO (joined [(some tp), (some tq)]) = T ++ ([59, 32] ++ U) from (by rw [text_two, show tp.text = T from HT.out, show tq.text = U from HU.out])]
        go_wp2_with fail
        refine (Text_O (some tp) _ _ (RepO.ext HX7.out HPO.out) (HS.out.1.ext H7.out) (by have := HLP.out; omega)).mono ?_
        rintro e w8 ⟨rfl, hx8⟩
        have H8 := Lib.hid (H7.out.trans hx8)
        have HX8 := Lib.hid (HX7.out.trans hx8)
        clear hx8
        rw [show textO (some tp) = T from HT.out]
        go_wp2_with fail
        refine (Text_O (some tq) _ _ (RepO.ext HX8.out HQO.out) (HS.out.1.ext H8.out) (by have := HLQ.out; omega)).mono ?_
        rintro e w9 ⟨rfl, hx9⟩
        have H9 := Lib.hid (H8.out.trans hx9)
        have HX9 := Lib.hid (HX8.out.trans hx9)
        clear hx9
        rw [show textO (some tq) = U from HU.out]
        go_wp2_with fail
        refine (In_repS (Own (.slice ga' us'.length ca') (.slice gb' us'.length cb')) (some tq) _ s _ (RepOS.kept (HX9.out.but _) (fun _ h => .inl h) HQ.out)).mono ?_
        rintro e w10 ⟨vw, rfl, hvw, hx10⟩
        have H10 := Lib.hid (And.intro hvw (H9.out.trans hx10))
        clear hvw hx10
        go_wp2_with fail
        refine (Text_O (Option.map (Tr.word s) (some tq)) vw _ H10.out.1.rep (HS.out.1.ext H10.out.2) (by have := tlen_word s hs8 (some tq); have := HLQ.out; omega)).mono ?_
        rintro e w11 ⟨rfl, hx11⟩
        have H11 := Lib.hid (H10.out.2.trans hx11)
        clear hx11
        rw [show textO (Option.map (Tr.word s) (some tq)) = s.toList ++ ([58, 32] ++ U) from (by rw [text_word, show tq.text = U from HU.out])]
        go_wp2
        go_ret
        exact ⟨rfl, H11.out⟩
end Go.Proofs.YtlcnicgjlddldaaDoor
