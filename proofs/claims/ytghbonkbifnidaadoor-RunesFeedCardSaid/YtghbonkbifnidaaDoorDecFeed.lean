/- The program's decoder is fed: (*runes.Decoder).Feed. -/
import Derived.Test.YtghbonkbifnidaaDoorDecApp
namespace Go.Proofs.YtghbonkbifnidaaDoor
open Go Go.RowKit

def fN (j k : Nat) : Nat := ((firstsTab.getD j []).getD k 0).toNat
theorem fN_lead (j y : Nat) (hj : j < 8) (h0 : fN j 0 ≤ y) (h1 : y ≤ fN j 1) : lead y = (fN j 2, fN j 3, fN j 4) ∧ fN j 2 ≠ 0 := by
  have h : j = 0 ∨ j = 1 ∨ j = 2 ∨ j = 3 ∨ j = 4 ∨ j = 5 ∨ j = 6 ∨ j = 7 := by omega
  rcases h with rfl | rfl | rfl | rfl | rfl | rfl | rfl | rfl <;> simp only [fN, firstsTab, List.getD_cons_zero, List.getD_cons_succ, Int.reduceToNat] at h0 h1 ⊢ <;> refine ⟨?_, by decide⟩ <;> unfold lead <;> repeat' split
  all_goals first | omega | rfl
theorem fN_none (y : Nat) (h : ∀ j, j < 8 → ¬ (fN j 0 ≤ y ∧ y ≤ fN j 1)) : (lead y).1 = 0 := by
  have h0 := h 0 (by omega)
  have h1 := h 1 (by omega)
  have h2 := h 2 (by omega)
  have h3 := h 3 (by omega)
  have h4 := h 4 (by omega)
  have h5 := h 5 (by omega)
  have h6 := h 6 (by omega)
  have h7 := h 7 (by omega)
  simp only [fN, firstsTab, List.getD_cons_zero, List.getD_cons_succ, Int.reduceToNat] at h0 h1 h2 h3 h4 h5 h6 h7
  unfold lead
  repeat' split
  all_goals first | omega | rfl
noncomputable def firstsArr : Array Value := firstsCells.toArray
theorem infoFirsts : (Tryd.prog.info? 61).map (·.size) = some firstsCells.length := by kernel_rfl
theorem index_firsts (i : Nat) (hi : i < 8) (w : World) : (Instr.index 61 (.agg firstsArr) (.int .i64 i)).run Tryd.prog w = .ok (.agg #[.int .u8 (fN i 0), .int .u8 (fN i 1), .int .i64 (fN i 2), .int .u8 (fN i 3), .int .u8 (fN i 4)]) w := by
  have h : i = 0 ∨ i = 1 ∨ i = 2 ∨ i = 3 ∨ i = 4 ∨ i = 5 ∨ i = 6 ∨ i = 7 := by omega
  rcases h with rfl | rfl | rfl | rfl | rfl | rfl | rfl | rfl <;> (show _ = _; kernel_rfl)
theorem Dec.apart {w : World} {g : Nat} {s : DecSt} (h : Dec w g s) (hF : Firsts w) : g ≠ 1 := by
  intro e
  subst e
  have h1 : w.cell? ⟨1, 0, none⟩ = some (.int .i64 s.k) := h.cell 0
  have h2 := hF 0 (.int .u8 194) rfl
  rw [Nat.zero_add, h1] at h2
  cases h2
theorem Firsts.only {w w' : World} {g : Nat} (h : Firsts w) (hx : Only g w w') (hg : g ≠ 1) : Firsts w' := fun j v hv => hx.cell (fun e => hg e.symm) (h j v hv)
theorem Dec.facts {w : World} {g : Nat} {s : DecSt} (h : Dec w g s) : (w.cell? ⟨g, 0, none⟩ = some (.int .i64 s.k) ∧ w.cell? ⟨g, 1, none⟩ = some (.int .i64 s.l) ∧ w.cell? ⟨g, 2, none⟩ = some (.int .u8 s.lo) ∧ w.cell? ⟨g, 3, none⟩ = some (.int .u8 s.hi) ∧ w.cell? ⟨g, 4, none⟩ = some (.int .i32 s.r))
    ∧ w.frozen? ⟨g, 0, none⟩ = false ∧ w.frozen? ⟨g, 1, none⟩ = false ∧ w.frozen? ⟨g, 2, none⟩ = false ∧ w.frozen? ⟨g, 3, none⟩ = false ∧ w.frozen? ⟨g, 4, none⟩ = false :=
  ⟨⟨h.cell 0, h.cell 1, h.cell 2, h.cell 3, h.cell 4⟩, h.frozen 0, h.frozen 1, h.frozen 2, h.frozen 3, h.frozen 4⟩
/-- Behind i bytes. -/
structure FedAt (w : World) (g : Nat) (st : DecSt) (x : List UInt8) (i : Nat) (v : Value) (wr : World) : Prop where
  own : OwnR wr w.heap.size v (st.run (x.take i)).1
  dec : Dec wr g (st.run (x.take i)).2
  only : Only g w wr
theorem FedAt.next {w wn : World} {g i : Nat} {st : DecSt} {x : List UInt8} {v' : Value} {b : UInt8} (hb : x[i]? = some b) {out : List Int} {S : DecSt} (ho : (st.run (x.take i)).1 = out) (hS : (st.run (x.take i)).2 = S)
    {more : List Int} {S' : DecSt} (hst : S.step b.toNat = (more, S')) (h1 : OwnR wn w.heap.size v' (out ++ more)) (h2 : Dec wn g S') (h3 : Only g w wn) : FedAt w g st x (i + 1) v' wn := by
  have e := run_take st x i b hb
  rw [ho, hS, hst] at e
  exact ⟨by rw [e]; exact h1, by rw [e]; exact h2, h3⟩
set_option maxHeartbeats 4000000 in
set_option maxRecDepth 100000 in
theorem Feed_any (w : World) (g : Nat) (st : DecSt) (s : ByteArray) (h : Dec w g st) (hok : st.ok) (hF : Firsts w) (hs : s.size ≤ 1000000) :
    Calls Tryd.prog 19 #[.pointer (some ⟨g, 0, none⟩), .string s] w fun e w' => ∃ v, e = .returned v ∧ OwnR w' w.heap.size v (st.run (bts s)).1 ∧ Dec w' g (st.run (bts s)).2 ∧ Only g w w' := by
  obtain ⟨i0, hi0, hz0, hz1, hz2⟩ := info_parts infoRune
  have hlt := h.lt
  have hap := h.apart hF
  have HZ : Hid (FedAt w g st (bts s) 0 (.slice none 0 0) w) := Lib.hid ⟨OwnR.nil _ _, h, Only.refl _ _⟩
  have H := Lib.hid (And.intro hlt (And.intro hap (And.intro hF hok))); clear hlt hap hF hok h
  go_enter Tryd.func19, Tryd.ntmps19
  go_wp2
  go_step3
  go_wp2
  go_step3
  go_wp2
  go_loopg [14, 5] s.size (fun k a b wr => ∃ (i : Nat), a = .int .i64 i ∧ Hid (i + k = s.size) ∧ Hid (FedAt w g st (bts s) i b wr))
  case atStart => exact ⟨0, rfl, Nat.zero_add _, HZ.out⟩
  case round =>
    clear HZ
    obtain ⟨i, rfl, hi, hfed⟩ := hrel
    by_cases hlt : i < s.size
    · obtain ⟨y, hy⟩ : ∃ y, s[i].toNat = y := ⟨_, rfl⟩
      have hy8 : y < 256 := by rw [← hy]; exact s[i].toNat_lt
      have hbi : (bts s)[i]? = some s[i] := bts_at s i hlt
      have hokS : (st.run ((bts s).take i)).2.ok := ok_run _ H.out.2.2.2
      have hlen : (st.run ((bts s).take i)).1.length ≤ 1000004 := by
        have h1 := len_run ((bts s).take i) st
        have h2 := ok_k H.out.2.2.2
        rw [List.length_take] at h1
        omega
      have hown := hfed.out.own
      have hdec := hfed.out.dec
      have hnx := fun (wn : World) (v' : Value) (out : List Int) (S : DecSt) (ho : (st.run ((bts s).take i)).1 = out) (hS : (st.run ((bts s).take i)).2 = S) (more : List Int) (S' : DecSt) (hst : S.step y = (more, S')) => FedAt.next (w := w) (g := g) (wn := wn) (v' := v') hbi ho hS (more := more) (S' := S') (by rw [hy]; exact hst)
      have hnx2 := fun (wn : World) (v' : Value) (more : List Int) (S' : DecSt) hst => hnx wn v' _ _ rfl rfl more S' hst
      generalize (st.run ((bts s).take i)).1 = out at hown hlen hnx2
      generalize (st.run ((bts s).take i)).2 = S at hdec hokS hnx2
      have HN := Lib.hid hnx2; clear hnx hnx2 hbi
      have HI := Lib.hid (And.intro hown (And.intro hdec (And.intro hokS hfed.out.only))); clear hown hfed
      by_cases hg : S.goes y
      · have hgo := goOn_yes _ g S y hdec hokS hy8 hg
        have hm := more_lt (b := y) hokS
        have hl4 : 1 ≤ S.l ∧ S.l ≤ 3 := by
          rcases hokS with rfl | ⟨h1, h2, h3, _⟩
          · exact absurd rfl hg.1
          · omega
        have HG := Lib.hid (And.intro hgo hg); clear hgo hg hdec hokS
        by_cases hl1 : S.l = 1
        · have hst : S.step y = ([((S.more y).r : Int)], .new) := by unfold DecSt.step; rw [if_pos HG.out.2, if_pos hl1]
          have HS := Lib.hid hst; clear hst
          go_wp2_with fail
          refine HG.out.1.mono ?_
          rintro e w1 ⟨rfl, hd1, ho1⟩
          obtain ⟨⟨c0, c1, c2, c3, c4⟩, z0, z1, z2, z3, z4⟩ := hd1.facts
          have hz : (S.more y).l = 0 := by show S.l - 1 = 0; omega
          rw [hz] at c1
          generalize (S.more y).r = r at c4 hm HS
          have HD := Lib.hid (And.intro hd1 ho1); clear hd1 ho1 hz
          have HO := Lib.hid (((HI.out.1.only HD.out.2 H.out.1).ext ((Ext.refl _).alloc (.cells #[.int .i32 r] 21))))
          have HX := Lib.hid ((HI.out.2.2.2.trans HD.out.2).alloc (.cells #[.int .i32 r] 21))
          go_wp2_with (at_builtin; refine wpList_app_rune rfl _ _ rfl w.heap.size u5 out rfl HO.out w1.heap.size r rfl (Lib.cell_of_heap (Go.heap_alloc_new w1 (.cells #[.int .i32 r] 21)) 0) (by omega) HX.out.size ?_)
          intro v' w2 happ
          have hd2 : Dec w2 g (S.more y) := dec_grown (Blk.ext HD.out.1 ((Ext.refl _).alloc _)) HO.out happ.grown H.out.1
          have ho2 := only_grown HX.out HO.out happ.grown (Nat.le_refl _)
          clear c0 c1 c2 c3 c4 z0 z1 z2 z3 z4
          obtain ⟨⟨c0, c1, c2, c3, c4⟩, z0, z1, z2, z3, z4⟩ := hd2.facts
          have HE := Lib.hid (HN.out (decSet w2 g (.int .i64 0) (.int .i64 0) (.int .u8 0) (.int .u8 0) (.int .i32 0)) v' _ _ HS.out (happ.own.only (only_decSet (Only.refl g w2) _ _ _ _ _) H.out.1) (dec_set hd2 _ _ _ _ _) (only_decSet ho2 _ _ _ _ _))
          clear hd2 ho2 happ
          go_wp2
          go_roundg (gk - 1)
          case measure => have := hi.out; omega
          case rel =>
            refine ⟨i + 1, by go_num, ?_, HE.out⟩
            show i + 1 + (gk - 1) = s.size
            have := hi.out; omega
        · have hst : S.step y = ([], S.more y) := by unfold DecSt.step; rw [if_pos HG.out.2, if_neg hl1]
          have HS := Lib.hid hst; clear hst
          go_wp2_with fail
          refine HG.out.1.mono ?_
          rintro e w1 ⟨rfl, hd1, ho1⟩
          obtain ⟨⟨c0, c1, c2, c3, c4⟩, z0, z1, z2, z3, z4⟩ := hd1.facts
          have hz : (S.more y).l = S.l - 1 := rfl
          have hzb : (((S.l - 1 : Nat) : Int) == 0) = false := by simp; omega
          rw [hz] at c1
          have hapd : OwnR w1 w.heap.size u5 (out ++ []) := by rw [List.append_nil]; exact HI.out.1.only ho1 H.out.1
          have HE := Lib.hid (HN.out w1 u5 _ _ HS.out hapd hd1 (HI.out.2.2.2.trans ho1))
          clear hd1 ho1 hapd hz
          go_wp2
          go_roundg (gk - 1)
          case measure => have := hi.out; omega
          case rel =>
            refine ⟨i + 1, by go_num, ?_, HE.out⟩
            show i + 1 + (gk - 1) = s.size
            have := hi.out; omega
      · have hgo := goOn_no _ g S y hdec hg
        have hfl := Flush_any _ g S hdec hokS
        have hst : S.step y = (S.flush ++ (fresh y).1, (fresh y).2) := by unfold DecSt.step; rw [if_neg hg]
        have hfl1 := (len_flush S).2
        have HG := Lib.hid (And.intro hgo hfl); clear hgo hfl hg hdec hokS
        have HF := Lib.hid hfl1; clear hfl1
        go_wp2_with fail
        refine HG.out.1.mono ?_
        rintro e w1 ⟨rfl, rfl⟩
        go_wp2_with fail
        refine HG.out.2.mono ?_
        rintro e w2 ⟨v2, rfl, hown2, hd2, ho2⟩
        have HO := Lib.hid (HI.out.1.only ho2 H.out.1)
        have HX := Lib.hid (HI.out.2.2.2.trans ho2)
        go_wp2_with (at_builtin; refine wpList_app_runes rfl _ _ rfl w.heap.size u5 out rfl HO.out _ v2 S.flush rfl hown2 (by omega) (by have := HF.out; omega) HX.out.size ?_)
        intro v' w3 happ
        have hd3 : Dec w3 g .new := dec_grown hd2 HO.out happ.grown H.out.1
        have ho3 := only_grown HX.out HO.out happ.grown (Nat.le_refl _)
        have hF3 := Firsts.only H.out.2.2.1 ho3 H.out.2.1
        have HA := Lib.hid (And.intro happ.own (And.intro hd3 (And.intro ho3 hF3)))
        have hlen3 : (out ++ S.flush).length ≤ 1000005 := by rw [List.length_append]; have := HF.out; omega
        clear happ hd3 ho3 hF3 hown2 hd2 ho2
        generalize hL : out ++ S.flush = L at HA hlen3
        have HL := Lib.hid hL; clear hL
        by_cases hy1 : y < 128
        · have hst2 : S.step y = (S.flush ++ [(y : Int)], .new) := by rw [hst]; unfold fresh; rw [if_pos hy1]
          have HS := Lib.hid hst2; clear hst hst2
          have HO3 := Lib.hid (HA.out.1.ext ((Ext.refl _).alloc (.cells #[.int .i32 y] 21)))
          have HX3 := Lib.hid (HA.out.2.2.1.alloc (.cells #[.int .i32 y] 21))
          have hap : ∀ v'' w4, Appended w.heap.size v' (w3.alloc (.cells #[.int .i32 y] 21)) (L ++ [(y : Int)]) v'' w4 → FedAt w g st (bts s) (i + 1) v'' w4 := by
            intro v'' w4 happ
            refine HN.out w4 v'' _ _ HS.out ?_ (dec_grown (Blk.ext HA.out.2.1 ((Ext.refl _).alloc _)) HO3.out happ.grown H.out.1) (only_grown HX3.out HO3.out happ.grown (Nat.le_refl _))
            rw [← List.append_assoc, HL.out]
            exact happ.own
          have HAP := Lib.hid hap; clear hap
          go_wp2_with (at_builtin; refine wpList_app_rune rfl _ _ rfl w.heap.size v' L rfl HO3.out w3.heap.size y rfl (Lib.cell_of_heap (Go.heap_alloc_new w3 (.cells #[.int .i32 y] 21)) 0) (by omega) HX3.out.size ?_)
          intro v'' w4 happ
          have HE := Lib.hid (HAP.out v'' w4 happ)
          clear happ
          go_wp2
          go_roundg (gk - 1)
          case measure => have := hi.out; omega
          case rel =>
            refine ⟨i + 1, by go_num, ?_, HE.out⟩
            show i + 1 + (gk - 1) = s.size
            have := hi.out; omega
        · have hlead : S.step y = if (lead y).1 = 0 then (S.flush ++ [65533], .new) else (S.flush ++ [], .begun y) := by
            rw [hst]; unfold fresh; rw [if_neg hy1]; split <;> rfl
          have HS := Lib.hid hlead; clear hst hlead
          obtain ⟨go, hgo⟩ : ∃ go, go = gk := ⟨_, rfl⟩
          have hi2 := Lib.hid (show i + go = s.size by rw [hgo]; exact hi.out)
          have HGO := Lib.hid hgo; clear hgo
          go_wp2_with (refine wpList_load_mid rfl 61 (.global 1) rfl 1 0 rfl firstsCells _ HA.out.2.2.2 Tryd.underlying61 rfl infoFirsts ?_; rw [show firstsCells.toArray = firstsArr from rfl])
          generalize hAr : firstsArr = Ar
          have HAr := Lib.hid hAr; clear hAr
          go_loopg [50] 8 (fun k a wq => ∃ (j : Nat), a = .int .i64 j ∧ Hid (j + k = 8 ∧ (∀ t, t < j → ¬ (fN t 0 ≤ y ∧ y ≤ fN t 1)) ∧ Ext w3 wq))
          case atStart => exact ⟨0, rfl, by omega, fun t ht => absurd ht (Nat.not_lt_zero t), Ext.refl _⟩
          case round =>
            obtain ⟨j, rfl, hj⟩ := hrel
            by_cases hj8 : j < 8
            · have hix := fun W => HAr.out ▸ index_firsts j hj8 W
              by_cases h0 : fN j 0 ≤ y
              · by_cases h1 : y ≤ fN j 1
                · obtain ⟨hld, hnz⟩ := fN_lead j y hj8 h0 h1
                  have hbg := fun W => begun_any W (fN j 0) (fN j 1) (fN j 2) (fN j 3) (fN j 4) y hy8 hld hnz
                  have hst := HS.out
                  rw [if_neg (by rw [hld]; exact hnz)] at hst
                  rw [show decV (.begun y) = #[.int .i64 ((1 : Nat) : Int), .int .i64 ((fN j 2 : Nat) : Int), .int .u8 ((fN j 3 : Nat) : Int), .int .u8 ((fN j 4 : Nat) : Int), .int .i32 (((DecSt.begun y).r : Nat) : Int)] from by unfold decV DecSt.begun; rw [hld]] at hbg
                  have hdv : decV (.begun y) = #[.int .i64 1, .int .i64 ((fN j 2 : Nat) : Int), .int .u8 ((fN j 3 : Nat) : Int), .int .u8 ((fN j 4 : Nat) : Int), .int .i32 (((DecSt.begun y).r : Nat) : Int)] := by unfold decV DecSt.begun; rw [hld]; rfl
                  generalize (DecSt.begun y).r = r at hbg hdv
                  have HB := Lib.hid (And.intro hbg (And.intro hst hdv)); clear hbg hst hdv hld hnz
                  generalize fN j 0 = a0 at *
                  generalize fN j 1 = a1 at *
                  generalize fN j 2 = a2 at *
                  generalize fN j 3 = a3 at *
                  generalize fN j 4 = a4 at *
                  have hxa := hj.out.2.2.alloc (.cells #[.int .u8 (a0 : Nat), .int .u8 (a1 : Nat), .int .i64 (a2 : Nat), .int .u8 (a3 : Nat), .int .u8 (a4 : Nat)] 60)
                  have HXA := Lib.hid hxa; clear hxa hj
                  go_wp2_with fail
                  refine (HB.out.1 _).mono ?_
                  rintro e w5 ⟨rfl, hx5⟩
                  have hx := HXA.out.trans hx5
                  have hd5 := Blk.ext HA.out.2.1 hx
                  obtain ⟨⟨c0, c1, c2, c3, c4⟩, z0, z1, z2, z3, z4⟩ := Dec.facts hd5
                  have hdec : Dec (decSet w5 g (.int .i64 1) (.int .i64 (a2 : Nat)) (.int .u8 (a3 : Nat)) (.int .u8 (a4 : Nat)) (.int .i32 (r : Nat))) g (.begun y) := by
                    unfold Dec
                    rw [HB.out.2.2]
                    exact dec_set hd5 _ _ _ _ _
                  have hownL : OwnR w5 w.heap.size v' (out ++ (S.flush ++ [])) := by
                    rw [List.append_nil, HL.out]
                    exact HA.out.1.ext hx
                  have HE := Lib.hid (HN.out _ v' _ _ HB.out.2.1 (hownL.only (only_decSet (Only.refl g w5) _ _ _ _ _) H.out.1) hdec (only_decSet (HA.out.2.2.1.ext hx) _ _ _ _ _))
                  clear hx5 hx hd5 hdec hownL
                  go_wp2
                  go_roundg (go - 1)
                  case measure => have := hi2.out; have := HGO.out; omega
                  case rel =>
                    refine ⟨i + 1, by go_num, ?_, HE.out⟩
                    show i + 1 + (go - 1) = s.size
                    have := hi2.out; omega
                · have hnext : ∀ t, t < j + 1 → ¬ (fN t 0 ≤ y ∧ y ≤ fN t 1) := by
                    intro t ht hc
                    rcases Nat.lt_or_ge t j with h | h
                    · exact hj.out.2.1 t h hc
                    · obtain rfl : t = j := by omega
                      exact h1 hc.2
                  have hjk := hj.out.1
                  have HJ := Lib.hid (And.intro hnext (And.intro hjk (hj.out.2.2.alloc (.cells #[.int .u8 (fN j 0), .int .u8 (fN j 1), .int .i64 (fN j 2), .int .u8 (fN j 3), .int .u8 (fN j 4)] 60)))); clear hnext hj hjk
                  generalize fN j 0 = a0 at *
                  generalize fN j 1 = a1 at *
                  generalize fN j 2 = a2 at *
                  generalize fN j 3 = a3 at *
                  generalize fN j 4 = a4 at *
                  go_wp2
                  go_roundg (gk - 1)
                  case measure => have := HJ.out.2.1; omega
                  case rel =>
                    refine ⟨j + 1, by go_num, ?_, HJ.out.1, HJ.out.2.2⟩
                    have := HJ.out.2.1; omega
              · have hnext : ∀ t, t < j + 1 → ¬ (fN t 0 ≤ y ∧ y ≤ fN t 1) := by
                  intro t ht hc
                  rcases Nat.lt_or_ge t j with h | h
                  · exact hj.out.2.1 t h hc
                  · obtain rfl : t = j := by omega
                    exact h0 hc.1
                have hjk := hj.out.1
                have HJ := Lib.hid (And.intro hnext (And.intro hjk (hj.out.2.2.alloc (.cells #[.int .u8 (fN j 0), .int .u8 (fN j 1), .int .i64 (fN j 2), .int .u8 (fN j 3), .int .u8 (fN j 4)] 60)))); clear hnext hj hjk
                generalize fN j 0 = a0 at *
                generalize fN j 1 = a1 at *
                generalize fN j 2 = a2 at *
                generalize fN j 3 = a3 at *
                generalize fN j 4 = a4 at *
                go_wp2
                go_roundg (gk - 1)
                case measure => have := HJ.out.2.1; omega
                case rel =>
                  refine ⟨j + 1, by go_num, ?_, HJ.out.1, HJ.out.2.2⟩
                  have := HJ.out.2.1; omega
            · have hlz := fN_none y (fun t ht => hj.out.2.1 t (by omega))
              have hst := HS.out
              rw [if_pos hlz] at hst
              have HJ := Lib.hid (And.intro hst hj.out.2.2); clear hst hlz hj
              have HO3 := Lib.hid (HA.out.1.ext (HJ.out.2.alloc (.cells #[.int .i32 65533] 21)))
              have HX3 := Lib.hid (HA.out.2.2.1.ext (HJ.out.2.alloc (.cells #[.int .i32 65533] 21)))
              have hap : ∀ v'' w4, Appended w.heap.size v' (wr.alloc (.cells #[.int .i32 65533] 21)) (L ++ [65533]) v'' w4 → FedAt w g st (bts s) (i + 1) v'' w4 := by
                intro v'' w4 happ
                refine HN.out w4 v'' _ _ HJ.out.1 ?_ (dec_grown (Blk.ext HA.out.2.1 (HJ.out.2.alloc _)) HO3.out happ.grown H.out.1) (only_grown HX3.out HO3.out happ.grown (Nat.le_refl _))
                rw [← List.append_assoc, HL.out]
                exact happ.own
              have HAP := Lib.hid hap; clear hap
              go_wp2_with (at_builtin; refine wpList_app_rune rfl _ _ rfl w.heap.size v' L rfl HO3.out wr.heap.size 65533 rfl (Lib.cell_of_heap (Go.heap_alloc_new wr (.cells #[.int .i32 65533] 21)) 0) (by omega) HX3.out.size ?_)
              intro v'' w4 happ
              have HE := Lib.hid (HAP.out v'' w4 happ)
              clear happ
              go_wp2
              go_roundg (go - 1)
              case measure => have := hi2.out; have := HGO.out; omega
              case rel =>
                refine ⟨i + 1, by go_num, ?_, HE.out⟩
                show i + 1 + (go - 1) = s.size
                have := hi2.out; omega
    · have hil : i = s.size := by have := hi.out; omega
      have he : (bts s).take i = bts s := List.take_of_length_le (by rw [bts_len]; omega)
      have h1 := hfed.out.own
      have h2 := hfed.out.dec
      rw [he] at h1 h2
      have HE := Lib.hid (And.intro h1 (And.intro h2 hfed.out.only)); clear hil he h1 h2 hfed
      go_wp2
      try rw [Exit.noGoto_ret]
      go_ret
      exact ⟨_, rfl, HE.out.1, HE.out.2.1, HE.out.2.2⟩
end Go.Proofs.YtghbonkbifnidaaDoor
