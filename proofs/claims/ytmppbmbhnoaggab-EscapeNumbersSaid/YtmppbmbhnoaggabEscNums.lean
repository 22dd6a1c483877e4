/- The law EscapeNumbers, walked. -/
import Derived.Test.YtmppbmbhnoaggabEscNum
import Derived.Test.YtmppbmbhnoaggabCutInts
import Derived.Test.YtmppbmbhnoaggabMask
namespace Go.Proofs.Ytmppbmbhnoaggab
open Go Go.RowKit
attribute [local go_sem 10000] eq_nums_same

theorem rest63 (a : Int) : ∃ I : Nat, I < 63 ∧ (wrap64 (a.tmod 63 + 63)).tmod 63 = (I : Int) := by
  have h1 := Int.tmod_lt_of_pos a (show (0 : Int) < 63 by decide)
  have h2 := Int.lt_tmod_of_pos a (show (0 : Int) < 63 by decide)
  generalize a.tmod 63 = u at h1 h2
  rw [show wrap64 (u + 63) = u + 63 by unfold wrap64; omega]
  have h3 := Int.tmod_lt_of_pos (u + 63) (show (0 : Int) < 63 by decide)
  have h4 := Int.tmod_nonneg 63 (show 0 ≤ u + 63 by omega)
  exact ⟨((u + 63).tmod 63).toNat, by omega, by omega⟩
theorem low17 (m : Int) : ∃ K : Nat, K < 131072 ∧ bits .and .i64 m 131071 = (K : Int) := by
  have h := i64_mask m 17 (by decide) 131071 (by decide)
  refine ⟨(m % 131072).toNat, by omega, ?_⟩
  rw [h]
  have : ((2 ^ 17 : Nat) : Int) = 131072 := by decide
  rw [this]; omega
theorem low1 (K : Nat) : bits .and .i64 (K : Int) 1 = ((K % 2 : Nat) : Int) := by
  have h := i64_mask (K : Int) 1 (by decide) 1 (by decide)
  rw [h]
  have : ((2 ^ 1 : Nat) : Int) = 2 := by decide
  rw [this]; omega
theorem OwnR.beside {w : World} {base g : Nat} {v : Value} {l : List Int} (h : OwnR w base v l) (hg : g < base) : Beside v g := by
  intro g' off n c e
  subst e
  rcases h.2 with ⟨e, _⟩ | ⟨g2, cap, cur, e, hb, _⟩
  · injection e with e1 _ _; cases e1
  · injection e with e1 _ _
    injection e1 with e1
    injection e1 with e1 _ _
    omega
def tens (t : Nat) : Int := [10000, 1000, 100, 10, 1, 0].getD t 0
/-- What holds at the head of the round for the i-th number. -/
structure NumsSt (W : World) (i : Nat) (v : Value) (wr : World) (l ns : List Int) : Prop where
  writ : Writ i l ns
  st : InSt W ns l v wr
theorem set_want {W w : World} {ns l : List Int} {v : Value} (h : InSt W ns l v w) (i : Nat) (C : Int) : InSt W (ns.set i C) l v (w.setCell ⟨W.heap.size, i, none⟩ (.int .i64 C)) := by
  refine ⟨h.own.only ((Only.refl W.heap.size w).setCell _) (by omega), ?_, ext_only h.ext ((Only.refl W.heap.size w).setCell _) (Nat.le_refl _)⟩
  have := Blk.set_ h.want i (.int .i64 C)
  rwa [show (numsV ns).setIfInBounds i (.int .i64 C) = numsV (ns.set i C) by unfold numsV; simp] at this
set_option maxHeartbeats 8000000 in
set_option maxRecDepth 100000 in
theorem escapeNumbers_true (xs : List Int) (v : Value) (a : Int) (w : World) (hv : IsInts w v xs) (hm : xs.length ≤ maxLen) :
    Calls Try.prog 6 #[v, .int .i64 a] w fun e w' => e = .returned (.bool true) ∧ Ext w w' := by
  obtain ⟨A, c, rfl, hc, _⟩ := hv.form
  obtain ⟨L, hL⟩ : ∃ L, xs.length = L := ⟨_, rfl⟩
  rw [hL] at hv hm hc ⊢
  have hm2 : L ≤ 9223372036854775807 := hm
  have H := Lib.hid (And.intro hv hL); clear hv hm hL
  go_enter Try.func6, Try.ntmps6
  go_wp2_with fail
  refine (awake_true _).mono ?_
  rintro e W ⟨rfl, hx1⟩
  have HV := Lib.hid (And.intro (H.out.1.ext hx1) H.out.2)
  have H1 := Lib.hid hx1; clear hx1
  go_wp2
  go_loopg [6, 8, 9] (min L 10) (fun k b n j wr => ∃ (i : Nat) (l ns : List Int), Hid (i + k = min L 10) ∧ n = .int .i64 ((min i 8 : Nat) : Int) ∧ j = .int .i64 i ∧ Hid (NumsSt W i b wr l ns))
  case atStart => exact ⟨0, [], z8, Nat.zero_add _, rfl, rfl, writ_zero, OwnR.nil _ _, Go.heap_alloc_new _ _, (Ext.refl _).alloc _⟩
  case round =>
    obtain ⟨i, l, ns, hi, rfl, rfl, hin⟩ := hrel
    by_cases hlt : i < L ∧ i < 10
    · obtain ⟨hlt, hlt10⟩ := hlt
      obtain ⟨N8, hN8⟩ : ∃ N8, min i 8 = N8 := ⟨_, rfl⟩
      rw [hN8]
      have HN8 := Lib.hid hN8; clear hN8
      obtain ⟨m, hm⟩ : ∃ m, xs[i]? = some m := ⟨xs[i]'(by rw [HV.out.2]; exact hlt), List.getElem?_eq_getElem _⟩
      obtain ⟨_, ga, offa, rfl, ca⟩ := HV.out.1.at hm
      have da := hin.out.st.ext.cell ca
      obtain ⟨K, hK17, hK⟩ := low17 m
      have hlen := hin.out.writ.size
      have hl8 := hin.out.writ.len
      have hnext := writ_next hin.out.writ K
      have hwrit : writ i K = (if 0 < i then [58 + ((K % 2 : Nat) : Int)] else []) ++ digs K := rfl
      obtain ⟨P, hP⟩ : ∃ P, (if 0 < i then [58 + ((K % 2 : Nat) : Int)] else []) = P := ⟨_, rfl⟩
      rw [hP] at hwrit
      have hPl : P.length ≤ 1 := by rw [← hP]; split <;> simp
      rw [hwrit] at hnext
      have HW := Lib.hid (And.intro hnext (And.intro hlen (And.intro hPl (And.intro hl8 hm)))); clear hnext hwrit hlen hPl hl8 hm ca
      obtain ⟨go, hgo⟩ : ∃ go, go = gk := ⟨_, rfl⟩
      have hi2 := Lib.hid (show i + go = min L 10 by rw [hgo]; exact hi.out)
      have HGO := Lib.hid hgo; clear hgo hi
      have hI0 := hin.out.st
      have HIN := Lib.hid hI0; clear hI0 hin
      by_cases hi0 : 0 < i
      · obtain ⟨B, hB⟩ : ∃ B : Int, 58 + ((K % 2 : Nat) : Int) = B := ⟨_, rfl⟩
        have hB1 : 58 ≤ B ∧ B ≤ 59 := by omega
        rw [if_pos hi0, hB] at hP
        have hBB : wrap32 (wrap64 (58 + bits .and .i64 (K : Int) 1)) = B := by rw [low1]; unfold wrap32 wrap64; omega
        have HBB := Lib.hid (And.intro hP hB); clear hP hB
        go_wp2_with (at_builtin; refine wpList_app_rune rfl _ _ rfl (W.heap.size + 1) u6 l rfl (HIN.out.own.ext ((Ext.refl wr).alloc (.cells #[.int .i32 B] 21))) wr.heap.size B rfl (Lib.cell_of_heap (Go.heap_alloc_new wr (.cells #[.int .i32 B] 21)) 0) (by have := HW.out.2.1; omega) (by have := HIN.out.gt; simp; omega) ?_)
        intro v1 w1 happ
        have hI1 := HIN.out.app happ
        rw [HBB.out.1] at hI1
        have HI1 := Lib.hid hI1; clear hI1 happ da hBB hK
        go_wp2
        go_loopg [6, 11] 5 (fun k b d wq => ∃ (t : Nat), Hid (t + k = 5) ∧ d = .int .i64 (tens t) ∧ Hid (InSt W ns (l ++ P ++ (digs K).take t) b wq))
        case atStart => exact ⟨0, rfl, rfl, by rw [List.take_zero, List.append_nil]; exact HI1.out⟩
        case round =>
          obtain ⟨t, ht, rfl, hq⟩ := hrel
          have ht6 : t = 0 ∨ t = 1 ∨ t = 2 ∨ t = 3 ∨ t = 4 ∨ t = 5 := by have := ht.out; omega
          rcases ht6 with rfl | rfl | rfl | rfl | rfl | rfl
          · obtain ⟨D, hD⟩ : ∃ D : Int, 48 + ((K / 10000 % 10 : Nat) : Int) = D := ⟨_, rfl⟩
            have hD1 : 48 ≤ D ∧ D ≤ 57 := by omega
            have hDD : 48 + (K : Int) / 10000 % 10 = D := by omega
            rw [show tens 0 = 10000 from rfl]
            have hQl : (l ++ P ++ (digs K).take 0).length ≤ 100 := by have := HW.out.2.1; have := HW.out.2.2.1; simp only [List.length_append, List.length_take]; omega
            generalize hQ : l ++ P ++ (digs K).take 0 = Q0 at hq hQl
            have HQ := Lib.hid hQ; clear hQ
            have hql := hq.out.own
            have hqg := hq.out.gt
            have HD := Lib.hid hD; clear hD
            go_wp2_with (at_builtin; refine wpList_app_rune rfl _ _ rfl (W.heap.size + 1) u6 _ rfl (hql.ext ((Ext.refl wr).alloc (.cells #[.int .i32 D] 21))) wr.heap.size D rfl (Lib.cell_of_heap (Go.heap_alloc_new wr (.cells #[.int .i32 D] 21)) 0) (by omega) (by simp; omega) ?_)
            intro v2 w2 happ
            have hI2 := hq.out.app happ
            rw [← HQ.out, List.append_assoc, show (digs K).take 0 ++ [D] = (digs K).take 1 by rw [← HD.out]; rfl] at hI2
            have HI2 := Lib.hid hI2; clear hI2 happ hDD hql hqg
            go_wp2
            go_roundg (gk - 1)
            case measure => have := ht.out; omega
            case rel => exact ⟨1, by have := ht.out; show 1 + (gk - 1) = 5; omega, rfl, HI2.out⟩
          · obtain ⟨D, hD⟩ : ∃ D : Int, 48 + ((K / 1000 % 10 : Nat) : Int) = D := ⟨_, rfl⟩
            have hD1 : 48 ≤ D ∧ D ≤ 57 := by omega
            have hDD : 48 + (K : Int) / 1000 % 10 = D := by omega
            rw [show tens 1 = 1000 from rfl]
            have hQl : (l ++ P ++ (digs K).take 1).length ≤ 100 := by have := HW.out.2.1; have := HW.out.2.2.1; simp only [List.length_append, List.length_take]; omega
            generalize hQ : l ++ P ++ (digs K).take 1 = Q0 at hq hQl
            have HQ := Lib.hid hQ; clear hQ
            have hql := hq.out.own
            have hqg := hq.out.gt
            have HD := Lib.hid hD; clear hD
            go_wp2_with (at_builtin; refine wpList_app_rune rfl _ _ rfl (W.heap.size + 1) u6 _ rfl (hql.ext ((Ext.refl wr).alloc (.cells #[.int .i32 D] 21))) wr.heap.size D rfl (Lib.cell_of_heap (Go.heap_alloc_new wr (.cells #[.int .i32 D] 21)) 0) (by omega) (by simp; omega) ?_)
            intro v2 w2 happ
            have hI2 := hq.out.app happ
            rw [← HQ.out, List.append_assoc, show (digs K).take 1 ++ [D] = (digs K).take 2 by rw [← HD.out]; rfl] at hI2
            have HI2 := Lib.hid hI2; clear hI2 happ hDD hql hqg
            go_wp2
            go_roundg (gk - 1)
            case measure => have := ht.out; omega
            case rel => exact ⟨2, by have := ht.out; show 2 + (gk - 1) = 5; omega, rfl, HI2.out⟩
          · obtain ⟨D, hD⟩ : ∃ D : Int, 48 + ((K / 100 % 10 : Nat) : Int) = D := ⟨_, rfl⟩
            have hD1 : 48 ≤ D ∧ D ≤ 57 := by omega
            have hDD : 48 + (K : Int) / 100 % 10 = D := by omega
            rw [show tens 2 = 100 from rfl]
            have hQl : (l ++ P ++ (digs K).take 2).length ≤ 100 := by have := HW.out.2.1; have := HW.out.2.2.1; simp only [List.length_append, List.length_take]; omega
            generalize hQ : l ++ P ++ (digs K).take 2 = Q0 at hq hQl
            have HQ := Lib.hid hQ; clear hQ
            have hql := hq.out.own
            have hqg := hq.out.gt
            have HD := Lib.hid hD; clear hD
            go_wp2_with (at_builtin; refine wpList_app_rune rfl _ _ rfl (W.heap.size + 1) u6 _ rfl (hql.ext ((Ext.refl wr).alloc (.cells #[.int .i32 D] 21))) wr.heap.size D rfl (Lib.cell_of_heap (Go.heap_alloc_new wr (.cells #[.int .i32 D] 21)) 0) (by omega) (by simp; omega) ?_)
            intro v2 w2 happ
            have hI2 := hq.out.app happ
            rw [← HQ.out, List.append_assoc, show (digs K).take 2 ++ [D] = (digs K).take 3 by rw [← HD.out]; rfl] at hI2
            have HI2 := Lib.hid hI2; clear hI2 happ hDD hql hqg
            go_wp2
            go_roundg (gk - 1)
            case measure => have := ht.out; omega
            case rel => exact ⟨3, by have := ht.out; show 3 + (gk - 1) = 5; omega, rfl, HI2.out⟩
          · obtain ⟨D, hD⟩ : ∃ D : Int, 48 + ((K / 10 % 10 : Nat) : Int) = D := ⟨_, rfl⟩
            have hD1 : 48 ≤ D ∧ D ≤ 57 := by omega
            have hDD : 48 + (K : Int) / 10 % 10 = D := by omega
            rw [show tens 3 = 10 from rfl]
            have hQl : (l ++ P ++ (digs K).take 3).length ≤ 100 := by have := HW.out.2.1; have := HW.out.2.2.1; simp only [List.length_append, List.length_take]; omega
            generalize hQ : l ++ P ++ (digs K).take 3 = Q0 at hq hQl
            have HQ := Lib.hid hQ; clear hQ
            have hql := hq.out.own
            have hqg := hq.out.gt
            have HD := Lib.hid hD; clear hD
            go_wp2_with (at_builtin; refine wpList_app_rune rfl _ _ rfl (W.heap.size + 1) u6 _ rfl (hql.ext ((Ext.refl wr).alloc (.cells #[.int .i32 D] 21))) wr.heap.size D rfl (Lib.cell_of_heap (Go.heap_alloc_new wr (.cells #[.int .i32 D] 21)) 0) (by omega) (by simp; omega) ?_)
            intro v2 w2 happ
            have hI2 := hq.out.app happ
            rw [← HQ.out, List.append_assoc, show (digs K).take 3 ++ [D] = (digs K).take 4 by rw [← HD.out]; rfl] at hI2
            have HI2 := Lib.hid hI2; clear hI2 happ hDD hql hqg
            go_wp2
            go_roundg (gk - 1)
            case measure => have := ht.out; omega
            case rel => exact ⟨4, by have := ht.out; show 4 + (gk - 1) = 5; omega, rfl, HI2.out⟩
          · obtain ⟨D, hD⟩ : ∃ D : Int, 48 + ((K / 1 % 10 : Nat) : Int) = D := ⟨_, rfl⟩
            have hD1 : 48 ≤ D ∧ D ≤ 57 := by omega
            have hDD : 48 + (K : Int) % 10 = D := by omega
            rw [show tens 4 = 1 from rfl]
            have hQl : (l ++ P ++ (digs K).take 4).length ≤ 100 := by have := HW.out.2.1; have := HW.out.2.2.1; simp only [List.length_append, List.length_take]; omega
            generalize hQ : l ++ P ++ (digs K).take 4 = Q0 at hq hQl
            have HQ := Lib.hid hQ; clear hQ
            have hql := hq.out.own
            have hqg := hq.out.gt
            have HD := Lib.hid hD; clear hD
            go_wp2_with (at_builtin; refine wpList_app_rune rfl _ _ rfl (W.heap.size + 1) u6 _ rfl (hql.ext ((Ext.refl wr).alloc (.cells #[.int .i32 D] 21))) wr.heap.size D rfl (Lib.cell_of_heap (Go.heap_alloc_new wr (.cells #[.int .i32 D] 21)) 0) (by omega) (by simp; omega) ?_)
            intro v2 w2 happ
            have hI2 := hq.out.app happ
            rw [← HQ.out, List.append_assoc, show (digs K).take 4 ++ [D] = (digs K).take 5 by rw [← HD.out]; rfl] at hI2
            have HI2 := Lib.hid hI2; clear hI2 happ hDD hql hqg
            go_wp2
            go_roundg (gk - 1)
            case measure => have := ht.out; omega
            case rel => exact ⟨5, by have := ht.out; show 5 + (gk - 1) = 5; omega, rfl, HI2.out⟩
          · rw [show tens 5 = 0 from rfl]
            have hfull : InSt W ns (l ++ (P ++ digs K)) u6 wr := by
              have := hq.out
              rwa [show (digs K).take 5 = digs K from rfl, List.append_assoc] at this
            have HF := Lib.hid hfull; clear hfull hq ht
            by_cases h8 : i < 8
            · obtain ⟨M, hM⟩ : ∃ M, K % 100000 = M := ⟨_, rfl⟩
              have hMI : (K : Int).tmod 100000 = (M : Int) := by rw [Int.tmod_eq_emod_of_nonneg (Int.natCast_nonneg K)]; omega
              obtain ⟨z, hz⟩ : ∃ z, ns[i]? = some z := ⟨ns[i]'(by rw [HW.out.2.2.2.1]; exact h8), List.getElem?_eq_getElem _⟩
              have dz : wr.cell? ⟨W.heap.size, i, none⟩ = some (.int .i64 z) := by rw [Blk.cell HF.out.want i]; simp [numsV, hz]
              have fz : wr.frozen? ⟨W.heap.size, i, none⟩ = false := Blk.frozen HF.out.want i
              have HM := Lib.hid (And.intro hM hz); clear hM hz
              have h8I : (i : Int) < 8 := by omega
              by_cases hcap : M ≤ 9999
              · have hcI : (M : Int) ≤ 9999 := by omega
                have hset := set_want HF.out i (M : Int)
                have hN := HW.out.1
                rw [if_pos h8, show capN K = (M : Int) by unfold capN; rw [HM.out.1]; omega] at hN
                have HS := Lib.hid (show NumsSt W (i + 1) u6 _ _ _ from ⟨hN, hset⟩); clear hN hset
                go_wp2
                go_roundg (go - 1)
                case measure => have := hi2.out; have := HGO.out; omega
                case rel => exact ⟨i + 1, _, _, by have := hi2.out; show i + 1 + (go - 1) = min L 10; omega, by rw [show min (i + 1) 8 = i + 1 by omega]; rfl, by go_num, HS.out⟩
              · have hcI : (9999 : Int) < (M : Int) := by omega
                have hset := set_want HF.out i 9999
                have hN := HW.out.1
                rw [if_pos h8, show capN K = 9999 by unfold capN; rw [HM.out.1]; omega] at hN
                have HS := Lib.hid (show NumsSt W (i + 1) u6 _ _ _ from ⟨hN, hset⟩); clear hN hset
                go_wp2
                go_roundg (go - 1)
                case measure => have := hi2.out; have := HGO.out; omega
                case rel => exact ⟨i + 1, _, _, by have := hi2.out; show i + 1 + (go - 1) = min L 10; omega, by rw [show min (i + 1) 8 = i + 1 by omega]; rfl, by go_num, HS.out⟩
            · have hN := HW.out.1
              rw [if_neg h8] at hN
              have HS := Lib.hid (show NumsSt W (i + 1) u6 _ _ _ from ⟨hN, HF.out⟩); clear hN
              have h8I : (8 : Int) ≤ (i : Int) := by omega
              go_wp2
              go_roundg (go - 1)
              case measure => have := hi2.out; have := HGO.out; omega
              case rel => exact ⟨i + 1, _, _, by have := hi2.out; show i + 1 + (go - 1) = min L 10; omega, by rw [← HN8.out, show min (i + 1) 8 = min i 8 by omega], by go_num, HS.out⟩
      · rw [if_neg hi0] at hP
        have hI1 := HIN.out
        rw [← List.append_nil l, hP] at hI1
        have HI1 := Lib.hid hI1; clear hI1 hP
        have hI10 : (i : Int) < 10 := by omega
        go_wp2
        clear hK da
        go_loopg [6, 11] 5 (fun k b d wq => ∃ (t : Nat), Hid (t + k = 5) ∧ d = .int .i64 (tens t) ∧ Hid (InSt W ns (l ++ P ++ (digs K).take t) b wq))
        case atStart => exact ⟨0, rfl, rfl, by rw [List.take_zero, List.append_nil]; exact HI1.out⟩
        case round =>
          obtain ⟨t, ht, rfl, hq⟩ := hrel
          have ht6 : t = 0 ∨ t = 1 ∨ t = 2 ∨ t = 3 ∨ t = 4 ∨ t = 5 := by have := ht.out; omega
          rcases ht6 with rfl | rfl | rfl | rfl | rfl | rfl
          · obtain ⟨D, hD⟩ : ∃ D : Int, 48 + ((K / 10000 % 10 : Nat) : Int) = D := ⟨_, rfl⟩
            have hD1 : 48 ≤ D ∧ D ≤ 57 := by omega
            have hDD : 48 + (K : Int) / 10000 % 10 = D := by omega
            rw [show tens 0 = 10000 from rfl]
            have hQl : (l ++ P ++ (digs K).take 0).length ≤ 100 := by have := HW.out.2.1; have := HW.out.2.2.1; simp only [List.length_append, List.length_take]; omega
            generalize hQ : l ++ P ++ (digs K).take 0 = Q0 at hq hQl
            have HQ := Lib.hid hQ; clear hQ
            have hql := hq.out.own
            have hqg := hq.out.gt
            have HD := Lib.hid hD; clear hD
            go_wp2_with (at_builtin; refine wpList_app_rune rfl _ _ rfl (W.heap.size + 1) u6 _ rfl (hql.ext ((Ext.refl wr).alloc (.cells #[.int .i32 D] 21))) wr.heap.size D rfl (Lib.cell_of_heap (Go.heap_alloc_new wr (.cells #[.int .i32 D] 21)) 0) (by omega) (by simp; omega) ?_)
            intro v2 w2 happ
            have hI2 := hq.out.app happ
            rw [← HQ.out, List.append_assoc, show (digs K).take 0 ++ [D] = (digs K).take 1 by rw [← HD.out]; rfl] at hI2
            have HI2 := Lib.hid hI2; clear hI2 happ hDD hql hqg
            go_wp2
            go_roundg (gk - 1)
            case measure => have := ht.out; omega
            case rel => exact ⟨1, by have := ht.out; show 1 + (gk - 1) = 5; omega, rfl, HI2.out⟩
          · obtain ⟨D, hD⟩ : ∃ D : Int, 48 + ((K / 1000 % 10 : Nat) : Int) = D := ⟨_, rfl⟩
            have hD1 : 48 ≤ D ∧ D ≤ 57 := by omega
            have hDD : 48 + (K : Int) / 1000 % 10 = D := by omega
            rw [show tens 1 = 1000 from rfl]
            have hQl : (l ++ P ++ (digs K).take 1).length ≤ 100 := by have := HW.out.2.1; have := HW.out.2.2.1; simp only [List.length_append, List.length_take]; omega
            generalize hQ : l ++ P ++ (digs K).take 1 = Q0 at hq hQl
            have HQ := Lib.hid hQ; clear hQ
            have hql := hq.out.own
            have hqg := hq.out.gt
            have HD := Lib.hid hD; clear hD
            go_wp2_with (at_builtin; refine wpList_app_rune rfl _ _ rfl (W.heap.size + 1) u6 _ rfl (hql.ext ((Ext.refl wr).alloc (.cells #[.int .i32 D] 21))) wr.heap.size D rfl (Lib.cell_of_heap (Go.heap_alloc_new wr (.cells #[.int .i32 D] 21)) 0) (by omega) (by simp; omega) ?_)
            intro v2 w2 happ
            have hI2 := hq.out.app happ
            rw [← HQ.out, List.append_assoc, show (digs K).take 1 ++ [D] = (digs K).take 2 by rw [← HD.out]; rfl] at hI2
            have HI2 := Lib.hid hI2; clear hI2 happ hDD hql hqg
            go_wp2
            go_roundg (gk - 1)
            case measure => have := ht.out; omega
            case rel => exact ⟨2, by have := ht.out; show 2 + (gk - 1) = 5; omega, rfl, HI2.out⟩
          · obtain ⟨D, hD⟩ : ∃ D : Int, 48 + ((K / 100 % 10 : Nat) : Int) = D := ⟨_, rfl⟩
            have hD1 : 48 ≤ D ∧ D ≤ 57 := by omega
            have hDD : 48 + (K : Int) / 100 % 10 = D := by omega
            rw [show tens 2 = 100 from rfl]
            have hQl : (l ++ P ++ (digs K).take 2).length ≤ 100 := by have := HW.out.2.1; have := HW.out.2.2.1; simp only [List.length_append, List.length_take]; omega
            generalize hQ : l ++ P ++ (digs K).take 2 = Q0 at hq hQl
            have HQ := Lib.hid hQ; clear hQ
            have hql := hq.out.own
            have hqg := hq.out.gt
            have HD := Lib.hid hD; clear hD
            go_wp2_with (at_builtin; refine wpList_app_rune rfl _ _ rfl (W.heap.size + 1) u6 _ rfl (hql.ext ((Ext.refl wr).alloc (.cells #[.int .i32 D] 21))) wr.heap.size D rfl (Lib.cell_of_heap (Go.heap_alloc_new wr (.cells #[.int .i32 D] 21)) 0) (by omega) (by simp; omega) ?_)
            intro v2 w2 happ
            have hI2 := hq.out.app happ
            rw [← HQ.out, List.append_assoc, show (digs K).take 2 ++ [D] = (digs K).take 3 by rw [← HD.out]; rfl] at hI2
            have HI2 := Lib.hid hI2; clear hI2 happ hDD hql hqg
            go_wp2
            go_roundg (gk - 1)
            case measure => have := ht.out; omega
            case rel => exact ⟨3, by have := ht.out; show 3 + (gk - 1) = 5; omega, rfl, HI2.out⟩
          · obtain ⟨D, hD⟩ : ∃ D : Int, 48 + ((K / 10 % 10 : Nat) : Int) = D := ⟨_, rfl⟩
            have hD1 : 48 ≤ D ∧ D ≤ 57 := by omega
            have hDD : 48 + (K : Int) / 10 % 10 = D := by omega
            rw [show tens 3 = 10 from rfl]
            have hQl : (l ++ P ++ (digs K).take 3).length ≤ 100 := by have := HW.out.2.1; have := HW.out.2.2.1; simp only [List.length_append, List.length_take]; omega
            generalize hQ : l ++ P ++ (digs K).take 3 = Q0 at hq hQl
            have HQ := Lib.hid hQ; clear hQ
            have hql := hq.out.own
            have hqg := hq.out.gt
            have HD := Lib.hid hD; clear hD
            go_wp2_with (at_builtin; refine wpList_app_rune rfl _ _ rfl (W.heap.size + 1) u6 _ rfl (hql.ext ((Ext.refl wr).alloc (.cells #[.int .i32 D] 21))) wr.heap.size D rfl (Lib.cell_of_heap (Go.heap_alloc_new wr (.cells #[.int .i32 D] 21)) 0) (by omega) (by simp; omega) ?_)
            intro v2 w2 happ
            have hI2 := hq.out.app happ
            rw [← HQ.out, List.append_assoc, show (digs K).take 3 ++ [D] = (digs K).take 4 by rw [← HD.out]; rfl] at hI2
            have HI2 := Lib.hid hI2; clear hI2 happ hDD hql hqg
            go_wp2
            go_roundg (gk - 1)
            case measure => have := ht.out; omega
            case rel => exact ⟨4, by have := ht.out; show 4 + (gk - 1) = 5; omega, rfl, HI2.out⟩
          · obtain ⟨D, hD⟩ : ∃ D : Int, 48 + ((K / 1 % 10 : Nat) : Int) = D := ⟨_, rfl⟩
            have hD1 : 48 ≤ D ∧ D ≤ 57 := by omega
            have hDD : 48 + (K : Int) % 10 = D := by omega
            rw [show tens 4 = 1 from rfl]
            have hQl : (l ++ P ++ (digs K).take 4).length ≤ 100 := by have := HW.out.2.1; have := HW.out.2.2.1; simp only [List.length_append, List.length_take]; omega
            generalize hQ : l ++ P ++ (digs K).take 4 = Q0 at hq hQl
            have HQ := Lib.hid hQ; clear hQ
            have hql := hq.out.own
            have hqg := hq.out.gt
            have HD := Lib.hid hD; clear hD
            go_wp2_with (at_builtin; refine wpList_app_rune rfl _ _ rfl (W.heap.size + 1) u6 _ rfl (hql.ext ((Ext.refl wr).alloc (.cells #[.int .i32 D] 21))) wr.heap.size D rfl (Lib.cell_of_heap (Go.heap_alloc_new wr (.cells #[.int .i32 D] 21)) 0) (by omega) (by simp; omega) ?_)
            intro v2 w2 happ
            have hI2 := hq.out.app happ
            rw [← HQ.out, List.append_assoc, show (digs K).take 4 ++ [D] = (digs K).take 5 by rw [← HD.out]; rfl] at hI2
            have HI2 := Lib.hid hI2; clear hI2 happ hDD hql hqg
            go_wp2
            go_roundg (gk - 1)
            case measure => have := ht.out; omega
            case rel => exact ⟨5, by have := ht.out; show 5 + (gk - 1) = 5; omega, rfl, HI2.out⟩
          · rw [show tens 5 = 0 from rfl]
            have hfull : InSt W ns (l ++ (P ++ digs K)) u6 wr := by
              have := hq.out
              rwa [show (digs K).take 5 = digs K from rfl, List.append_assoc] at this
            have HF := Lib.hid hfull; clear hfull hq ht
            by_cases h8 : i < 8
            · obtain ⟨M, hM⟩ : ∃ M, K % 100000 = M := ⟨_, rfl⟩
              have hMI : (K : Int).tmod 100000 = (M : Int) := by rw [Int.tmod_eq_emod_of_nonneg (Int.natCast_nonneg K)]; omega
              obtain ⟨z, hz⟩ : ∃ z, ns[i]? = some z := ⟨ns[i]'(by rw [HW.out.2.2.2.1]; exact h8), List.getElem?_eq_getElem _⟩
              have dz : wr.cell? ⟨W.heap.size, i, none⟩ = some (.int .i64 z) := by rw [Blk.cell HF.out.want i]; simp [numsV, hz]
              have fz : wr.frozen? ⟨W.heap.size, i, none⟩ = false := Blk.frozen HF.out.want i
              have HM := Lib.hid (And.intro hM hz); clear hM hz
              have h8I : (i : Int) < 8 := by omega
              by_cases hcap : M ≤ 9999
              · have hcI : (M : Int) ≤ 9999 := by omega
                have hset := set_want HF.out i (M : Int)
                have hN := HW.out.1
                rw [if_pos h8, show capN K = (M : Int) by unfold capN; rw [HM.out.1]; omega] at hN
                have HS := Lib.hid (show NumsSt W (i + 1) u6 _ _ _ from ⟨hN, hset⟩); clear hN hset
                go_wp2
                go_roundg (go - 1)
                case measure => have := hi2.out; have := HGO.out; omega
                case rel => exact ⟨i + 1, _, _, by have := hi2.out; show i + 1 + (go - 1) = min L 10; omega, by rw [show min (i + 1) 8 = i + 1 by omega]; rfl, by go_num, HS.out⟩
              · have hcI : (9999 : Int) < (M : Int) := by omega
                have hset := set_want HF.out i 9999
                have hN := HW.out.1
                rw [if_pos h8, show capN K = 9999 by unfold capN; rw [HM.out.1]; omega] at hN
                have HS := Lib.hid (show NumsSt W (i + 1) u6 _ _ _ from ⟨hN, hset⟩); clear hN hset
                go_wp2
                go_roundg (go - 1)
                case measure => have := hi2.out; have := HGO.out; omega
                case rel => exact ⟨i + 1, _, _, by have := hi2.out; show i + 1 + (go - 1) = min L 10; omega, by rw [show min (i + 1) 8 = i + 1 by omega]; rfl, by go_num, HS.out⟩
            · exact absurd h8 (by omega)
    · obtain ⟨I, hI63, hI⟩ := rest63 a
      obtain ⟨F, hF⟩ : ∃ F : Int, (64 : Int) + (I : Int) = F := ⟨_, rfl⟩
      have hF1 : 64 ≤ F ∧ F ≤ 126 := by omega
      obtain ⟨N8, hN8⟩ : ∃ N8, min i 8 = N8 := ⟨_, rfl⟩
      have hi10 : i ≤ 10 := by have := hi.out; omega
      have hN88 : N8 ≤ 8 := by omega
      have hw := hin.out.writ
      have hst := hin.out.st
      obtain ⟨n0, n1, n2, n3, n4, n5, n6, n7, e8⟩ := eight _ hw.len
      have hrun := run_open l
      rw [hw.run] at hrun
      have hstep := step_end i ns F hF1.1 hF1.2
      rw [hN8] at hstep ⊢
      have hz0 : ∀ j : Nat, j < 8 → ∃ z : Int, ns[j]? = some z ∧ (0 ≤ z ∧ z ≤ 9999) := by
        intro j hj8
        obtain ⟨z, hz⟩ : ∃ z, ns[j]? = some z := ⟨ns[j]'(by rw [hw.len]; exact hj8), List.getElem?_eq_getElem _⟩
        exact ⟨z, hz, hw.nums z (List.mem_of_getElem? hz)⟩
      have hlen : l.length ≤ 60 := by have := hw.size; omega
      have hare : ∀ x, x ∈ ([27, 91] ++ l) → isI32 x := by
        intro x hx
        rcases List.mem_append.1 hx with hx | hx
        · simp only [List.mem_cons, List.not_mem_nil, or_false] at hx
          unfold isI32; omega
        · have := hw.are x hx; unfold isI32; omega
      have hok := ok_runE (s := .new) (ok_innE 0 (by decide) (by decide)) ([27, 91] ++ l)
      have hrun2 : runE .new ([27, 91] ++ l) = ([], ⟨2, 0, 0, min i 9, ns⟩) := hrun
      rw [hrun2] at hok
      have hown2 := own_lit (wr.alloc (.cells zero12 28)) [27, 91] 2 rfl (by unfold maxLen; decide) #[.int .i32 27, .int .i32 91] rfl
      rw [World.size_alloc] at hown2
      have hx2 := ((Ext.refl wr).alloc (.cells zero12 28)).alloc (.cells #[.int .i32 27, .int .i32 91] 21)
      have hpn : ParAt ((wr.alloc (.cells zero12 28)).alloc (.cells #[.int .i32 27, .int .i32 91] 21)) wr.heap.size .new := (par_new wr).ext ((Ext.refl _).alloc _)
      have HT := Lib.hid (And.intro hrun2 (And.intro hstep (And.intro hz0 (And.intro hare (And.intro hok (And.intro hown2 (And.intro hx2 (And.intro hpn (And.intro hst (And.intro e8 hN8))))))))))
      clear hrun hrun2 hstep hz0 hare hok hown2 hx2 hpn hst e8 hN8 hw hin hi
      have hcase : ¬ i < L ∨ (i < L ∧ ¬ i < 10) := by omega
      clear hlt
      rcases hcase with k1 | ⟨k1, k2⟩
      all_goals
        go_wp2_with (at_builtin; refine wpList_app_runes rfl _ _ rfl (wr.heap.size + 1) _ [27, 91] rfl HT.out.2.2.2.2.2.1 (W.heap.size + 1) u6 l rfl (HT.out.2.2.2.2.2.2.2.2.1.own.ext HT.out.2.2.2.2.2.2.1) (show 2 ≤ 2000000 by decide) (by omega) (by simp) ?_)
        intro v1 w1 happ
        have hg1 : W.heap.size < wr.heap.size := by have := HT.out.2.2.2.2.2.2.2.2.1.gt; omega
        have hp1 : ParAt w1 wr.heap.size .new := blk_grown HT.out.2.2.2.2.2.2.2.1 HT.out.2.2.2.2.2.1 happ.grown (by omega)
        have hw1 : Blk w1 W.heap.size 26 (numsV ns) := blk_grown (Blk.ext HT.out.2.2.2.2.2.2.2.2.1.want HT.out.2.2.2.2.2.2.1) HT.out.2.2.2.2.2.1 happ.grown (by omega)
        have hxw1 : Ext W w1 := ext_grown (HT.out.2.2.2.2.2.2.2.2.1.ext.trans HT.out.2.2.2.2.2.2.1) HT.out.2.2.2.2.2.1 happ.grown (by omega)
        have hb1 : Beside v1 wr.heap.size := happ.own.beside (by omega)
        have hr1 := happ.own.isRunes HT.out.2.2.2.1
        have H2 := Lib.hid (And.intro hp1 (And.intro hw1 (And.intro hxw1 (And.intro hb1 (And.intro hr1 hg1))))); clear happ hp1 hw1 hxw1 hb1 hr1 hg1
        go_wp2_with fail
        refine (Feed_of _ wr.heap.size .new v1 ([27, 91] ++ l) H2.out.1 (ok_innE 0 (by decide) (by decide)) H2.out.2.2.2.2.1 (fun _ => H2.out.2.2.2.1) (by rw [List.length_append]; simp; omega)).mono ?_
        rintro e w2 ⟨v2, rfl, ho2, hp2, hy2⟩
        rw [HT.out.1] at ho2 hp2
        obtain ⟨A2, c2, rfl, _⟩ := ho2.form
        have H3 := Lib.hid (And.intro hp2 (And.intro (H2.out.2.1.only hy2 (by have := H2.out.2.2.2.2.2; omega)) (ext_only H2.out.2.2.1 hy2 (by have := H2.out.2.2.2.2.2; omega)))); clear ho2 hp2 hy2
        go_wp2_with fail
        refine (Step_of _ wr.heap.size _ F H3.out.1 HT.out.2.2.2.2.1).mono ?_
        rw [HT.out.2.1, HT.out.2.2.2.2.2.2.2.2.2.1, told_any, show decide ((4 : Int) ≠ 0) = true from rfl]
        rintro e w3 ⟨rfl, hp3, hy3⟩
        have hw3 := H3.out.2.1.only hy3 (by have := H2.out.2.2.2.2.2; omega)
        have hx3 := ext_only H3.out.2.2 hy3 (by have := H2.out.2.2.2.2.2; omega)
        have hlt3 : W.heap.size < w3.heap.size := hw3.lt
        have hww : Blk w3 W.heap.size 26 #[.int .i64 n0, .int .i64 n1, .int .i64 n2, .int .i64 n3, .int .i64 n4, .int .i64 n5, .int .i64 n6, .int .i64 n7] := by rw [HT.out.2.2.2.2.2.2.2.2.2.1] at hw3; exact hw3
        have d0 : w3.cell? ⟨W.heap.size, 0, none⟩ = some (.int .i64 n0) := hww.cell 0
        have d1 : w3.cell? ⟨W.heap.size, 1, none⟩ = some (.int .i64 n1) := hww.cell 1
        have d2 : w3.cell? ⟨W.heap.size, 2, none⟩ = some (.int .i64 n2) := hww.cell 2
        have d3 : w3.cell? ⟨W.heap.size, 3, none⟩ = some (.int .i64 n3) := hww.cell 3
        have d4 : w3.cell? ⟨W.heap.size, 4, none⟩ = some (.int .i64 n4) := hww.cell 4
        have d5 : w3.cell? ⟨W.heap.size, 5, none⟩ = some (.int .i64 n5) := hww.cell 5
        have d6 : w3.cell? ⟨W.heap.size, 6, none⟩ = some (.int .i64 n6) := hww.cell 6
        have d7 : w3.cell? ⟨W.heap.size, 7, none⟩ = some (.int .i64 n7) := hww.cell 7
        obtain ⟨W0, hW0⟩ : ∃ W0, W0 = w3.alloc (.cells #[.int .i64 4, .int .i32 F, .int .u8 0, .int .u8 0, .int .i64 N8, .int .i64 n0, .int .i64 n1, .int .i64 n2, .int .i64 n3, .int .i64 n4, .int .i64 n5, .int .i64 n6, .int .i64 n7] 31) := ⟨_, rfl⟩
        have hxa : Ext w3 W0 := by rw [hW0]; exact (Ext.refl w3).alloc _
        have hact : ActAt W0 w3.heap.size 0 ⟨4, F, 0, 0, N8, [n0, n1, n2, n3, n4, n5, n6, n7]⟩ := blk_actAt _ _ _ (by rw [hW0]; exact Go.heap_alloc_new _ _)
        have HW := Lib.hid (And.intro hW0 (And.intro hxa (And.intro hact (And.intro (hp3.ext hxa) (And.intro (hw3.ext hxa) (hx3.trans hxa)))))); clear hW0 hxa hact hp3 hw3 hx3 hy3 hww
        go_wp2_with fail
        refine (Idle_of _ wr.heap.size .new (HW.out.1 ▸ HW.out.2.2.2.1) rfl).mono ?_
        rintro e w4 ⟨rfl, rfl⟩
        rw [show decide (Par.new.st = 0) = true from rfl]
        go_wp2
        go_loopg [17] 10 (fun k j wq => ∃ (t : Nat), Hid (t + k = 10) ∧ j = .int .i64 ((t : Int) - 1) ∧ Hid (Ext W0 wq))
        case atStart => exact ⟨0, rfl, rfl, by rw [HW.out.1]; exact Ext.refl _⟩
        case round =>
          clear d0 d1 d2 d3 d4 d5 d6 d7
          obtain ⟨t, ht, rfl, hq⟩ := hrel
          obtain ⟨a0, a1, a2, a3, a4, a5, a6, a7, a8, a9, aa, ab, ac⟩ := (HW.out.2.2.1.ext hq.out).facts
          simp only [Nat.zero_add] at a0 a1 a2 a3 a4 a5 a6 a7 a8 a9 aa ab ac
          rcases Nat.eq_zero_or_pos t with rfl | htp
          · rw [show (((0 : Nat) : Int) - 1) = -1 from rfl]
            go_wp2_with fail
            refine (Num_of 4 F 0 0 N8 n0 n1 n2 n3 n4 n5 n6 n7 (-1) 0 _ hN88).mono ?_
            rintro e w5 ⟨rfl, hx5⟩
            rw [show numE ⟨4, F, 0, 0, N8, [n0, n1, n2, n3, n4, n5, n6, n7]⟩ (-1) 0 = 0 from if_neg (by omega)]
            have HQ5 := Lib.hid (hq.out.trans hx5); clear hx5 a0 a1 a2 a3 a4 a5 a6 a7 a8 a9 aa ab ac
            obtain ⟨a0, a1, a2, a3, a4, a5, a6, a7, a8, a9, aa, ab, ac⟩ := (HW.out.2.2.1.ext HQ5.out).facts
            simp only [Nat.zero_add] at a0 a1 a2 a3 a4 a5 a6 a7 a8 a9 aa ab ac
            go_wp2_with fail
            refine (Num_of 4 F 0 0 N8 n0 n1 n2 n3 n4 n5 n6 n7 (-1) 3 _ hN88).mono ?_
            rintro e w6 ⟨rfl, hx6⟩
            rw [show numE ⟨4, F, 0, 0, N8, [n0, n1, n2, n3, n4, n5, n6, n7]⟩ (-1) 3 = 3 from if_neg (by omega)]
            have HQ6 := Lib.hid (HQ5.out.trans hx6); clear hx6 a0 a1 a2 a3 a4 a5 a6 a7 a8 a9 aa ab ac
            go_wp2
            go_roundg (gk - 1)
            case measure => have := ht.out; omega
            case rel => exact ⟨1, by have := ht.out; show 1 + (gk - 1) = 10; omega, rfl, HQ6.out⟩
          · obtain ⟨j, rfl⟩ : ∃ j, t = j + 1 := ⟨t - 1, by omega⟩
            rw [show (((j + 1 : Nat) : Int) - 1) = (j : Int) by omega]
            by_cases hj9 : j < 9
            · have hj9I : (j : Int) < 9 := by omega
              have hj0I : (0 : Int) ≤ (j : Int) := by omega
              by_cases hjN : j < N8
              · have hjNI : (j : Int) < (N8 : Int) := by omega
                have hj8 : j < 8 := by omega
                obtain ⟨z, hz, hzb1, hzb2⟩ := HT.out.2.2.1 j hj8
                have dz : wr.cell? ⟨W.heap.size, j, none⟩ = some (.int .i64 z) := by rw [Blk.cell (Blk.ext HW.out.2.2.2.2.1 hq.out) j]; simp [numsV, hz]
                have hgd : [n0, n1, n2, n3, n4, n5, n6, n7].getD j 0 = z := by rw [HT.out.2.2.2.2.2.2.2.2.2.1] at hz; rw [List.getD_eq_getElem?_getD, hz]; rfl
                have hv0 : numE ⟨4, F, 0, 0, N8, [n0, n1, n2, n3, n4, n5, n6, n7]⟩ (j : Int) 0 = z := by
                  unfold numE
                  rw [if_pos ⟨hj0I, hjNI⟩, Int.toNat_natCast]
                  simp only [hgd]; omega
                by_cases hz3 : z < 3
                · have hv3 : numE ⟨4, F, 0, 0, N8, [n0, n1, n2, n3, n4, n5, n6, n7]⟩ (j : Int) 3 = 3 := by
                    unfold numE
                    rw [if_pos ⟨hj0I, hjNI⟩, Int.toNat_natCast]
                    simp only [hgd]; omega
                  have HVV := Lib.hid (And.intro hv0 (And.intro hv3 (And.intro hz hgd))); clear hv0 hv3 hz hgd
                  go_wp2_with fail
                  refine (Num_of 4 F 0 0 N8 n0 n1 n2 n3 n4 n5 n6 n7 (j : Int) 0 _ hN88).mono ?_
                  rintro e w5 ⟨rfl, hx5⟩
                  rw [HVV.out.1]
                  have HQ5 := Lib.hid (hq.out.trans hx5); clear hx5 a0 a1 a2 a3 a4 a5 a6 a7 a8 a9 aa ab ac
                  obtain ⟨a0, a1, a2, a3, a4, a5, a6, a7, a8, a9, aa, ab, ac⟩ := (HW.out.2.2.1.ext HQ5.out).facts
                  simp only [Nat.zero_add] at a0 a1 a2 a3 a4 a5 a6 a7 a8 a9 aa ab ac
                  go_wp2_with fail
                  refine (Num_of 4 F 0 0 N8 n0 n1 n2 n3 n4 n5 n6 n7 (j : Int) 3 _ hN88).mono ?_
                  rintro e w6 ⟨rfl, hx6⟩
                  rw [HVV.out.2.1]
                  have HQ6 := Lib.hid (HQ5.out.trans hx6); clear hx6 a0 a1 a2 a3 a4 a5 a6 a7 a8 a9 aa ab ac
                  go_wp2
                  go_roundg (gk - 1)
                  case measure => have := ht.out; omega
                  case rel => exact ⟨j + 1 + 1, by have := ht.out; show j + 1 + 1 + (gk - 1) = 10; omega, by go_num, HQ6.out⟩
                · have hv3 : numE ⟨4, F, 0, 0, N8, [n0, n1, n2, n3, n4, n5, n6, n7]⟩ (j : Int) 3 = z := by
                    unfold numE
                    rw [if_pos ⟨hj0I, hjNI⟩, Int.toNat_natCast]
                    simp only [hgd]; omega
                  have HVV := Lib.hid (And.intro hv0 (And.intro hv3 (And.intro hz hgd))); clear hv0 hv3 hz hgd
                  go_wp2_with fail
                  refine (Num_of 4 F 0 0 N8 n0 n1 n2 n3 n4 n5 n6 n7 (j : Int) 0 _ hN88).mono ?_
                  rintro e w5 ⟨rfl, hx5⟩
                  rw [HVV.out.1]
                  have HQ5 := Lib.hid (hq.out.trans hx5); clear hx5 a0 a1 a2 a3 a4 a5 a6 a7 a8 a9 aa ab ac
                  obtain ⟨a0, a1, a2, a3, a4, a5, a6, a7, a8, a9, aa, ab, ac⟩ := (HW.out.2.2.1.ext HQ5.out).facts
                  simp only [Nat.zero_add] at a0 a1 a2 a3 a4 a5 a6 a7 a8 a9 aa ab ac
                  go_wp2_with fail
                  refine (Num_of 4 F 0 0 N8 n0 n1 n2 n3 n4 n5 n6 n7 (j : Int) 3 _ hN88).mono ?_
                  rintro e w6 ⟨rfl, hx6⟩
                  rw [HVV.out.2.1]
                  have HQ6 := Lib.hid (HQ5.out.trans hx6); clear hx6 a0 a1 a2 a3 a4 a5 a6 a7 a8 a9 aa ab ac
                  go_wp2
                  go_roundg (gk - 1)
                  case measure => have := ht.out; omega
                  case rel => exact ⟨j + 1 + 1, by have := ht.out; show j + 1 + 1 + (gk - 1) = 10; omega, by go_num, HQ6.out⟩
              · have hjNI : (N8 : Int) ≤ (j : Int) := by omega
                go_wp2_with fail
                refine (Num_of 4 F 0 0 N8 n0 n1 n2 n3 n4 n5 n6 n7 (j : Int) 0 _ hN88).mono ?_
                rintro e w5 ⟨rfl, hx5⟩
                rw [show numE ⟨4, F, 0, 0, N8, [n0, n1, n2, n3, n4, n5, n6, n7]⟩ (j : Int) 0 = 0 from if_neg (by intro h; have : (j : Int) < (N8 : Int) := h.2; omega)]
                have HQ5 := Lib.hid (hq.out.trans hx5); clear hx5 a0 a1 a2 a3 a4 a5 a6 a7 a8 a9 aa ab ac
                obtain ⟨a0, a1, a2, a3, a4, a5, a6, a7, a8, a9, aa, ab, ac⟩ := (HW.out.2.2.1.ext HQ5.out).facts
                simp only [Nat.zero_add] at a0 a1 a2 a3 a4 a5 a6 a7 a8 a9 aa ab ac
                go_wp2_with fail
                refine (Num_of 4 F 0 0 N8 n0 n1 n2 n3 n4 n5 n6 n7 (j : Int) 3 _ hN88).mono ?_
                rintro e w6 ⟨rfl, hx6⟩
                rw [show numE ⟨4, F, 0, 0, N8, [n0, n1, n2, n3, n4, n5, n6, n7]⟩ (j : Int) 3 = 3 from if_neg (by intro h; have : (j : Int) < (N8 : Int) := h.2; omega)]
                have HQ6 := Lib.hid (HQ5.out.trans hx6); clear hx6 a0 a1 a2 a3 a4 a5 a6 a7 a8 a9 aa ab ac
                go_wp2
                go_roundg (gk - 1)
                case measure => have := ht.out; omega
                case rel => exact ⟨j + 1 + 1, by have := ht.out; show j + 1 + 1 + (gk - 1) = 10; omega, by go_num, HQ6.out⟩
            · have hj9I : (9 : Int) ≤ (j : Int) := by omega
              clear a0 a1 a2 a3 a4 a5 a6 a7 a8 a9 aa ab ac
              go_wp2
              go_ret
              exact ⟨rfl, H1.out.trans (HW.out.2.2.2.2.2.trans hq.out)⟩
end Go.Proofs.Ytmppbmbhnoaggab
