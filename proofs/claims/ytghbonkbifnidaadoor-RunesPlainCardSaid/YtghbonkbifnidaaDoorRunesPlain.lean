/- The law RunesPlain, walked. -/
import Derived.Test.YtghbonkbifnidaaDoorRunesTell
import Derived.Test.YtghbonkbifnidaaDoorClass
namespace Go.Proofs.YtghbonkbifnidaaDoor
open Go Go.RowKit

def low7 (b : UInt8) : UInt8 := UInt8.ofNat (((b.toNat : Nat) : Int) % 128).toNat
theorem low7_toNat (b : UInt8) : (low7 b).toNat = b.toNat % 128 := by
  unfold low7
  rw [toNat8 (by omega)]
  omega
def plainB (l : List UInt8) : ByteArray := ⟨(l.map low7).toArray⟩
theorem bts_plainB (l : List UInt8) : bts (plainB l) = l.map low7 := bts_mk _
theorem plainB_size (l : List UInt8) : (plainB l).size = l.length := by rw [← bts_len, bts_plainB, List.length_map]
theorem plainB_take (l : List UInt8) (i : Nat) (b : UInt8) (h : l[i]? = some b) : plainB (l.take i) ++ ⟨[low7 b].toArray⟩ = plainB (l.take (i + 1)) := by
  apply ba_ext
  rw [bts_append, bts_plainB, bts_plainB, List.take_add_one, h, bts_mk]
  simp
theorem plain_decL (l : List UInt8) : decL (bts (plainB l)) = (bts (plainB l)).map fun b => (b.toNat : Int) := by
  have h : ∀ b, b ∈ bts (plainB l) → b.toNat < 128 := by
    intro b hb
    rw [bts_plainB] at hb
    obtain ⟨c, _, rfl⟩ := List.mem_map.1 hb
    rw [low7_toNat]
    omega
  unfold decL
  rw [decL_plain _ h]
  simp [DecSt.flush, DecSt.new]
theorem plain_lt (l : List UInt8) (i : Nat) (h : i < (plainB l).size) : (plainB l)[i].toNat < 128 := by
  have h1 : (bts (plainB l))[i]? = some (plainB l)[i] := bts_at _ i h
  rw [bts_plainB] at h1
  have h2 := List.mem_of_getElem? h1
  obtain ⟨c, _, e⟩ := List.mem_map.1 h2
  rw [← e, low7_toNat]
  omega
theorem width_plain (y : Nat) (h : y < 128) : widthL (y : Int) = if 32 ≤ y ∧ y ≤ 126 then 1 else 0 := by
  rw [widthL_is]
  repeat' split
  all_goals omega
theorem two_texts (a b : List Int) : decL (bts (encS a ++ encS b)) = decL (bts (encS a)) ++ decL (bts (encS b)) := by
  rw [bts_append, bts_encS, bts_encS, ← encL_append, decL_encL, decL_encL, decL_encL, List.map_append]
/-- The class of worlds of the last test. -/
def PlainZ (w0 : World) (B off : Nat) (y : Int) (W : World) : Prop := W.cell? ⟨B, off, none⟩ = some (.int .i32 y) ∧ Ext w0 W
set_option maxHeartbeats 8000000 in
set_option maxRecDepth 100000 in
theorem runesPlain_true (s : ByteArray) (xs ys : List Int) (va vb : Value) (w : World) (ha : IsRunes w va xs) (hma : xs.length ≤ maxLen) (hb : IsRunes w vb ys) (hmb : ys.length ≤ maxLen) (hF : Firsts w) (hS : Spans w) :
    Calls Tryd.prog 8 #[.string s, va, vb] w fun e w' => e = .returned (.bool true) ∧ Ext w w' := by
  have hs40 := shortOf_le s 40
  have H := Lib.hid (And.intro hF (And.intro hS (And.intro (And.intro ha hma) (And.intro hb hmb)))); clear hF hS ha hma hb hmb
  go_enter Tryd.func8, Tryd.ntmps8
  go_wp2_with fail
  refine (awake_true _ H.out.1).mono ?_
  rintro e w1 ⟨rfl, hx1⟩
  have H1 := Lib.hid hx1; clear hx1
  go_wp2_with fail
  refine (short_of s 40 _ (by decide)).mono ?_
  rintro e w2 ⟨rfl, rfl⟩
  generalize shortOf s 40 = x at hs40 ⊢
  go_wp2
  go_loopg [8, 9] x.size (fun k t j wr => ∃ (i : Nat), Hid (i + k = x.size) ∧ j = .int .i64 i ∧ t = .string (plainB ((bts x).take i)) ∧ Hid (Ext w wr))
  case atStart => exact ⟨0, Nat.zero_add _, rfl, rfl, H1.out⟩
  case round =>
    obtain ⟨i, hi, rfl, rfl, hinv⟩ := hrel
    by_cases hlt : i < x.size
    · obtain ⟨y, hy⟩ : ∃ y, x[i].toNat = y := ⟨_, rfl⟩
      have hy8 : y < 256 := by rw [← hy]; exact x[i].toNat_lt
      have hbi : (bts x)[i]? = some x[i] := bts_at x i hlt
      have hnx := plainB_take (bts x) i x[i] hbi
      have hps : (plainB ((bts x).take i)).size ≤ 40 := by
        rw [plainB_size, List.length_take, bts_len]; omega
      have hc : ∀ W : World, (convert 47 9 (.slice (some ⟨W.heap.size, 0, none⟩) 1 1)).run Tryd.prog (W.alloc (.cells #[.int .u8 ((y : Int) % 128)] 5)) = .ok (.string ⟨[low7 x[i]].toArray⟩) (W.alloc (.cells #[.int .u8 ((y : Int) % 128)] 5)) := by
        intro W
        have h1 := conv_new W 1 [low7 x[i]] 1 rfl
        rw [show cells8 [low7 x[i]] = #[.int .u8 ((y : Int) % 128)] from ?_] at h1
        · exact h1
        · rw [cells8_one ((y : Int) % 128) (by omega) (by omega)]
          unfold low7
          rw [hy]
          rfl
      have hand : bits .and .u8 (y : Int) 127 = (y : Int) % 128 := by
        have h1 := u8_and_nat y 127 hy8 (by decide)
        rw [show (127 : Nat) = 2 ^ 7 - 1 from rfl, Nat.and_two_pow_sub_one_eq_mod] at h1
        rw [show (127 : Int) = ((2 ^ 7 - 1 : Nat) : Int) from rfl, h1]
        omega
      have hzs : (⟨[low7 x[i]].toArray⟩ : ByteArray).size ≤ 1 := by rw [size_mk]; simp
      generalize plainB ((bts x).take i) = T at hnx hps ⊢
      generalize (⟨[low7 x[i]].toArray⟩ : ByteArray) = C at hnx hc hzs
      have HC := Lib.hid (And.intro hc hnx); clear hc hnx hbi
      go_wp2
      rw [HC.out.1]
      go_wp2
      go_roundg (gk - 1)
      case measure => have := hi.out; omega
      case rel =>
        refine ⟨i + 1, ?_, by go_num, by rw [HC.out.2], hinv.out.alloc _⟩
        show i + 1 + (gk - 1) = x.size
        have := hi.out; omega
    · have hil : (bts x).take i = bts x := List.take_of_length_le (by rw [bts_len]; omega)
      rw [hil]
      have hps : (plainB (bts x)).size ≤ 40 := by rw [plainB_size, bts_len]; exact hs40
      have hpd := plain_decL (bts x)
      have hpl := plain_lt (bts x)
      clear hil
      generalize plainB (bts x) = T at hps hpd hpl ⊢
      have HT := Lib.hid (And.intro hpd hpl); clear hpd hpl
      go_wp2_with fail
      clear hi hlt
      refine (Decode_any T _ (H.out.1.ext hinv.out) (by omega)).mono ?_
      rintro e w3 ⟨v3, rfl, ho3, hx3⟩
      have h3 := ho3.isRunes (decL_i32 _)
      have hl3 : (decL (bts T)).length = T.size := by rw [HT.out.1, List.length_map, bts_len]
      obtain ⟨A, c, rfl, hc, _⟩ := h3.form
      rw [hl3] at h3 hc ⊢
      obtain ⟨n, hn⟩ : ∃ n, T.size = n := ⟨_, rfl⟩
      rw [hn] at h3 hc hps ⊢
      have H3 := Lib.hid (And.intro h3 (hinv.out.trans hx3)); clear h3 ho3 hx3 hl3 hinv
      go_wp2
      go_loopg [11] n (fun k j wr => ∃ (i : Nat), Hid (i + k = n) ∧ j = .int .i64 i ∧ Hid (Ext w3 wr))
      case atStart => exact ⟨0, Nat.zero_add _, rfl, Ext.refl _⟩
      case round =>
        obtain ⟨i, hi, rfl, hinv⟩ := hrel
        by_cases hlt : i < n
        · have hiT : i < T.size := by omega
          obtain ⟨y, hy⟩ : ∃ y, T[i].toNat = y := ⟨_, rfl⟩
          have hy7 : y < 128 := by rw [← hy]; exact HT.out.2 i hiT
          have hdi : (decL (bts T))[i]? = some (y : Int) := by
            rw [HT.out.1, List.getElem?_map, bts_at T i hiT]
            simp [hy]
          obtain ⟨_, ga, offa, rfl, ca⟩ := H3.out.1.at hdi
          have da := hinv.out.cell ca
          have hwd : y < 32 ∧ widthL (y : Int) = 0 ∨ 32 ≤ y ∧ y ≤ 126 ∧ widthL (y : Int) = 1 ∨ 126 < y ∧ widthL (y : Int) = 0 := by
            rw [width_plain y hy7]
            split <;> omega
          have hcall : ∀ W, PlainZ wr ga (offa + i) y W → Calls Tryd.prog 17 #[.int .i32 y] W fun e w' => e = .returned (.int .i64 (widthL (y : Int))) ∧ PlainZ wr ga (offa + i) y w' :=
            fun W hW => (Width_any y W (H.out.2.1.ext ((H3.out.2.trans hinv.out).trans hW.2))).mono fun e w' ⟨he, hx⟩ => ⟨he, hx.cell hW.1, hW.2.trans hx⟩
          have gZ : PlainZ wr ga (offa + i) y wr.drew := ⟨da, (Ext.refl wr).drew⟩
          generalize widthL (y : Int) = wd at hwd hcall
          have FC := Lib.hid hcall
          have HY := Lib.hid (And.intro hy7 hdi)
          clear hcall ca hdi hy7
          rcases hwd with ⟨k1, rfl⟩ | ⟨k1, k2, rfl⟩ | ⟨k1, rfl⟩
          all_goals
            go_wp2_with fail
            clear da
            have hw32 : wrap32 (y : Int) = (y : Int) := by have := HY.out.1; unfold wrap32; omega
            have z1 : ∀ n : In (PlainZ wr ga (offa + i) y), n.val.cell? ⟨ga, offa + i, none⟩ = some (.int .i32 (y : Int)) := fun n => n.prop.1
            have hne : Nonempty (In (PlainZ wr ga (offa + i) y)) := ⟨⟨_, gZ⟩⟩
            try simp only [List.append]
            refine wp_region_class (PlainZ wr ga (offa + i) y) (by kernel_rfl) (by kernel_rfl) gZ ?_
            repeat (go_big_quiet_step (first | (go_at_call 17; exact quiet_class FC.out _)))
            refine wpQuiet_nil ?_
            rintro _ ⟨m, rfl⟩
            have hm := m.prop
            generalize m.val = w9 at hm ⊢
            have HF := Lib.hid (hinv.out.trans hm.2)
            clear hm z1 hne gZ FC hw32
            go_wp2_with fail
            go_roundg (gk - 1)
            case measure => have := hi.out; omega
            case rel =>
              refine ⟨i + 1, ?_, by go_num, HF.out⟩
              show i + 1 + (gk - 1) = n
              have := hi.out; omega
        · go_wp2_with fail
          refine (few_of xs va _ (H.out.2.2.1.1.ext (H3.out.2.trans hinv.out)) H.out.2.2.1.2).mono ?_
          rintro e w4 ⟨⟨v4, rfl, h4⟩, rfl⟩
          have H4 := Lib.hid (And.intro h4 (H3.out.2.trans hinv.out)); clear h4 hinv
          go_wp2_with fail
          refine (Encode_runes _ v4 _ H4.out.1).mono ?_
          rintro e w5 ⟨rfl, rfl⟩
          go_wp2_with fail
          refine (few_of ys vb _ (H.out.2.2.2.1.ext H4.out.2) H.out.2.2.2.2).mono ?_
          rintro e w6 ⟨⟨v6, rfl, h6⟩, rfl⟩
          have H6 := Lib.hid h6; clear h6
          go_wp2_with fail
          refine (Encode_runes _ v6 _ H6.out).mono ?_
          rintro e w7 ⟨rfl, rfl⟩
          have hp := encS_size (fewL xs 20)
          have hq := encS_size (fewL ys 20)
          have hfa := fewL_len xs 20
          have hfb := fewL_len ys 20
          have htt := two_texts (fewL xs 20) (fewL ys 20)
          generalize encS (fewL xs 20) = p at hp htt ⊢
          generalize encS (fewL ys 20) = q at hq htt ⊢
          have hp2 : p.size ≤ 80 := by omega
          have hq2 : q.size ≤ 80 := by omega
          have hpq : (p ++ q).size ≤ 160 := by rw [ByteArray.size_append]; omega
          have hlp := len_decL (bts p)
          have hlq := len_decL (bts q)
          have hlpq := len_decL (bts (p ++ q))
          rw [bts_len] at hlp hlq hlpq
          have HP := Lib.hid (And.intro htt (And.intro hpq (And.intro (show (decL (bts p)).length ≤ 80 by omega) (And.intro (show (decL (bts q)).length ≤ 80 by omega) (show (decL (bts (p ++ q))).length ≤ 160 by omega)))))
          clear htt hp hq hfa hfb hpq hlp hlq hlpq
          go_wp2_with fail
          refine (Decode_any (p ++ q) _ (H.out.1.ext H4.out.2) (by have := HP.out.2.1; omega)).mono ?_
          rintro e w8 ⟨v8, rfl, ho8, hx8⟩
          have own0 : OwnR (w8.alloc (.cells #[] 21)) w8.heap.size (.slice (some ⟨w8.heap.size, 0, none⟩) 0 0) [] :=
            ⟨rfl, .inr ⟨w8.heap.size, 0, #[], rfl, Nat.le_refl _, Go.heap_alloc_new _ _, Nat.le_refl _, Nat.zero_le _, rfl, rfl⟩⟩
          have hx0 : Ext w8 (w8.alloc (.cells #[] 21)) := (Ext.refl w8).alloc _
          have H8 := Lib.hid (And.intro (ho8.isRunes (decL_i32 _)) (And.intro (H4.out.2.trans hx8) (And.intro own0 hx0))); clear ho8 hx8 own0 hx0
          go_wp2_with fail
          refine (Decode_any p _ (H.out.1.ext (H8.out.2.1.trans H8.out.2.2.2)) (by omega)).mono ?_
          rintro e w9 ⟨v9, rfl, ho9, hx9⟩
          have H9 := Lib.hid (And.intro (H8.out.2.2.1.ext hx9) (And.intro ho9 (H8.out.2.2.2.trans hx9))); clear ho9 hx9
          go_wp2_with (at_builtin; refine wpList_app_runes rfl _ _ rfl w8.heap.size _ [] rfl H9.out.1 _ v9 (decL (bts p)) rfl H9.out.2.1 (Nat.zero_le _) (by have := HP.out; omega) H9.out.2.2.size ?_)
          intro vA wA hA
          have hxA : Ext w8 wA := ext_grown H9.out.2.2 H9.out.1 hA.grown (Nat.le_refl _)
          have HA := Lib.hid (And.intro hA.own hxA); clear hA hxA
          go_wp2_with fail
          refine (Decode_any q _ (H.out.1.ext (H8.out.2.1.trans HA.out.2)) (by omega)).mono ?_
          rintro e wB ⟨vB, rfl, hoB, hxB⟩
          have HB := Lib.hid (And.intro (HA.out.1.ext hxB) (And.intro hoB (HA.out.2.trans hxB))); clear hoB hxB
          go_wp2_with (at_builtin; refine wpList_app_runes rfl _ _ rfl w8.heap.size vA _ rfl HB.out.1 _ vB (decL (bts q)) rfl HB.out.2.1 (by have := HP.out; (try simp only [List.length_append]); omega) (by have := HP.out; omega) HB.out.2.2.size ?_)
          intro vC wC hC
          have hxC : Ext w8 wC := ext_grown HB.out.2.2 HB.out.1 hC.grown (Nat.le_refl _)
          have hown := hC.own
          rw [← HP.out.1] at hown
          have HC := Lib.hid (And.intro (hown.isRunes (decL_i32 _)) hxC); clear hC hxC hown
          go_wp2_with fail
          refine (Same_eq _ v8 vC _ (H8.out.1.ext HC.out.2) HC.out.1 (by have := HP.out; omega)).mono ?_
          rintro e wD ⟨rfl, hxD⟩
          have HD := Lib.hid ((H8.out.2.1.trans HC.out.2).trans hxD); clear hxD
          go_wp2
          go_ret
          exact ⟨rfl, HD.out⟩
end Go.Proofs.YtghbonkbifnidaaDoor
