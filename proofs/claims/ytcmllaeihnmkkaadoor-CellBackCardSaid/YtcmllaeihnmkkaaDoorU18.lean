/- Characters are encoded: runes.Encode; the document's lyceumref04.one, Encode. · The document's encoding of a row; a text or a row cut short; are two rows the same? · A row's characters, without blanks at the end: cell.Text. · The law CellMakes, walked. -/
import Derived.Test.YtcmllaeihnmkkaaDoorU8
import Derived.Test.YtcmllaeihnmkkaaDoorU10
import Derived.Test.YtcmllaeihnmkkaaDoorU11
import Derived.Test.YtcmllaeihnmkkaaDoorU12
import Derived.Test.YtcmllaeihnmkkaaDoorU14
import Derived.Test.YtcmllaeihnmkkaaDoorU17
import Derived.WalkKit
import Derived.Laws.BytesString
import Derived.Laws.IdiomStrings
import Derived.Laws.BytesArg
import Derived.WalkLawsBesides
import Derived.IntWalk
import Derived.Deep.LoopGhost
import Derived.RegionTactic
import Derived.BigRegion
import Derived.Deep.RegionWith
namespace Go.Proofs.YtcmllaeihnmkkaaDoor
open Go Go.RowKit

def encS (zs : List Int) : ByteArray := ⟨(encL zs).toArray⟩
theorem bts_encS (zs : List Int) : bts (encS zs) = encL zs := bts_mk _
theorem encS_size (zs : List Int) : (encS zs).size ≤ 4 * zs.length := by
  rw [← bts_len, bts_encS]; exact encL_len zs
theorem foldl_enc : ∀ (zs : List Int) (s : ByteArray), bts (zs.foldl (fun r n => r ++ Utf8.encode n) s) = bts s ++ encL zs
  | [], s => by simp [encL_nil]
  | z :: zs, s => by
    rw [List.foldl_cons, foldl_enc zs, bts_append, encL_cons, List.append_assoc]
    rfl
theorem runesBytes_eq (zs : List Int) : runesBytes zs = encS zs := by
  apply ba_ext
  unfold runesBytes
  rw [foldl_enc, bts_encS]
  rfl
set_option maxRecDepth 100000 in
theorem conv_runes {w : World} {v : Value} {zs : List Int} (hv : IsRunes w v zs) : (convert 188 9 v).run Tryd.prog w = .ok (.string (encS zs)) w := by
  obtain ⟨A, c, rfl, hc, hcells⟩ := hv
  cases A with
  | none =>
    have h0 := hc.2 rfl
    have hz : zs = [] := List.eq_nil_of_length_eq_zero (by omega)
    subst hz
    rw [run_convert_runes_nil w _ _ _ _ _ Tryd.underlying188 Tryd.underlying21 Tryd.underlying9, ← runesBytes_eq]
    rfl
  | some a =>
    rw [run_convert_runes w _ _ _ a zs.length c zs (Nat.le_refl _) Tryd.underlying188 Tryd.underlying21 Tryd.underlying9 fun j hj => ?_, List.take_length, runesBytes_eq]
    obtain ⟨_, g, off, e, h2⟩ := hcells j zs[j] (List.getElem?_eq_getElem hj)
    obtain rfl := Option.some.inj e
    rw [add_off, h2]
    simp [List.getD, hj]
set_option maxRecDepth 100000 in
theorem Encode_runes (zs : List Int) (v : Value) (w : World) (hv : IsRunes w v zs) : Calls Tryd.prog 137 #[v] w fun e w' => e = .returned (.string (encS zs)) ∧ w' = w := by
  have hcv := conv_runes hv
  clear hv
  go_enter Tryd.func137, Tryd.ntmps137
  go_wp2_with (simp only [hcv])
  all_goals (go_ret; exact ⟨rfl, rfl⟩)

def cells8 (l : List UInt8) : Array Value := (l.map fun b => Value.int .u8 b.toNat).toArray
theorem conv_new (W : World) (cap : Nat) (l : List UInt8) (n : Nat) (hn : n = l.length) : (convert 29 9 (.slice (some ⟨W.heap.size, 0, none⟩) n cap)).run Tryd.prog (W.alloc (.cells (cells8 l) 5)) = .ok (.string ⟨l.toArray⟩) (W.alloc (.cells (cells8 l) 5)) := by
  subst hn
  exact run_convert_bytes_back _ _ _ 5 ⟨W.heap.size, 0, none⟩ cap l Tryd.underlying29 Tryd.underlying5 Tryd.underlying9 fun j hj => by
    rw [add_off, Lib.cell_of_heap (Go.heap_alloc_new _ _)]
    simp [cells8, hj]
theorem cells8_one (a : Int) (h0 : 0 ≤ a) (h1 : a < 256) : (Value.int .u8 a) = .int .u8 ((UInt8.ofNat a.toNat).toNat : Int) := by
  rw [toNat8 (by omega)]
  congr 1
  omega
set_option maxRecDepth 100000 in
theorem RefOne_rune (r : Int) (w : World) (h : isRune r) : Calls Tryd.prog 144 #[.int .i32 r] w fun e w' => e = .returned (.string (Utf8.encode r)) ∧ Ext w w' := by
  have hn := none_any r
  rw [noneB_false h] at hn
  have hN := Lib.hid hn; clear hn
  have hE : bts (Utf8.encode r) = _ := encR_of r
  have HE := Lib.hid hE; clear hE
  have h0 : 0 ≤ r := by unfold isRune at h; omega
  have h1 : r ≤ 1114111 := by unfold isRune at h; omega
  have hnum : numR r = r.toNat := by unfold numR; rw [fix_rune h]
  have hnum := hnum
  clear h
  by_cases a1 : r < 128
  · have hc := conv_new w 1 [UInt8.ofNat r.toNat] 1 rfl
    have e1 : cells8 [UInt8.ofNat r.toNat] = #[.int .u8 r] := by rw [cells8_one r h0 (by omega)]; rfl
    rw [e1] at hc
    clear e1
    have HC := Lib.hid hc; clear hc
    go_enter Tryd.func144, Tryd.ntmps144
    go_wp2_with fail
    refine (hN.out _).mono ?_
    rintro e w' ⟨rfl, rfl⟩
    go_wp2
    rw [HC.out]
    go_wp2
    go_ret
    refine ⟨?_, (Ext.refl _).alloc _⟩
    rw [show Utf8.encode r = ⟨[UInt8.ofNat r.toNat].toArray⟩ from ba_ext (by rw [HE.out, bts_mk, hnum, if_pos (by omega)])]
    rfl
  · by_cases a2 : r < 2048
    · go_enter Tryd.func144, Tryd.ntmps144
      go_wp2_with fail
      refine (hN.out _).mono ?_
      rintro e w' ⟨rfl, rfl⟩
      go_wp2
      have hc := conv_new w' 2 [UInt8.ofNat (192 + r / 64).toNat, UInt8.ofNat (128 + r % 64).toNat] 2 rfl
      rw [show cells8 [UInt8.ofNat (192 + r / 64).toNat, UInt8.ofNat (128 + r % 64).toNat] = #[.int .u8 (192 + r / 64), .int .u8 (128 + r % 64)] by rw [cells8_one (192 + r / 64) (by omega) (by omega), cells8_one (128 + r % 64) (by omega) (by omega)]; rfl] at hc
      rw [hc]
      clear hc
      go_wp2
      go_ret
      refine ⟨?_, (Ext.refl _).alloc _⟩
      rw [show Utf8.encode r = ⟨[UInt8.ofNat (192 + r / 64).toNat, UInt8.ofNat (128 + r % 64).toNat].toArray⟩ from ba_ext (by rw [HE.out, bts_mk, hnum, if_neg (by omega), if_pos (by omega), show (192 + r / 64).toNat = 192 + r.toNat / 64 by omega, show (128 + r % 64).toNat = 128 + r.toNat % 64 by omega])]
      rfl
    · by_cases a3 : r < 65536
      · go_enter Tryd.func144, Tryd.ntmps144
        go_wp2_with fail
        refine (hN.out _).mono ?_
        rintro e w' ⟨rfl, rfl⟩
        go_wp2
        have hc := conv_new w' 3 [UInt8.ofNat (224 + r / 4096).toNat, UInt8.ofNat (128 + r / 64 % 64).toNat, UInt8.ofNat (128 + r % 64).toNat] 3 rfl
        rw [show cells8 [UInt8.ofNat (224 + r / 4096).toNat, UInt8.ofNat (128 + r / 64 % 64).toNat, UInt8.ofNat (128 + r % 64).toNat] = #[.int .u8 (224 + r / 4096), .int .u8 (128 + r / 64 % 64), .int .u8 (128 + r % 64)] by rw [cells8_one (224 + r / 4096) (by omega) (by omega), cells8_one (128 + r / 64 % 64) (by omega) (by omega), cells8_one (128 + r % 64) (by omega) (by omega)]; rfl] at hc
        rw [hc]
        clear hc
        go_wp2
        go_ret
        refine ⟨?_, (Ext.refl _).alloc _⟩
        rw [show Utf8.encode r = ⟨[UInt8.ofNat (224 + r / 4096).toNat, UInt8.ofNat (128 + r / 64 % 64).toNat, UInt8.ofNat (128 + r % 64).toNat].toArray⟩ from ba_ext (by rw [HE.out, bts_mk, hnum, if_neg (by omega), if_neg (by omega), if_pos (by omega), show (224 + r / 4096).toNat = 224 + r.toNat / 4096 by omega, show (128 + r / 64 % 64).toNat = 128 + r.toNat / 64 % 64 by omega, show (128 + r % 64).toNat = 128 + r.toNat % 64 by omega])]
        rfl
      · go_enter Tryd.func144, Tryd.ntmps144
        go_wp2_with fail
        refine (hN.out _).mono ?_
        rintro e w' ⟨rfl, rfl⟩
        go_wp2
        have hc := conv_new w' 4 [UInt8.ofNat (240 + r / 262144).toNat, UInt8.ofNat (128 + r / 4096 % 64).toNat, UInt8.ofNat (128 + r / 64 % 64).toNat, UInt8.ofNat (128 + r % 64).toNat] 4 rfl
        rw [show cells8 [UInt8.ofNat (240 + r / 262144).toNat, UInt8.ofNat (128 + r / 4096 % 64).toNat, UInt8.ofNat (128 + r / 64 % 64).toNat, UInt8.ofNat (128 + r % 64).toNat] = #[.int .u8 (240 + r / 262144), .int .u8 (128 + r / 4096 % 64), .int .u8 (128 + r / 64 % 64), .int .u8 (128 + r % 64)] by rw [cells8_one (240 + r / 262144) (by omega) (by omega), cells8_one (128 + r / 4096 % 64) (by omega) (by omega), cells8_one (128 + r / 64 % 64) (by omega) (by omega), cells8_one (128 + r % 64) (by omega) (by omega)]; rfl] at hc
        rw [hc]
        clear hc
        go_wp2
        go_ret
        refine ⟨?_, (Ext.refl _).alloc _⟩
        rw [show Utf8.encode r = ⟨[UInt8.ofNat (240 + r / 262144).toNat, UInt8.ofNat (128 + r / 4096 % 64).toNat, UInt8.ofNat (128 + r / 64 % 64).toNat, UInt8.ofNat (128 + r % 64).toNat].toArray⟩ from ba_ext (by rw [HE.out, bts_mk, hnum, if_neg (by omega), if_neg (by omega), if_neg (by omega), show (240 + r / 262144).toNat = 240 + r.toNat / 262144 by omega, show (128 + r / 4096 % 64).toNat = 128 + r.toNat / 4096 % 64 by omega, show (128 + r / 64 % 64).toNat = 128 + r.toNat / 64 % 64 by omega, show (128 + r % 64).toNat = 128 + r.toNat % 64 by omega])]
        rfl
theorem encode_none (r : Int) (h : noneB r = true) : Utf8.encode r = Utf8.encode 65533 := by
  have hr : ¬ isRune r := by unfold noneB at h; simpa using h
  apply ba_ext
  have e1 : numR r = 65533 := by unfold numR fixR; rw [if_neg hr]; rfl
  have e2 : numR 65533 = 65533 := by decide
  have h1 : bts (Utf8.encode r) = _ := encR_of r
  have h2 : bts (Utf8.encode 65533) = _ := encR_of 65533
  rw [h1, h2, e1, e2]
set_option maxRecDepth 100000 in
theorem RefOne_none (r : Int) (w : World) (h : noneB r = true) : Calls Tryd.prog 144 #[.int .i32 r] w fun e w' => e = .returned (.string (Utf8.encode r)) ∧ Ext w w' := by
  have hn := none_any r
  rw [h] at hn
  have hN := Lib.hid hn; clear hn
  rw [encode_none r h]
  clear h
  go_enter Tryd.func144, Tryd.ntmps144
  go_wp2_with fail
  refine (hN.out _).mono ?_
  rintro e w' ⟨rfl, rfl⟩
  go_wp2
  have hc := conv_new w' 3 [239, 191, 189] 3 rfl
  rw [show cells8 [239, 191, 189] = #[.int .u8 239, .int .u8 191, .int .u8 189] from rfl] at hc
  rw [hc]
  clear hc
  go_wp2
  go_ret
  refine ⟨?_, (Ext.refl _).alloc _⟩
  rw [show Utf8.encode 65533 = ⟨([239, 191, 189] : List UInt8).toArray⟩ from by decide]
  rfl
theorem RefOne_any (r : Int) (w : World) : Calls Tryd.prog 144 #[.int .i32 r] w fun e w' => e = .returned (.string (Utf8.encode r)) ∧ Ext w w' := by
  by_cases h : isRune r
  · exact RefOne_rune r w h
  · exact RefOne_none r w (by unfold noneB; simp [h])
end Go.Proofs.YtcmllaeihnmkkaaDoor
namespace Go.Proofs.YtcmllaeihnmkkaaDoor
open Go Go.RowKit

theorem encS_nil : encS [] = ⟨#[]⟩ := rfl
theorem encS_take (zs : List Int) (i : Nat) (n : Int) (h : zs[i]? = some n) : encS (zs.take i) ++ Utf8.encode n = encS (zs.take (i + 1)) := by
  apply ba_ext
  rw [bts_append, bts_encS, bts_encS, encL_take zs i n h]
  rfl
theorem encode_size (n : Int) : (Utf8.encode n).size ≤ 4 := by
  rw [← bts_len]; exact (encR_len n).1
set_option maxHeartbeats 2000000 in
set_option maxRecDepth 100000 in
theorem RefEncode_runes (zs : List Int) (v : Value) (w : World) (hv : IsRunes w v zs) (hn : zs.length ≤ 1000) :
    Calls Tryd.prog 139 #[v] w fun e w' => e = .returned (.string (encS zs)) ∧ Ext w w' := by
  obtain ⟨A, c, rfl, hc, hv⟩ := hv
  have H := Lib.hid hv; clear hv
  go_enter Tryd.func139, Tryd.ntmps139
  go_wp2
  go_loopg [3, 4] zs.length (fun k s j wr => ∃ (i : Nat), Hid (i + k = zs.length) ∧ j = .int .i64 i ∧ s = .string (encS (zs.take i)) ∧ Hid (Ext w wr))
  case atStart => exact ⟨0, Nat.zero_add _, rfl, rfl, Ext.refl w⟩
  case round =>
    obtain ⟨i, hi, rfl, rfl, hinv⟩ := hrel
    by_cases hlt : i < zs.length
    · obtain ⟨n, hin⟩ : ∃ n, zs[i]? = some n := ⟨zs[i], List.getElem?_eq_getElem hlt⟩
      obtain ⟨hr, gg, off, rfl, hcell⟩ := H.out i n hin
      have hcell' := hinv.out.cell hcell
      have hz1 : (encS (zs.take i)).size ≤ 4000 := by
        have := encS_size (zs.take i)
        rw [List.length_take] at this
        omega
      have hz2 := encode_size n
      have HN := Lib.hid (encS_take zs i n hin); clear hin hr hcell
      generalize encS (zs.take i) = S at hz1 HN ⊢
      have hone := RefOne_any n wr
      generalize Utf8.encode n = E at hz2 HN hone
      have HO := Lib.hid hone; clear hone
      go_wp2_with fail
      refine (HO.out).mono ?_
      rintro e w2 ⟨rfl, hx2⟩
      have HX := Lib.hid (Ext.trans hinv.out hx2); clear hx2
      go_wp2
      go_roundg (gk - 1)
      case measure => have := hi.out; omega
      case rel =>
        refine ⟨i + 1, ?_, by go_num, by rw [HN.out], HX.out⟩
        show i + 1 + (gk - 1) = zs.length
        have := hi.out; omega
    · have hil : i = zs.length := by have := hi.out; omega
      have HI := Lib.hid hil; clear hil
      go_wp2
      go_ret
      exact ⟨by rw [HI.out, List.take_length]; rfl, hinv.out⟩
end Go.Proofs.YtcmllaeihnmkkaaDoor
namespace Go.Proofs.YtcmllaeihnmkkaaDoor
open Go Go.RowKit

theorem charsL_take (l : List Cel) (i : Nat) (c : Cel) (h : l[i]? = some c) : charsL (l.take (i + 1)) = charsL (l.take i) ++ charsL [c] := by rw [List.take_add_one, h, charsL_append]; rfl
theorem charsL_bad {c : Cel} (h : c.check = false) : charsL [c] = [63] := by simp [charsL, h]
theorem charsL_tail {c : Cel} (h : c.check = true) (h2 : c.tl = true) : charsL [c] = [] := by simp [charsL, h, h2]
theorem charsL_good {c : Cel} (h : c.check = true) (h2 : c.tl = false) : charsL [c] = [c.r] := by simp [charsL, h, h2]
theorem charsL_i32 {l : List Cel} (h : ∀ c, c ∈ l → c.ok) : ∀ n, n ∈ charsL l → isI32 n := by
  intro n hn
  obtain ⟨c, hc, e⟩ := List.mem_filterMap.1 hn
  split at e
  · split at e
    · cases e
    · injection e with e; rw [← e]; exact (h c hc).1
  · injection e with e; rw [← e]; unfold isI32; omega
set_option maxHeartbeats 4000000 in
set_option maxRecDepth 100000 in
theorem TextC_of (l : List Cel) (v : Value) (w : World) (hv : IsCells w v l) (hS : Spans w) (hm : l.length ≤ 1000) : Calls Tryd.prog 122 #[v] w fun e w' => e = .returned (.string (encS (stripL (charsL l)))) ∧ Ext w w' := by
  obtain ⟨i0, hi0, hz0, hz1, hz2⟩ := info_parts infoRune
  obtain ⟨A, c, rfl, hlc, hA⟩ := hv.form
  generalize hL : l.length = L at hlc hv hm ⊢
  have H := Lib.hid (And.intro hv (And.intro hS hL)); clear hv hS hL
  obtain ⟨R, hR⟩ : ∃ R, R = encS (stripL (charsL l)) := ⟨_, rfl⟩
  rw [← hR]
  have HR := Lib.hid hR; clear hR
  go_enter Tryd.func122, Tryd.ntmps122
  go_wp2_with (refine wpList_make_own w rfl _ _ 188 rfl w.heap.size 21 i0 _ 1 Tryd.underlying188 hi0 hz0 hz1 .i64 .i64 L L rfl rfl rfl (by rw [hz2]; omega) (by unfold maxLen; omega) (Nat.le_refl _) ?_)
  intro w1 hown hg
  have HB := Lib.hid (And.intro hown ((Below.refl w.heap.size w).grown hg (Nat.le_refl _) (fun k hk => by cases hk))); clear hown hg
  go_wp2
  go_loopg [3, 11] L (fun k u v wr => ∃ (i g cap : Nat), v = .int .i64 i ∧ u = .slice (some ⟨g, 0, none⟩) (charsL (l.take i)).length cap ∧ Hid (i + k = L ∧ OwnR wr w.heap.size (.slice (some ⟨g, 0, none⟩) (charsL (l.take i)).length cap) (charsL (l.take i)) ∧ Ext w wr))
  case atStart => exact ⟨0, _, _, rfl, rfl, Nat.zero_add _, HB.out.1, HB.out.2⟩
  case round =>
    obtain ⟨i, g, cap, rfl, rfl, hin⟩ := hrel
    by_cases hi : i < L
    · obtain ⟨x, hx⟩ : ∃ x, l[i]? = some x := ⟨l[i]'(by rw [H.out.2.2]; exact hi), List.getElem?_eq_getElem _⟩
      obtain ⟨hxo, g', off', rfl, hcx⟩ := H.out.1.at hx
      have htk := charsL_take l i x hx
      have hln := charsL_len (l.take i)
      rw [List.length_take] at hln
      have hx3 := hcx.ext hin.out.2.2
      obtain ⟨r, f, b, a⟩ := x
      obtain ⟨k0, k1, k2, k3⟩ := hx3.four
      generalize hD : charsL (l.take i) = D at hin htk hln ⊢
      have HD := Lib.hid (And.intro hD (And.intro htk (And.intro hln (And.intro hxo hx)))); clear hD htk hln hxo hx hcx hx3
      generalize hN : D.length = N at hin ⊢
      have HN := Lib.hid hN; clear hN
      go_wp2_with fail
      refine (Check_of ⟨r, f, b, a⟩ _ HD.out.2.2.2.1 ((H.out.2.1.ext hin.out.2.2).ext ((Ext.refl wr).alloc _))).mono ?_
      rintro e w3 ⟨rfl, hx3⟩
      have hcb := (CelAt.new wr ⟨r, f, b, a⟩).ext hx3
      have hx4 := ((Ext.refl wr).alloc (.cells #[.int .i32 r, .int .u8 f, .int .u8 b, .int .u8 a] 57)).trans hx3
      obtain ⟨m0, m1, m2, m3⟩ := hcb.four0
      have H3 := Lib.hid (And.intro (hin.out.2.1.ext hx4) (And.intro (hin.out.2.2.trans hx4) hcb)); clear hx3 hx4 hcb
      clear k0 k1 k2 k3
      generalize hC : Cel.check ⟨r, f, b, a⟩ = C
      have HC := Lib.hid hC; clear hC
      cases C with
      | false =>
        go_wp2_with (at_builtin; refine wpList_app_rune rfl _ _ rfl w.heap.size (.slice (some ⟨g, 0, none⟩) N cap) D rfl (H3.out.1.ext ((Ext.refl w3).alloc _)) w3.heap.size 63 rfl (Lib.cell_of_heap (Go.heap_alloc_new w3 (.cells #[.int .i32 63] 21)) 0) (by have := HD.out.2.2.1; have := HN.out; omega) (H3.out.2.1.alloc _).size ?_)
        intro v' w5 hap
        obtain ⟨g2, cap2, rfl, _, _⟩ := World.ownsRow.form hap.own (by rw [List.length_append]; exact Nat.succ_pos _)
        have hx5 := ext_grown (H3.out.2.1.alloc _) (H3.out.1.ext ((Ext.refl w3).alloc (.cells #[.int .i32 63] 21))) hap.grown (Nat.le_refl _)
        have hdd : D ++ [63] = charsL (l.take (i + 1)) := by rw [HD.out.2.1, charsL_bad HC.out]
        have hown := hap.own
        rw [hdd] at hown ⊢
        have H5 := Lib.hid (And.intro hown hx5); clear hown hx5 hap hdd
        have hgk := hin.out.1
        go_wp2
        go_roundg (gk - 1)
        case measure => omega
        case rel => exact ⟨i + 1, g2, cap2, by go_num, rfl, by show i + 1 + (gk - 1) = L; omega, H5.out.1, H5.out.2⟩
      | true =>
        go_wp2_with fail
        refine (isTail_of ⟨r, f, b, a⟩ _ HD.out.2.2.2.1).mono ?_
        rintro e w4 ⟨rfl, hx⟩
        have hcb := H3.out.2.2.ext hx
        obtain ⟨q0, q1, q2, q3⟩ := hcb.four0
        have h4 := And.intro (H3.out.1.ext hx) (And.intro (H3.out.2.1.trans hx) hcb)
        clear hcb hx m0 m1 m2 m3 H3
        have H3 := Lib.hid h4; clear h4
        generalize hT : Cel.tl ⟨r, f, b, a⟩ = T
        have HT := Lib.hid hT; clear hT
        cases T with
        | true =>
          have hdd : D = charsL (l.take (i + 1)) := by rw [HD.out.2.1, charsL_tail HC.out HT.out, List.append_nil]
          have hNN : N = (charsL (l.take (i + 1))).length := by rw [← hdd]; exact HN.out.symm
          have hown := H3.out.1
          rw [hNN, hdd] at hown
          have H5 := Lib.hid (And.intro hown (And.intro H3.out.2.1 hNN)); clear hown hdd hNN
          have hgk := hin.out.1
          go_wp2_with fail
          go_roundg (gk - 1)
          case measure => omega
          case rel => exact ⟨i + 1, g, cap, by go_num, by rw [← H5.out.2.2], by show i + 1 + (gk - 1) = L; omega, H5.out.1, H5.out.2.1⟩
        | false =>
          go_wp2_with (at_builtin; refine wpList_app_rune rfl _ _ rfl w.heap.size (.slice (some ⟨g, 0, none⟩) N cap) D rfl (H3.out.1.ext ((Ext.refl w4).alloc _)) w4.heap.size r rfl (Lib.cell_of_heap (Go.heap_alloc_new w4 (.cells #[.int .i32 r] 21)) 0) (by have := HD.out.2.2.1; have := HN.out; omega) (H3.out.2.1.alloc _).size ?_)
          intro v' w5 hap
          obtain ⟨g2, cap2, rfl, _, _⟩ := World.ownsRow.form hap.own (by rw [List.length_append]; exact Nat.succ_pos _)
          have hx5 := ext_grown (H3.out.2.1.alloc _) (H3.out.1.ext ((Ext.refl w4).alloc (.cells #[.int .i32 r] 21))) hap.grown (Nat.le_refl _)
          have hdd : D ++ [r] = charsL (l.take (i + 1)) := by rw [HD.out.2.1, charsL_good HC.out HT.out]
          have hown := hap.own
          rw [hdd] at hown ⊢
          have H5 := Lib.hid (And.intro hown hx5); clear hown hx5 hap hdd
          have hgk := hin.out.1
          go_wp2
          go_roundg (gk - 1)
          case measure => omega
          case rel => exact ⟨i + 1, g2, cap2, by go_num, rfl, by show i + 1 + (gk - 1) = L; omega, H5.out.1, H5.out.2⟩
    · have hil : l.take i = l := List.take_of_length_le (by rw [H.out.2.2]; omega)
      rw [hil] at hin ⊢
      have hall := charsL_i32 H.out.1.all
      have hir := hin.out.2.1.isRunes hall
      have hcl := charsL_len l
      rw [H.out.2.2] at hcl
      have HI := Lib.hid (And.intro hir (And.intro hin.out.2.2 hcl)); clear hir hall hcl hil
      go_wp2_with fail
      go_loopg [3] L (fun k u wq => ∃ (zs : List Int) (C : Option Addr) (d : Nat), u = .slice C zs.length d ∧ Hid (zs.length ≤ k ∧ zs.length ≤ L ∧ stripL zs = stripL (charsL l) ∧ IsRunes wq (.slice C zs.length d) zs ∧ Ext w wq))
      case atStart => exact ⟨charsL l, _, cap, rfl, HI.out.2.2, HI.out.2.2, rfl, HI.out.1, HI.out.2.1⟩
      case round =>
        obtain ⟨zs, C, d, rfl, hq⟩ := hrel
        rcases List.eq_nil_or_concat zs with rfl | ⟨ys, z, hzs⟩
        · have hs := hq.out.2.2.1
          have HS := Lib.hid hs; clear hs
          simp only [List.length_nil]
          go_wp2_with fail
          refine (Encode_runes [] _ _ hq.out.2.2.2.1).mono ?_
          rintro e w7 ⟨rfl, rfl⟩
          go_wp2_with fail
          go_ret
          exact ⟨by rw [HR.out, ← HS.out]; rfl, hq.out.2.2.2.2⟩
        · rw [List.concat_eq_append] at hzs
          subst hzs
          have hir := hq.out.2.2.2.1
          have hls : (ys ++ [z]).length = ys.length + 1 := by simp
          obtain ⟨hz1, g3, off3, rfl, hz2⟩ := hir.at (i := ys.length) (m := z) (by simp)
          have hcut := hir.cut ys.length (by omega)
          rw [List.take_left] at hcut
          obtain ⟨hlen1, hlen2⟩ := And.intro hq.out.1 hq.out.2.1
          rw [hls] at hlen1 hlen2 hir ⊢
          have hst1 : z = 32 → stripL ys = stripL (charsL l) := fun e => by rw [← hq.out.2.2.1, e, stripL_last]
          have hst2 : z ≠ 32 → ys ++ [z] = stripL (charsL l) := fun e => by rw [← hq.out.2.2.1, stripL_stop _ _ e]
          have hex := hq.out.2.2.2.2
          have hyd : ys.length + 1 ≤ d := by
            obtain ⟨A5, c5, e5, h5, _⟩ := hir.form
            injection e5 with _ e6 e7
            rw [e7, ← hls]; exact h5
          clear hq
          generalize hY : ys.length = Y at *
          have HY := Lib.hid (And.intro hY (And.intro hir (And.intro hcut (And.intro hst1 (And.intro hst2 hex))))); clear hY hir hcut hls hst1 hst2 hex
          by_cases hz32 : z = 32
          · subst hz32
            go_wp2_with fail
            go_roundg (gk - 1)
            case measure => omega
            case rel => exact ⟨ys, _, d, by rw [HY.out.1], by have := HY.out.1; omega, by have := HY.out.1; omega, by simpa using HY.out.2.2.2.1, by rw [HY.out.1]; exact HY.out.2.2.1, HY.out.2.2.2.2.2⟩
          · have ez : (z == 32) = false := by simpa using hz32
            have hst := HY.out.2.2.2.2.1 hz32
            have HST := Lib.hid hst; clear hst hz32
            go_wp2_with fail
            refine (Encode_runes (ys ++ [z]) _ _ HY.out.2.1).mono ?_
            rintro e w7 ⟨rfl, rfl⟩
            go_wp2_with fail
            go_ret
            exact ⟨by rw [HR.out, ← HST.out]; rfl, HY.out.2.2.2.2.2⟩
set_option maxHeartbeats 4000000 in
set_option maxRecDepth 100000 in
theorem RefTextC_of (l : List Cel) (v : Value) (w : World) (hv : IsCells w v l) (hm : l.length ≤ 1000) : Calls Tryd.prog 128 #[v] w fun e w' => e = .returned (.string (encS (stripL (charsL l)))) ∧ Ext w w' := by
  obtain ⟨A, c, rfl, hlc, hA⟩ := hv.form
  generalize hL : l.length = L at hlc hv hm ⊢
  have H := Lib.hid (And.intro hv (And.intro trivial hL)); clear hv hL
  obtain ⟨R, hR⟩ : ∃ R, R = encS (stripL (charsL l)) := ⟨_, rfl⟩
  rw [← hR]
  have HR := Lib.hid hR; clear hR
  go_enter Tryd.func128, Tryd.ntmps128
  go_wp2
  go_loopg [3, 4] L (fun k u v wr => ∃ (i : Nat) (B : Option Addr) (d0 : Nat), v = .int .i64 i ∧ u = .slice B (charsL (l.take i)).length d0 ∧ Hid (i + k = L ∧ OwnR wr w.heap.size (.slice B (charsL (l.take i)).length d0) (charsL (l.take i)) ∧ Ext w wr))
  case atStart => exact ⟨0, _, _, rfl, rfl, Nat.zero_add _, OwnR.nil _ _, Ext.refl w⟩
  case round =>
    obtain ⟨i, B, d0, rfl, rfl, hin⟩ := hrel
    by_cases hi : i < L
    · obtain ⟨x, hx⟩ : ∃ x, l[i]? = some x := ⟨l[i]'(by rw [H.out.2.2]; exact hi), List.getElem?_eq_getElem _⟩
      obtain ⟨hxo, g', off', rfl, hcx⟩ := H.out.1.at hx
      have htk := charsL_take l i x hx
      have hln := charsL_len (l.take i)
      rw [List.length_take] at hln
      have hx3 := hcx.ext hin.out.2.2
      obtain ⟨r, f, b, a⟩ := x
      obtain ⟨k0, k1, k2, k3⟩ := hx3.four
      generalize hD : charsL (l.take i) = D at hin htk hln ⊢
      have HD := Lib.hid (And.intro hD (And.intro htk (And.intro hln (And.intro hxo (And.intro hx hx3))))); clear hD htk hln hxo hx hcx hx3
      generalize hN : D.length = N at hin ⊢
      have HN := Lib.hid hN; clear hN
      go_wp2_with fail
      refine (RefCheck_of ⟨r, f, b, a⟩ _ HD.out.2.2.2.1).mono ?_
      rintro e w3 ⟨rfl, hx3⟩
      obtain ⟨m0, m1, m2, m3⟩ := (HD.out.2.2.2.2.2.ext hx3).four
      have H3 := Lib.hid (And.intro (hin.out.2.1.ext hx3) (hin.out.2.2.trans hx3))
      have HX3 := Lib.hid hx3; clear hx3
      clear k0 k1 k2 k3
      generalize hC : Cel.check ⟨r, f, b, a⟩ = C
      have HC := Lib.hid hC; clear hC
      cases C with
      | false =>
        go_wp2_with (at_builtin; refine wpList_app_rune rfl _ _ rfl w.heap.size (.slice B N d0) D rfl (H3.out.1.ext ((Ext.refl w3).alloc _)) w3.heap.size 63 rfl (Lib.cell_of_heap (Go.heap_alloc_new w3 (.cells #[.int .i32 63] 21)) 0) (by have := HD.out.2.2.1; have := HN.out; omega) (H3.out.2.alloc _).size ?_)
        intro v' w5 hap
        obtain ⟨g2, cap2, rfl, _, _⟩ := World.ownsRow.form hap.own (by rw [List.length_append]; exact Nat.succ_pos _)
        have hx5 := ext_grown (H3.out.2.alloc _) (H3.out.1.ext ((Ext.refl w3).alloc (.cells #[.int .i32 63] 21))) hap.grown (Nat.le_refl _)
        have hdd : D ++ [63] = charsL (l.take (i + 1)) := by rw [HD.out.2.1, charsL_bad HC.out]
        have hown := hap.own
        rw [hdd] at hown ⊢
        have H5 := Lib.hid (And.intro hown hx5); clear hown hx5 hap hdd
        have hgk := hin.out.1
        go_wp2
        go_roundg (gk - 1)
        case measure => omega
        case rel => exact ⟨i + 1, _, cap2, by go_num, rfl, by show i + 1 + (gk - 1) = L; omega, H5.out.1, H5.out.2⟩
      | true =>
        go_wp2_with fail
        refine (RefTl_of ⟨r, f, b, a⟩ _ HD.out.2.2.2.1).mono ?_
        rintro e w4 ⟨rfl, hx⟩
        obtain ⟨q0, q1, q2, q3⟩ := ((HD.out.2.2.2.2.2.ext HX3.out).ext hx).four
        have h4 := And.intro (H3.out.1.ext hx) (H3.out.2.trans hx)
        clear hx m0 m1 m2 m3 H3
        have H3 := Lib.hid h4; clear h4
        generalize hT : Cel.tl ⟨r, f, b, a⟩ = T
        have HT := Lib.hid hT; clear hT
        cases T with
        | true =>
          have hdd : D = charsL (l.take (i + 1)) := by rw [HD.out.2.1, charsL_tail HC.out HT.out, List.append_nil]
          have hNN : N = (charsL (l.take (i + 1))).length := by rw [← hdd]; exact HN.out.symm
          have hown := H3.out.1
          rw [hNN, hdd] at hown
          have H5 := Lib.hid (And.intro hown (And.intro H3.out.2 hNN)); clear hown hdd hNN
          have hgk := hin.out.1
          go_wp2_with fail
          go_roundg (gk - 1)
          case measure => omega
          case rel => exact ⟨i + 1, B, d0, by go_num, by rw [← H5.out.2.2], by show i + 1 + (gk - 1) = L; omega, H5.out.1, H5.out.2.1⟩
        | false =>
          go_wp2_with (at_builtin; refine wpList_app_rune rfl _ _ rfl w.heap.size (.slice B N d0) D rfl (H3.out.1.ext ((Ext.refl w4).alloc _)) w4.heap.size r rfl (Lib.cell_of_heap (Go.heap_alloc_new w4 (.cells #[.int .i32 r] 21)) 0) (by have := HD.out.2.2.1; have := HN.out; omega) (H3.out.2.alloc _).size ?_)
          intro v' w5 hap
          obtain ⟨g2, cap2, rfl, _, _⟩ := World.ownsRow.form hap.own (by rw [List.length_append]; exact Nat.succ_pos _)
          have hx5 := ext_grown (H3.out.2.alloc _) (H3.out.1.ext ((Ext.refl w4).alloc (.cells #[.int .i32 r] 21))) hap.grown (Nat.le_refl _)
          have hdd : D ++ [r] = charsL (l.take (i + 1)) := by rw [HD.out.2.1, charsL_good HC.out HT.out]
          have hown := hap.own
          rw [hdd] at hown ⊢
          have H5 := Lib.hid (And.intro hown hx5); clear hown hx5 hap hdd
          have hgk := hin.out.1
          go_wp2
          go_roundg (gk - 1)
          case measure => omega
          case rel => exact ⟨i + 1, _, cap2, by go_num, rfl, by show i + 1 + (gk - 1) = L; omega, H5.out.1, H5.out.2⟩
    · have hil : l.take i = l := List.take_of_length_le (by rw [H.out.2.2]; omega)
      rw [hil] at hin ⊢
      have hall := charsL_i32 H.out.1.all
      have hir := hin.out.2.1.isRunes hall
      have hcl := charsL_len l
      rw [H.out.2.2] at hcl
      have HI := Lib.hid (And.intro hir (And.intro hin.out.2.2 hcl)); clear hir hall hcl hil
      go_wp2_with fail
      go_loopg [3] L (fun k u wq => ∃ (zs : List Int) (C : Option Addr) (d : Nat), u = .slice C zs.length d ∧ Hid (zs.length ≤ k ∧ zs.length ≤ L ∧ stripL zs = stripL (charsL l) ∧ IsRunes wq (.slice C zs.length d) zs ∧ Ext w wq))
      case atStart => exact ⟨charsL l, B, d0, rfl, HI.out.2.2, HI.out.2.2, rfl, HI.out.1, HI.out.2.1⟩
      case round =>
        obtain ⟨zs, C, d, rfl, hq⟩ := hrel
        rcases List.eq_nil_or_concat zs with rfl | ⟨ys, z, hzs⟩
        · have hs := hq.out.2.2.1
          have HS := Lib.hid hs; clear hs
          simp only [List.length_nil]
          go_wp2_with fail
          refine (RefEncode_runes [] _ _ hq.out.2.2.2.1 (by decide)).mono ?_
          rintro e w7 ⟨rfl, hx7⟩
          have HX7 := Lib.hid hx7; clear hx7
          go_wp2_with fail
          go_ret
          exact ⟨by rw [HR.out, ← HS.out]; rfl, hq.out.2.2.2.2.trans HX7.out⟩
        · rw [List.concat_eq_append] at hzs
          subst hzs
          have hir := hq.out.2.2.2.1
          have hls : (ys ++ [z]).length = ys.length + 1 := by simp
          obtain ⟨hz1, g3, off3, rfl, hz2⟩ := hir.at (i := ys.length) (m := z) (by simp)
          have hcut := hir.cut ys.length (by omega)
          rw [List.take_left] at hcut
          obtain ⟨hlen1, hlen2⟩ := And.intro hq.out.1 hq.out.2.1
          rw [hls] at hlen1 hlen2 hir ⊢
          have hst1 : z = 32 → stripL ys = stripL (charsL l) := fun e => by rw [← hq.out.2.2.1, e, stripL_last]
          have hst2 : z ≠ 32 → ys ++ [z] = stripL (charsL l) := fun e => by rw [← hq.out.2.2.1, stripL_stop _ _ e]
          have hex := hq.out.2.2.2.2
          have hyd : ys.length + 1 ≤ d := by
            obtain ⟨A5, c5, e5, h5, _⟩ := hir.form
            injection e5 with _ e6 e7
            rw [e7, ← hls]; exact h5
          clear hq
          generalize hY : ys.length = Y at *
          have HY := Lib.hid (And.intro hY (And.intro hir (And.intro hcut (And.intro hst1 (And.intro hst2 hex))))); clear hY hir hcut hls hst1 hst2 hex
          by_cases hz32 : z = 32
          · subst hz32
            go_wp2_with fail
            go_roundg (gk - 1)
            case measure => omega
            case rel => exact ⟨ys, _, d, by rw [HY.out.1], by have := HY.out.1; omega, by have := HY.out.1; omega, by simpa using HY.out.2.2.2.1, by rw [HY.out.1]; exact HY.out.2.2.1, HY.out.2.2.2.2.2⟩
          · have ez : (z == 32) = false := by simpa using hz32
            have hst := HY.out.2.2.2.2.1 hz32
            have HST := Lib.hid hst; clear hst hz32
            go_wp2_with fail
            refine (RefEncode_runes (ys ++ [z]) _ _ HY.out.2.1 (by rw [List.length_append, HY.out.1]; simp; omega)).mono ?_
            rintro e w7 ⟨rfl, hx7⟩
            have HX7 := Lib.hid hx7; clear hx7
            go_wp2_with fail
            go_ret
            exact ⟨by rw [HR.out, ← HST.out]; rfl, HY.out.2.2.2.2.2.trans HX7.out⟩
end Go.Proofs.YtcmllaeihnmkkaaDoor
namespace Go.Proofs.YtcmllaeihnmkkaaDoor
open Go Go.RowKit

/-- The characters that take a place; all their cells. -/
def wideL (l : List Int) : List Int := l.filter fun r => decide (0 < widthL r)
def makesL (l : List Int) (p : Cel) : List Cel := l.flatMap fun r => makeL r p
theorem width_cases (r : Int) (h : isI32 r) : widthL r = 0 ∨ widthL r = 1 ∨ widthL r = 2 := by
  rw [widthL_eq r h]
  unfold widthR
  split
  · exact .inl rfl
  · split
    · exact .inr (.inr rfl)
    · exact .inr (.inl rfl)
theorem make_check1 (r : Int) (p : Cel) (hp : p.ok) (h : widthL r = 1) : (Cel.mk r p.f p.b (p.a % 64)).plain = true := by
  have h4 := hp.2.2.2
  unfold isU8 at h4
  unfold Cel.plain Cel.check Cel.wide Cel.tl
  have e1 : ¬ (p.a % 64 / 128 = 1) := by omega
  have e2 : ¬ (p.a % 64 / 64 % 2 = 1) := by omega
  simp [e1, e2, h]
theorem make_check2 (r : Int) (p : Cel) (hp : p.ok) (h : widthL r = 2) : (Cel.mk r p.f p.b (p.a % 64 + 64)).opens = true := by
  have h4 := hp.2.2.2
  unfold isU8 at h4
  unfold Cel.opens Cel.check Cel.wide Cel.tl
  have e1 : ¬ ((p.a % 64 + 64) / 128 = 1) := by omega
  have e2 : (p.a % 64 + 64) / 64 % 2 = 1 := by omega
  simp [e1, e2, h]
theorem make_len (r : Int) (p : Cel) (h : isI32 r) : ((makeL r p).length : Int) = widthL r := by
  rcases width_cases r h with h | h | h
  · rw [make_none p (by omega) (by omega), h]; rfl
  · rw [make_one p h, h]; rfl
  · rw [make_two p h, h]; rfl
theorem right_append : ∀ (n : Nat) (a b : List Cel), a.length ≤ n → rightL a = true → rightL (a ++ b) = rightL b := by
  intro n
  induction n with
  | zero => intro a b h _; obtain rfl := List.eq_nil_of_length_eq_zero (Nat.le_zero.1 h); rfl
  | succ n ih =>
    intro a b h hr
    match a, h, hr with
    | [], _, _ => rfl
    | [c], _, hr =>
      rw [rightL_one] at hr
      cases b with
      | nil => simp [rightL_one, rightL_nil, hr]
      | cons d b => simp [rightL_two, hr]
    | c :: d :: u, h, hr =>
      simp only [List.length_cons] at h
      rw [rightL_two] at hr
      show rightL (c :: d :: (u ++ b)) = _
      rw [rightL_two]
      split at hr
      · rename_i hp
        rw [if_pos hp]
        exact ih (d :: u) b (by simp only [List.length_cons]; omega) hr
      · rename_i hp
        simp only [Bool.and_eq_true] at hr
        rw [if_neg hp, hr.1.1, hr.1.2, ih u b (by omega) hr.2]
        rfl
theorem make_right (r : Int) (p : Cel) (hr : isI32 r) (hp : p.ok) : rightL (makeL r p) = true := by
  rcases width_cases r hr with h | h | h
  · rw [make_none p (by omega) (by omega)]; rfl
  · rw [make_one p h, rightL_one]; exact make_check1 r p hp h
  · rw [make_two p h, rightL_two, Cel.opens_plain (make_check2 r p hp h)]
    simp [make_check2 r p hp h, rightL_nil]
theorem make_ok (r : Int) (p : Cel) (hr : isI32 r) (hp : p.ok) : ∀ c, c ∈ makeL r p → c.ok := by
  intro c hc
  have h4 := hp.2.2.2
  unfold isU8 at h4
  unfold makeL at hc
  split at hc
  · obtain rfl := List.mem_singleton.1 hc
    exact ⟨hr, hp.2.1, hp.2.2.1, by unfold isU8; simp only; omega⟩
  · split at hc
    · have h2 : Cel.ok ⟨r, p.f, p.b, p.a % 64 + 64⟩ := ⟨hr, hp.2.1, hp.2.2.1, by unfold isU8; simp only; omega⟩
      rcases List.mem_cons.1 hc with rfl | hc
      · exact h2
      · obtain rfl := List.mem_singleton.1 hc
        exact Cel.ok_tail h2
    · cases hc
theorem make_chars (r : Int) (p : Cel) (hr : isI32 r) (hp : p.ok) : charsL (makeL r p) = if 0 < widthL r then [r] else [] := by
  rcases width_cases r hr with h | h | h
  · rw [make_none p (by omega) (by omega), h]; rfl
  · rw [make_one p h, h]
    have := make_check1 r p hp h
    unfold Cel.plain at this
    simp only [Bool.and_eq_true, Bool.not_eq_true'] at this
    rw [charsL_good this.1.1 this.2]; rfl
  · rw [make_two p h, h]
    have h1 := make_check2 r p hp h
    have h2 := Cel.opens_tl h1
    unfold Cel.opens at h1
    simp only [Bool.and_eq_true] at h1
    rw [show ∀ x y : Cel, [x, y] = [x] ++ [y] from fun _ _ => rfl, charsL_append, charsL_good h1.1 h2, charsL_tail (Cel.tail_check _) (Cel.tail_tl _)]; rfl
theorem makes_take (l : List Int) (p : Cel) (i : Nat) (r : Int) (h : l[i]? = some r) : makesL (l.take (i + 1)) p = makesL (l.take i) p ++ makeL r p := by
  unfold makesL
  rw [List.take_add_one, h, List.flatMap_append]
  simp
theorem wide_take (l : List Int) (i : Nat) (r : Int) (h : l[i]? = some r) : wideL (l.take (i + 1)) = wideL (l.take i) ++ (if 0 < widthL r then [r] else []) := by
  unfold wideL
  rw [List.take_add_one, h, List.filter_append]
  congr 1
  by_cases h2 : 0 < widthL r <;> simp [h2]
/-- What is true of all that was made. -/
theorem makes_all (p : Cel) (hp : p.ok) : ∀ (l : List Int), (∀ r, r ∈ l → isI32 r) → rightL (makesL l p) = true ∧ charsL (makesL l p) = wideL l ∧ (∀ c, c ∈ makesL l p → c.ok) ∧ (makesL l p).length ≤ 2 * l.length
  | [], _ => ⟨rfl, rfl, (fun c hc => by cases hc), Nat.le_refl _⟩
  | r :: l, h => by
    have hr := h r (List.mem_cons_self ..)
    obtain ⟨h1, h2, h3, h4⟩ := makes_all p hp l (fun x hx => h x (List.mem_cons_of_mem _ hx))
    have e : makesL (r :: l) p = makeL r p ++ makesL l p := rfl
    have h5 := make_len r p hr
    rw [e]
    refine ⟨?_, ?_, ?_, ?_⟩
    · rw [right_append _ _ _ (Nat.le_refl _) (make_right r p hr hp)]; exact h1
    · rw [charsL_append, make_chars r p hr hp, h2]
      unfold wideL
      by_cases h6 : 0 < widthL r <;> simp [h6]
    · intro c hc
      rcases List.mem_append.1 hc with hc | hc
      · exact make_ok r p hr hp c hc
      · exact h3 c hc
    · rw [List.length_append, List.length_cons]
      rcases width_cases r hr with h6 | h6 | h6 <;> omega
theorem own_apart {w : World} {b b' n n' z z' : Nat} {e e' : TypeId} {v v' : Value} {xs xs' : List Value} (h : w.ownsRow b e z v n xs) (h' : w.ownsRow b' e' z' v' n' xs') (he : e ≠ e') : v.ownBlock = none ∨ v.ownBlock ≠ v'.ownBlock := by
  rcases h.2 with ⟨rfl, _⟩ | ⟨g, cap, cur, rfl, _, hg, _⟩
  · exact .inl rfl
  · rcases h'.2 with ⟨rfl, _⟩ | ⟨g', cap', cur', rfl, _, hg', _⟩
    · exact .inr (by simp [Value.ownBlock])
    · refine .inr (fun e1 => ?_)
      have e2 : g = g' := by simpa [Value.ownBlock] using e1
      subst e2
      rw [hg] at hg'
      injection hg' with hg'
      injection hg' with _ e3 _
      exact he e3
theorem make_head (r : Int) (p : Cel) (h : 0 < (makeL r p).length) : ∃ x, (makeL r p)[0]? = some x ∧ x.r = r := by
  unfold makeL at h ⊢
  split
  · exact ⟨_, rfl, rfl⟩
  · rename_i h1
    rw [if_neg h1] at h
    split
    · exact ⟨_, rfl, rfl⟩
    · rename_i h2
      rw [if_neg h2] at h
      simp at h
theorem dot_width : widthL 46 = 1 := by decide
theorem encS_dot (zs : List Int) : encS (zs ++ [46]) = encS zs ++ ⟨#[46]⟩ := by
  apply ba_ext
  rw [bts_append, bts_encS, bts_encS, encL_append]
  rfl
end Go.Proofs.YtcmllaeihnmkkaaDoor
