/- Characters are encoded: runes.Encode; the document's lyceumref04.one, Encode. -/
import Derived.Test.YtckdchkegbdiaaaDoorRunesRow
import Derived.Test.YtckdchkegbdiaaaDoorRefWidth
import Derived.WalkKit
import Derived.Laws.BytesString
import Derived.Laws.IdiomStrings
import Derived.Laws.BytesArg
import Derived.WalkLawsBesides
import Derived.IntWalk
import Derived.Deep.LoopGhost
namespace Go.Proofs.YtckdchkegbdiaaaDoor
open Go Go.RowKit

def encS (zs : List Int) : ByteArray := ⟨(encL zs).toArray⟩
theorem bts_encS (zs : List Int) : bts (encS zs) = encL zs := bts_mk _
theorem encS_size (zs : List Int) : (encS zs).size ≤ 4 * zs.length := by
  rw [← bts_len, bts_encS]; exact encL_len zs
theorem foldl_enc : ∀ (zs : List Int) (s : ByteArray), bts (zs.foldl (fun r n => r ++ Utf8.encode n) s) = bts s ++ encL zs
  | [], s => by simp [encL_nil]
  | z :: zs, s => by
    rw [List.foldl_cons, foldl_enc zs, bts_append, encL_cons, List.append_assoc]
    rfl
theorem runesBytes_eq (zs : List Int) : runesBytes zs = encS zs := by
  apply ba_ext
  unfold runesBytes
  rw [foldl_enc, bts_encS]
  rfl
set_option maxRecDepth 100000 in
theorem conv_runes {w : World} {v : Value} {zs : List Int} (hv : IsRunes w v zs) : (convert 57 9 v).run Tryd.prog w = .ok (.string (encS zs)) w := by
  obtain ⟨A, c, rfl, hc, hcells⟩ := hv
  cases A with
  | none =>
    have h0 := hc.2 rfl
    have hz : zs = [] := List.eq_nil_of_length_eq_zero (by omega)
    subst hz
    rw [run_convert_runes_nil w _ _ _ _ _ Tryd.underlying57 Tryd.underlying21 Tryd.underlying9, ← runesBytes_eq]
    rfl
  | some a =>
    rw [run_convert_runes w _ _ _ a zs.length c zs (Nat.le_refl _) Tryd.underlying57 Tryd.underlying21 Tryd.underlying9 fun j hj => ?_, List.take_length, runesBytes_eq]
    obtain ⟨_, g, off, e, h2⟩ := hcells j zs[j] (List.getElem?_eq_getElem hj)
    obtain rfl := Option.some.inj e
    rw [add_off, h2]
    simp [List.getD, hj]
set_option maxRecDepth 100000 in
theorem Encode_runes (zs : List Int) (v : Value) (w : World) (hv : IsRunes w v zs) : Calls Tryd.prog 63 #[v] w fun e w' => e = .returned (.string (encS zs)) ∧ w' = w := by
  have hcv := conv_runes hv
  clear hv
  go_enter Tryd.func63, Tryd.ntmps63
  go_wp2_with (simp only [hcv])
  all_goals (go_ret; exact ⟨rfl, rfl⟩)

def cells8 (l : List UInt8) : Array Value := (l.map fun b => Value.int .u8 b.toNat).toArray
theorem conv_new (W : World) (cap : Nat) (l : List UInt8) (n : Nat) (hn : n = l.length) : (convert 40 9 (.slice (some ⟨W.heap.size, 0, none⟩) n cap)).run Tryd.prog (W.alloc (.cells (cells8 l) 5)) = .ok (.string ⟨l.toArray⟩) (W.alloc (.cells (cells8 l) 5)) := by
  subst hn
  exact run_convert_bytes_back _ _ _ 5 ⟨W.heap.size, 0, none⟩ cap l Tryd.underlying40 Tryd.underlying5 Tryd.underlying9 fun j hj => by
    rw [add_off, Lib.cell_of_heap (Go.heap_alloc_new _ _)]
    simp [cells8, hj]
theorem cells8_one (a : Int) (h0 : 0 ≤ a) (h1 : a < 256) : (Value.int .u8 a) = .int .u8 ((UInt8.ofNat a.toNat).toNat : Int) := by
  rw [toNat8 (by omega)]
  congr 1
  omega
set_option maxRecDepth 100000 in
theorem RefOne_rune (r : Int) (w : World) (h : isRune r) : Calls Tryd.prog 64 #[.int .i32 r] w fun e w' => e = .returned (.string (Utf8.encode r)) ∧ Ext w w' := by
  have hn := none_any r
  rw [noneB_false h] at hn
  have hN := Lib.hid hn; clear hn
  have hE : bts (Utf8.encode r) = _ := encR_of r
  have HE := Lib.hid hE; clear hE
  have h0 : 0 ≤ r := by unfold isRune at h; omega
  have h1 : r ≤ 1114111 := by unfold isRune at h; omega
  have hnum : numR r = r.toNat := by unfold numR; rw [fix_rune h]
  have hnum := hnum
  clear h
  by_cases a1 : r < 128
  · have hc := conv_new w 1 [UInt8.ofNat r.toNat] 1 rfl
    have e1 : cells8 [UInt8.ofNat r.toNat] = #[.int .u8 r] := by rw [cells8_one r h0 (by omega)]; rfl
    rw [e1] at hc
    clear e1
    have HC := Lib.hid hc; clear hc
    go_enter Tryd.func64, Tryd.ntmps64
    go_wp2_with fail
    refine (hN.out _).mono ?_
    rintro e w' ⟨rfl, rfl⟩
    go_wp2
    rw [HC.out]
    go_wp2
    go_ret
    refine ⟨?_, (Ext.refl _).alloc _⟩
    rw [show Utf8.encode r = ⟨[UInt8.ofNat r.toNat].toArray⟩ from ba_ext (by rw [HE.out, bts_mk, hnum, if_pos (by omega)])]
    rfl
  · by_cases a2 : r < 2048
    · go_enter Tryd.func64, Tryd.ntmps64
      go_wp2_with fail
      refine (hN.out _).mono ?_
      rintro e w' ⟨rfl, rfl⟩
      go_wp2
      have hc := conv_new w' 2 [UInt8.ofNat (192 + r / 64).toNat, UInt8.ofNat (128 + r % 64).toNat] 2 rfl
      rw [show cells8 [UInt8.ofNat (192 + r / 64).toNat, UInt8.ofNat (128 + r % 64).toNat] = #[.int .u8 (192 + r / 64), .int .u8 (128 + r % 64)] by rw [cells8_one (192 + r / 64) (by omega) (by omega), cells8_one (128 + r % 64) (by omega) (by omega)]; rfl] at hc
      rw [hc]
      clear hc
      go_wp2
      go_ret
      refine ⟨?_, (Ext.refl _).alloc _⟩
      rw [show Utf8.encode r = ⟨[UInt8.ofNat (192 + r / 64).toNat, UInt8.ofNat (128 + r % 64).toNat].toArray⟩ from ba_ext (by rw [HE.out, bts_mk, hnum, if_neg (by omega), if_pos (by omega), show (192 + r / 64).toNat = 192 + r.toNat / 64 by omega, show (128 + r % 64).toNat = 128 + r.toNat % 64 by omega])]
      rfl
    · by_cases a3 : r < 65536
      · go_enter Tryd.func64, Tryd.ntmps64
        go_wp2_with fail
        refine (hN.out _).mono ?_
        rintro e w' ⟨rfl, rfl⟩
        go_wp2
        have hc := conv_new w' 3 [UInt8.ofNat (224 + r / 4096).toNat, UInt8.ofNat (128 + r / 64 % 64).toNat, UInt8.ofNat (128 + r % 64).toNat] 3 rfl
        rw [show cells8 [UInt8.ofNat (224 + r / 4096).toNat, UInt8.ofNat (128 + r / 64 % 64).toNat, UInt8.ofNat (128 + r % 64).toNat] = #[.int .u8 (224 + r / 4096), .int .u8 (128 + r / 64 % 64), .int .u8 (128 + r % 64)] by rw [cells8_one (224 + r / 4096) (by omega) (by omega), cells8_one (128 + r / 64 % 64) (by omega) (by omega), cells8_one (128 + r % 64) (by omega) (by omega)]; rfl] at hc
        rw [hc]
        clear hc
        go_wp2
        go_ret
        refine ⟨?_, (Ext.refl _).alloc _⟩
        rw [show Utf8.encode r = ⟨[UInt8.ofNat (224 + r / 4096).toNat, UInt8.ofNat (128 + r / 64 % 64).toNat, UInt8.ofNat (128 + r % 64).toNat].toArray⟩ from ba_ext (by rw [HE.out, bts_mk, hnum, if_neg (by omega), if_neg (by omega), if_pos (by omega), show (224 + r / 4096).toNat = 224 + r.toNat / 4096 by omega, show (128 + r / 64 % 64).toNat = 128 + r.toNat / 64 % 64 by omega, show (128 + r % 64).toNat = 128 + r.toNat % 64 by omega])]
        rfl
      · go_enter Tryd.func64, Tryd.ntmps64
        go_wp2_with fail
        refine (hN.out _).mono ?_
        rintro e w' ⟨rfl, rfl⟩
        go_wp2
        have hc := conv_new w' 4 [UInt8.ofNat (240 + r / 262144).toNat, UInt8.ofNat (128 + r / 4096 % 64).toNat, UInt8.ofNat (128 + r / 64 % 64).toNat, UInt8.ofNat (128 + r % 64).toNat] 4 rfl
        rw [show cells8 [UInt8.ofNat (240 + r / 262144).toNat, UInt8.ofNat (128 + r / 4096 % 64).toNat, UInt8.ofNat (128 + r / 64 % 64).toNat, UInt8.ofNat (128 + r % 64).toNat] = #[.int .u8 (240 + r / 262144), .int .u8 (128 + r / 4096 % 64), .int .u8 (128 + r / 64 % 64), .int .u8 (128 + r % 64)] by rw [cells8_one (240 + r / 262144) (by omega) (by omega), cells8_one (128 + r / 4096 % 64) (by omega) (by omega), cells8_one (128 + r / 64 % 64) (by omega) (by omega), cells8_one (128 + r % 64) (by omega) (by omega)]; rfl] at hc
        rw [hc]
        clear hc
        go_wp2
        go_ret
        refine ⟨?_, (Ext.refl _).alloc _⟩
        rw [show Utf8.encode r = ⟨[UInt8.ofNat (240 + r / 262144).toNat, UInt8.ofNat (128 + r / 4096 % 64).toNat, UInt8.ofNat (128 + r / 64 % 64).toNat, UInt8.ofNat (128 + r % 64).toNat].toArray⟩ from ba_ext (by rw [HE.out, bts_mk, hnum, if_neg (by omega), if_neg (by omega), if_neg (by omega), show (240 + r / 262144).toNat = 240 + r.toNat / 262144 by omega, show (128 + r / 4096 % 64).toNat = 128 + r.toNat / 4096 % 64 by omega, show (128 + r / 64 % 64).toNat = 128 + r.toNat / 64 % 64 by omega, show (128 + r % 64).toNat = 128 + r.toNat % 64 by omega])]
        rfl
theorem encode_none (r : Int) (h : noneB r = true) : Utf8.encode r = Utf8.encode 65533 := by
  have hr : ¬ isRune r := by unfold noneB at h; simpa using h
  apply ba_ext
  have e1 : numR r = 65533 := by unfold numR fixR; rw [if_neg hr]; rfl
  have e2 : numR 65533 = 65533 := by decide
  have h1 : bts (Utf8.encode r) = _ := encR_of r
  have h2 : bts (Utf8.encode 65533) = _ := encR_of 65533
  rw [h1, h2, e1, e2]
set_option maxRecDepth 100000 in
theorem RefOne_none (r : Int) (w : World) (h : noneB r = true) : Calls Tryd.prog 64 #[.int .i32 r] w fun e w' => e = .returned (.string (Utf8.encode r)) ∧ Ext w w' := by
  have hn := none_any r
  rw [h] at hn
  have hN := Lib.hid hn; clear hn
  rw [encode_none r h]
  clear h
  go_enter Tryd.func64, Tryd.ntmps64
  go_wp2_with fail
  refine (hN.out _).mono ?_
  rintro e w' ⟨rfl, rfl⟩
  go_wp2
  have hc := conv_new w' 3 [239, 191, 189] 3 rfl
  rw [show cells8 [239, 191, 189] = #[.int .u8 239, .int .u8 191, .int .u8 189] from rfl] at hc
  rw [hc]
  clear hc
  go_wp2
  go_ret
  refine ⟨?_, (Ext.refl _).alloc _⟩
  rw [show Utf8.encode 65533 = ⟨([239, 191, 189] : List UInt8).toArray⟩ from by decide]
  rfl
theorem RefOne_any (r : Int) (w : World) : Calls Tryd.prog 64 #[.int .i32 r] w fun e w' => e = .returned (.string (Utf8.encode r)) ∧ Ext w w' := by
  by_cases h : isRune r
  · exact RefOne_rune r w h
  · exact RefOne_none r w (by unfold noneB; simp [h])
end Go.Proofs.YtckdchkegbdiaaaDoor
