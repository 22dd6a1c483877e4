/- Contracts of the library at this program. · The characters that set a pen: pen.Set. · A parser and an act in memory. · What a step hands back; control characters. · Words of no program: the document's parser of characters, held against the other. · The document's parser in memory; its escape. -/
import Derived.Test.YtgnknliaeoblhabDoorV2
import Derived.Test.YtgnknliaeoblhabDoorV5
import Derived.Test.YtgnknliaeoblhabDoorV6
import Derived.Shelf.Strconv.Itoa3
import Derived.Test.YtgnknliaeoblhabDoorChecked
import Derived.Lib.ItoaMem
import Derived.Lib.AppendIntMem
import Derived.Deep.MidRow
import Derived.Laws.StructEq
import Derived.ChangeKeysEq
import Derived.RegionTactic
import Derived.BigRegion
import Derived.Laws.ResultCell
import Derived.Laws.Tables
namespace Go.Proofs
open Go Go.Shelf Go.RowKit
def Tryd.laysM171_ren : Go.Shelf.Ren := ⟨fun | 171 => 16 | 243 => 24 | 246 => 28 | 283 => 29 | 284 => 30 | 285 => 31 | 286 => 32 | 129 => 34 | 317 => 33 | 318 => 35 | 319 => 36 | 320 => 37 | 337 => 38 | 338 => 39 | n => n, fun | 3 => 3 | 9 => 9 | 2 => 2 | 4 => 4 | 171 => 64 | 0 => 0 | 53 => 65 | 37 => 68 | 5 => 5 | 173 => 69 | 212 => 72 | 51 => 73 | 20 => 20 | 213 => 74 | 46 => 36 | 232 => 78 | 233 => 79 | n => n, fun | 17 => 1 | 18 => 2 | 19 => 3 | n => n⟩
theorem Tryd.laysM171 : Go.Proofs.LaysM.n171 Tryd.prog Tryd.laysM171_ren := {
  mixed := by kernel_rfl
  f129 := Tryd.func34.trans (congrArg some (by kernel_rfl))
  f171 := Tryd.func16.trans (congrArg some (by kernel_rfl))
  f243 := Tryd.func24.trans (congrArg some (by kernel_rfl))
  f246 := Tryd.func28.trans (congrArg some (by kernel_rfl))
  f283 := Tryd.func29.trans (congrArg some (by kernel_rfl))
  f284 := Tryd.func30.trans (congrArg some (by kernel_rfl))
  f285 := Tryd.func31.trans (congrArg some (by kernel_rfl))
  f286 := Tryd.func32.trans (congrArg some (by kernel_rfl))
  f317 := Tryd.func33.trans (congrArg some (by kernel_rfl))
  f318 := Tryd.func35.trans (congrArg some (by kernel_rfl))
  f319 := Tryd.func36.trans (congrArg some (by kernel_rfl))
  f320 := Tryd.func37.trans (congrArg some (by kernel_rfl))
  f337 := Tryd.func38.trans (congrArg some (by kernel_rfl))
  f338 := Tryd.func39.trans (congrArg some (by kernel_rfl))
  t0 := Tryd.underlying0
  a0 := Tryd.isAgg0
  z0 := Tryd.sizeOf0
  v0 := Tryd.zeroValue0
  t2 := Tryd.underlying2
  a2 := Tryd.isAgg2
  z2 := Tryd.sizeOf2
  v2 := Tryd.zeroValue2
  t3 := Tryd.underlying3
  a3 := Tryd.isAgg3
  z3 := Tryd.sizeOf3
  v3 := Tryd.zeroValue3
  t4 := Tryd.underlying4
  a4 := Tryd.isAgg4
  z4 := Tryd.sizeOf4
  v4 := Tryd.zeroValue4
  t5 := Tryd.underlying5
  a5 := Tryd.isAgg5
  z5 := Tryd.sizeOf5
  v5 := Tryd.zeroValue5
  t9 := Tryd.underlying9
  a9 := Tryd.isAgg9
  z9 := Tryd.sizeOf9
  v9 := Tryd.zeroValue9
  t20 := Tryd.underlying20
  a20 := Tryd.isAgg20
  z20 := Tryd.sizeOf20
  v20 := Tryd.zeroValue20
  t37 := Tryd.underlying68
  a37 := Tryd.isAgg68
  z37 := Tryd.sizeOf68
  v37 := Tryd.zeroValue68
  t46 := Tryd.underlying36
  a46 := Tryd.isAgg36
  z46 := Tryd.sizeOf36
  v46 := Tryd.zeroValue36
  t51 := Tryd.underlying73
  a51 := Tryd.isAgg73
  z51 := Tryd.sizeOf73
  v51 := Tryd.zeroValue73
  t53 := Tryd.underlying65
  a53 := Tryd.isAgg65
  z53 := Tryd.sizeOf65
  v53 := Tryd.zeroValue65
  t171 := Tryd.underlying64
  a171 := Tryd.isAgg64
  z171 := Tryd.sizeOf64
  v171 := Tryd.zeroValue64
  t173 := Tryd.underlying69
  a173 := Tryd.isAgg69
  z173 := Tryd.sizeOf69
  v173 := Tryd.zeroValue69
  t212 := Tryd.underlying72
  a212 := Tryd.isAgg72
  z212 := Tryd.sizeOf72
  v212 := Tryd.zeroValue72
  t213 := Tryd.underlying74
  a213 := Tryd.isAgg74
  z213 := Tryd.sizeOf74
  t232 := Tryd.underlying78
  a232 := Tryd.isAgg78
  z232 := Tryd.sizeOf78
  v232 := Tryd.zeroValue78
  t233 := Tryd.underlying79
  a233 := Tryd.isAgg79
  z233 := Tryd.sizeOf79
  v233 := Tryd.zeroValue79
  g17 := by kernel_rfl
  g18 := by kernel_rfl
  g19 := by kernel_rfl
  i0 := by kernel_rfl
  i2 := by kernel_rfl
  i3 := by kernel_rfl
  i4 := by kernel_rfl
  i5 := by kernel_rfl
  i9 := by kernel_rfl
  i20 := by kernel_rfl
  i37 := by kernel_rfl
  i46 := by kernel_rfl
  i51 := by kernel_rfl
  i53 := by kernel_rfl
  i171 := by kernel_rfl
  i173 := by kernel_rfl
  i212 := by kernel_rfl
  i232 := by kernel_rfl
  i233 := by kernel_rfl
  m17 := by kernel_rfl
  m18 := by kernel_rfl
  m19 := by kernel_rfl }
open Go.RowKit Go.Sort Go.Lib in
theorem Tryd.strconv_Itoa (n : Int) (h0 : -9223372036854775808 ≤ n) (h1 : n ≤ 9223372036854775807) (w : World) (htab : Lib.TabIs Tryd.prog w "internal/strconv.uint64pow10" .u64 Lib.pow10Tab) :
    Calls Tryd.prog 16 #[.int .i64 n] w fun e w' => e = .returned (.string ⟨(Lib.itoa n).toArray⟩) ∧ ∃ k os, w' = grow (w.drewN k) os := Any.strconv_Itoa Tryd.laysM171 n h0 h1 w htab
def Tryd.lays171_ren : Go.Shelf.Ren := ⟨fun | 171 => 16 | 243 => 24 | 246 => 28 | 283 => 29 | 284 => 30 | 285 => 31 | 286 => 32 | 129 => 34 | 317 => 33 | 318 => 35 | 319 => 36 | 320 => 37 | 337 => 38 | 338 => 39 | n => n, fun | 3 => 3 | 9 => 9 | 2 => 2 | 4 => 4 | 171 => 64 | 0 => 0 | 53 => 65 | 37 => 68 | 5 => 5 | 173 => 69 | 212 => 72 | 51 => 73 | 20 => 20 | 213 => 74 | 46 => 36 | 232 => 78 | 233 => 79 | n => n, fun | 17 => 1 | 18 => 2 | 19 => 3 | n => n⟩
theorem Tryd.lays171 : Go.Proofs.Lays.n171 Tryd.prog Tryd.lays171_ren := {
  mixed := by kernel_rfl
  f129 := Tryd.func34.trans (congrArg some (by kernel_rfl))
  f171 := Tryd.func16.trans (congrArg some (by kernel_rfl))
  f243 := Tryd.func24.trans (congrArg some (by kernel_rfl))
  f246 := Tryd.func28.trans (congrArg some (by kernel_rfl))
  f283 := Tryd.func29.trans (congrArg some (by kernel_rfl))
  f284 := Tryd.func30.trans (congrArg some (by kernel_rfl))
  f285 := Tryd.func31.trans (congrArg some (by kernel_rfl))
  f286 := Tryd.func32.trans (congrArg some (by kernel_rfl))
  f317 := Tryd.func33.trans (congrArg some (by kernel_rfl))
  f318 := Tryd.func35.trans (congrArg some (by kernel_rfl))
  f319 := Tryd.func36.trans (congrArg some (by kernel_rfl))
  f320 := Tryd.func37.trans (congrArg some (by kernel_rfl))
  f337 := Tryd.func38.trans (congrArg some (by kernel_rfl))
  f338 := Tryd.func39.trans (congrArg some (by kernel_rfl))
  t0 := Tryd.underlying0
  a0 := Tryd.isAgg0
  z0 := Tryd.sizeOf0
  v0 := Tryd.zeroValue0
  t2 := Tryd.underlying2
  a2 := Tryd.isAgg2
  z2 := Tryd.sizeOf2
  v2 := Tryd.zeroValue2
  t3 := Tryd.underlying3
  a3 := Tryd.isAgg3
  z3 := Tryd.sizeOf3
  v3 := Tryd.zeroValue3
  t4 := Tryd.underlying4
  a4 := Tryd.isAgg4
  z4 := Tryd.sizeOf4
  v4 := Tryd.zeroValue4
  t5 := Tryd.underlying5
  a5 := Tryd.isAgg5
  z5 := Tryd.sizeOf5
  v5 := Tryd.zeroValue5
  t9 := Tryd.underlying9
  a9 := Tryd.isAgg9
  z9 := Tryd.sizeOf9
  v9 := Tryd.zeroValue9
  t20 := Tryd.underlying20
  a20 := Tryd.isAgg20
  z20 := Tryd.sizeOf20
  v20 := Tryd.zeroValue20
  t37 := Tryd.underlying68
  a37 := Tryd.isAgg68
  z37 := Tryd.sizeOf68
  v37 := Tryd.zeroValue68
  t46 := Tryd.underlying36
  a46 := Tryd.isAgg36
  z46 := Tryd.sizeOf36
  v46 := Tryd.zeroValue36
  t51 := Tryd.underlying73
  a51 := Tryd.isAgg73
  z51 := Tryd.sizeOf73
  v51 := Tryd.zeroValue73
  t53 := Tryd.underlying65
  a53 := Tryd.isAgg65
  z53 := Tryd.sizeOf65
  v53 := Tryd.zeroValue65
  t171 := Tryd.underlying64
  a171 := Tryd.isAgg64
  z171 := Tryd.sizeOf64
  v171 := Tryd.zeroValue64
  t173 := Tryd.underlying69
  a173 := Tryd.isAgg69
  z173 := Tryd.sizeOf69
  v173 := Tryd.zeroValue69
  t212 := Tryd.underlying72
  a212 := Tryd.isAgg72
  z212 := Tryd.sizeOf72
  v212 := Tryd.zeroValue72
  t213 := Tryd.underlying74
  a213 := Tryd.isAgg74
  z213 := Tryd.sizeOf74
  t232 := Tryd.underlying78
  a232 := Tryd.isAgg78
  z232 := Tryd.sizeOf78
  v232 := Tryd.zeroValue78
  t233 := Tryd.underlying79
  a233 := Tryd.isAgg79
  z233 := Tryd.sizeOf79
  v233 := Tryd.zeroValue79
  g17 := by kernel_rfl
  g18 := by kernel_rfl
  g19 := by kernel_rfl }
open Go.RowKit Go.Sort Go.Lib in
theorem Tryd.strconv_Itoa_small (i : Nat) (hi : i < 100) (w : World) :
    Calls Tryd.prog 16 #[.int .i64 i] w fun e w' => e = .returned (.string ⟨(Lib.decDigits i).toArray⟩) ∧ w' = w := Any.strconv_Itoa_small Tryd.lays171 i hi w
end Go.Proofs
namespace Go.Proofs.YtgnknliaeoblhabDoor
open Go Go.RowKit

theorem itoa_of (k : Nat) (hk : k < 256) (w : World) (hp : Pow10 w) :
    Calls Tryd.prog 16 #[.int .i64 k] w fun e w' => ∃ D : ByteArray, e = .returned (.string D) ∧ bts D = Lib.decDigits k ∧ D.size ≤ 3 ∧ Ext w w' :=
  (Tryd.strconv_Itoa k (by omega) (by omega) w hp).mono fun _ _ ⟨h1, j, os, h2⟩ => ⟨_, h1, by rw [bts_mk, Lib.itoa_nonneg], by rw [size_mk, Lib.itoa_nonneg]; exact dec_len hk, by
    subst h2
    exact Lib.below_grow _ w (Nat.le_refl _) j os⟩
theorem isOn_bits (a : Int) (i : Nat) : (bits .and .u8 a (bitW i) != 0) = isOn a i := rfl
theorem onN_lt (i : Nat) (hi : i < 6) : onN i < 256 := by rcases bitW_cases i hi with rfl | rfl | rfl | rfl | rfl | rfl <;> decide
theorem numsC_one (k : Nat) : numsC [k] = 59 :: Lib.decDigits k := by simp [numsC, numC]
set_option maxHeartbeats 4000000 in
set_option maxRecDepth 100000 in
theorem Set_of (r : Int) (f b : Nat) (a : Int) (w : World) (hf : f < 256) (hb : b < 256) (hW : Ways w) (hp : Pow10 w) :
    Calls Tryd.prog 10 #[.agg #[.int .i32 r, .int .u8 f, .int .u8 b, .int .u8 a]] w fun e w' => ∃ E : ByteArray, e = .returned (.string E) ∧ bts E = setC a f b ∧ E.size ≤ 60 ∧ Ext w w' := by
  have hx0 : Ext w (w.alloc (.cells #[.int .i32 r, .int .u8 f, .int .u8 b, .int .u8 a] 23)) := (Ext.refl w).alloc _
  have hb0 : Blk (w.alloc (.cells #[.int .i32 r, .int .u8 f, .int .u8 b, .int .u8 a] 23)) w.heap.size 23 #[.int .i32 r, .int .u8 f, .int .u8 b, .int .u8 a] := Go.heap_alloc_new w _
  have H := Lib.hid (And.intro hW hp); clear hW hp
  have H0 := Lib.hid (And.intro hb0 hx0); clear hb0 hx0
  go_enter Tryd.func10, Tryd.ntmps10
  go_wp2
  go_loopg [3, 5] 6 (fun k u v wr => ∃ (i : Nat) (S : ByteArray), u = .string S ∧ v = .int .i64 i ∧ Hid (i + k = 6 ∧ bts S = [27, 91, 48] ++ numsC (onsN a i) ∧ S.size ≤ 3 + 4 * i ∧ Blk wr w.heap.size 23 #[.int .i32 r, .int .u8 f, .int .u8 b, .int .u8 a] ∧ Ext w wr))
  case atStart => exact ⟨0, _, rfl, rfl, rfl, rfl, Nat.le_refl _, H0.out⟩
  case round =>
    clear H0
    obtain ⟨i, S, rfl, rfl, hin⟩ := hrel
    by_cases hi : i < 6
    · have hiI : (i : Int) < 6 := by omega
      have hS30 : S.size ≤ 30 := by have := hin.out.2.2.1; omega
      obtain ⟨q0, q1, q2⟩ := (H.out.1.ext hin.out.2.2.2.2).at i hi
      rw [← onN_eq] at q0
      have hon := onsN_succ a i
      have hbit := isOn_bits a i
      have hlt := onN_lt i hi
      generalize isOn a i = B at hbit hon
      generalize bitW i = m at q2 hbit
      generalize onN i = x at q0 hon hlt
      have HQ := Lib.hid (And.intro q0 hon); clear q0 q1 hon
      go_wp2
      have y3 : ∀ n : In (Ext wr), n.val.cell? ⟨w.heap.size, 3, none⟩ = some (.int .u8 a) := fun n => n.prop.cell (hin.out.2.2.2.1.cell 3)
      have z2 : ∀ n : In (Ext wr), n.val.cell? ⟨0, i * 3 + 2, none⟩ = some (.int .u8 m) := fun n => n.prop.cell q2
      have hne : Nonempty (In (Ext wr)) := in_ext wr
      refine wp_region_class (Ext wr) (by kernel_rfl) (by kernel_rfl) (Ext.refl wr).drew ?_
      repeat (go_big_quiet_step (fail))
      refine wpQuiet_nil ?_
      rintro _ ⟨q, rfl⟩
      have HN := Lib.hid q.prop
      generalize q.val = w9 at HN ⊢
      clear y3 z2 hne q2
      cases B with
      | false =>
        have hgk := hin.out.1
        go_wp2
        go_roundg (gk - 1)
        case measure => omega
        case rel => exact ⟨i + 1, S, rfl, by go_num, by show i + 1 + (gk - 1) = 6; omega, by rw [HQ.out.2, hin.out.2.1]; simp, by have := hin.out.2.2.1; omega, Blk.ext hin.out.2.2.2.1 HN.out, hin.out.2.2.2.2.trans HN.out⟩
      | true =>
        have k0 := HN.out.cell HQ.out.1
        go_wp2_with fail
        refine (itoa_of x hlt _ (H.out.2.ext (hin.out.2.2.2.2.trans HN.out))).mono ?_
        rintro e w3 ⟨D, rfl, hD, hD3, hx3⟩
        have H3 := Lib.hid (And.intro hD (HN.out.trans hx3)); clear hD hx3 k0
        have hgk := hin.out.1
        go_wp2
        go_roundg (gk - 1)
        case measure => omega
        case rel =>
          refine ⟨i + 1, _, rfl, by go_num, by show i + 1 + (gk - 1) = 6; omega, ?_, ?_, Blk.ext hin.out.2.2.2.1 H3.out.2, hin.out.2.2.2.2.trans H3.out.2⟩
          · rw [bts_append, bts_append, HQ.out.2, hin.out.2.1, H3.out.1, numsC_append]
            rw [if_pos True.intro, numsC_one]
            simp [bts]
          · have := hin.out.2.2.1
            rw [ByteArray.size_append, ByteArray.size_append]
            show S.size + (1 + D.size) ≤ 3 + 4 * (i + 1)
            omega
    · obtain rfl : i = 6 := by have := hin.out.1; omega
      have hS30 : S.size ≤ 30 := by have := hin.out.2.2.1; omega
      have k1 : wr.cell? ⟨w.heap.size, 1, none⟩ = some (.int .u8 f) := hin.out.2.2.2.1.cell 1
      have k2 : wr.cell? ⟨w.heap.size, 2, none⟩ = some (.int .u8 b) := hin.out.2.2.2.1.cell 2
      have hfw : wrap64 (f : Int) = f := by unfold wrap64; omega
      have hbw : wrap64 (b : Int) = b := by unfold wrap64; omega
      have hset : setC a f b = [27, 91, 48] ++ numsC (onsN a 6) ++ numsC (colN 38 f) ++ numsC (colN 48 b) ++ [109] := by
        unfold setC setN
        rw [numsC_append, numsC_append]
        simp
      have HS := Lib.hid hset; clear hset
      by_cases hf0 : f = 0
      · have ef : ((f : Int) != 0) = false := by simp [hf0]
        by_cases hb0 : b = 0
        · have eb : ((b : Int) != 0) = false := by simp [hb0]
          have hC : numsC (colN 38 f) = [] ∧ numsC (colN 48 b) = [] := by rw [hf0, hb0]; exact ⟨rfl, rfl⟩
          have HC := Lib.hid hC; clear hC hf0 hb0
          go_wp2
          go_ret
          refine ⟨_, rfl, ?_, ?_, hin.out.2.2.2.2⟩
          · rw [bts_append, HS.out, hin.out.2.1, HC.out.1, HC.out.2]
            simp [bts]
          · rw [ByteArray.size_append]
            show S.size + 1 ≤ 60
            omega
        · have eb : ((b : Int) != 0) = true := by simp [hb0]
          have hC : numsC (colN 38 f) = [] ∧ numsC (colN 48 b) = [59, 52, 56, 59, 53, 59] ++ Lib.decDigits b := by
            rw [hf0]
            refine ⟨rfl, ?_⟩
            unfold colN
            rw [if_neg hb0]; exact numsC_48 b
          have HC := Lib.hid hC; clear hC hf0 hb0
          go_wp2_with fail
          refine (itoa_of b hb _ (H.out.2.ext hin.out.2.2.2.2)).mono ?_
          rintro e w3 ⟨D, rfl, hD, hD3, hx3⟩
          have H3 := Lib.hid (And.intro hD (hin.out.2.2.2.2.trans hx3)); clear hD hx3 k1 k2
          go_wp2
          go_ret
          refine ⟨_, rfl, ?_, ?_, H3.out.2⟩
          · rw [bts_append, bts_append, bts_append, HS.out, hin.out.2.1, HC.out.1, HC.out.2, H3.out.1]
            simp [bts]
          · rw [ByteArray.size_append, ByteArray.size_append, ByteArray.size_append]
            show S.size + (6 + D.size) + 1 ≤ 60
            omega
      · have ef : ((f : Int) != 0) = true := by simp [hf0]
        have hCf : numsC (colN 38 f) = [59, 51, 56, 59, 53, 59] ++ Lib.decDigits f := by
          unfold colN
          rw [if_neg hf0]; exact numsC_38 f
        have HF := Lib.hid hCf; clear hCf hf0
        by_cases hb0 : b = 0
        · have eb : ((b : Int) != 0) = false := by simp [hb0]
          have hC : numsC (colN 48 b) = [] := by rw [hb0]; rfl
          have HC := Lib.hid hC; clear hC hb0
          go_wp2_with fail
          refine (itoa_of f hf _ (H.out.2.ext hin.out.2.2.2.2)).mono ?_
          rintro e w3 ⟨D, rfl, hD, hD3, hx3⟩
          have k4 := hx3.cell k2
          have H3 := Lib.hid (And.intro hD (hin.out.2.2.2.2.trans hx3)); clear hD hx3 k1 k2
          go_wp2
          go_ret
          refine ⟨_, rfl, ?_, ?_, H3.out.2⟩
          · rw [bts_append, bts_append, bts_append, HS.out, hin.out.2.1, HF.out, HC.out, H3.out.1]
            simp [bts]
          · rw [ByteArray.size_append, ByteArray.size_append, ByteArray.size_append]
            show S.size + (6 + D.size) + 1 ≤ 60
            omega
        · have eb : ((b : Int) != 0) = true := by simp [hb0]
          have hC : numsC (colN 48 b) = [59, 52, 56, 59, 53, 59] ++ Lib.decDigits b := by
            unfold colN
            rw [if_neg hb0]; exact numsC_48 b
          have HC := Lib.hid hC; clear hC hb0
          go_wp2_with fail
          refine (itoa_of f hf _ (H.out.2.ext hin.out.2.2.2.2)).mono ?_
          rintro e w3 ⟨D, rfl, hD, hD3, hx3⟩
          have k4 := hx3.cell k2
          have H3 := Lib.hid (And.intro hD (hin.out.2.2.2.2.trans hx3)); clear hD hx3 k1 k2
          go_wp2_with fail
          refine (itoa_of b hb _ (H.out.2.ext H3.out.2)).mono ?_
          rintro e w4 ⟨D2, rfl, hD2, hD23, hx4⟩
          have H4 := Lib.hid (And.intro hD2 (H3.out.2.trans hx4)); clear hD2 hx4 k4
          go_wp2
          go_ret
          refine ⟨_, rfl, ?_, ?_, H4.out.2⟩
          · rw [bts_append, bts_append, bts_append, bts_append, bts_append, HS.out, hin.out.2.1, HF.out, HC.out, H3.out.1, H4.out.1]
            simp [bts]
          · rw [ByteArray.size_append, ByteArray.size_append, ByteArray.size_append, ByteArray.size_append, ByteArray.size_append]
            show S.size + (6 + D.size) + (6 + D2.size) + 1 ≤ 60
            omega
end Go.Proofs.YtgnknliaeoblhabDoor
namespace Go.Proofs.YtgnknliaeoblhabDoor
open Go Go.RowKit

theorem eight {α : Type} (l : List α) (h : l.length = 8) : ∃ a b c d e f g k, l = [a, b, c, d, e, f, g, k] := by
  match l, h with
  | [a, b, c, d, e, f, g, k], _ => exact ⟨a, b, c, d, e, f, g, k, rfl⟩
/-- An act's cells. -/
def actC (a : ActV) : List Value := .int .i64 a.kind :: .int .i32 a.r :: .int .u8 a.pr :: .int .u8 a.mid :: .int .i64 a.n :: a.ns.map fun x => Value.int .i64 x
def actV (a : ActV) : Value := .agg (actC a).toArray
def parV (s : Par) : Array Value := (Value.int .i64 s.st :: .int .u8 s.pr :: .int .u8 s.mid :: .int .i64 s.n :: s.ns.map fun x => Value.int .i64 x).toArray
theorem infoAct : (Tryd.prog.info? 28).map (fun i => (i.zero, i.size, i.bytes)) = some (some (.agg #[.int .i64 0, .int .i32 0, .int .u8 0, .int .u8 0, .int .i64 0, .int .i64 0, .int .i64 0, .int .i64 0, .int .i64 0, .int .i64 0, .int .i64 0, .int .i64 0, .int .i64 0]), 13, 88) := by kernel_rfl
theorem infoAct13 : (Tryd.prog.info? 28).map (·.size) = some 13 := by kernel_rfl
theorem infoNums : (Tryd.prog.info? 26).map (·.size) = some 8 := by kernel_rfl
theorem actC_len {a : ActV} (h : a.ns.length = 8) : (actC a).length = 13 := by unfold actC; simp [h]
theorem actC_one (a : ActV) : ∀ u ∈ actC a, u.oneCell' = true := by
  intro u hu
  simp only [actC, List.mem_cons, List.mem_map] at hu
  rcases hu with rfl | rfl | rfl | rfl | rfl | ⟨_, _, rfl⟩ <;> rfl
/-- The world behind a store of a whole parser. -/
def parSet (w : World) (g : Nat) (a : Fin 12 → Value) : World :=
  ((((((((((((w.setCell ⟨g, 0, none⟩ (a 0)).setCell ⟨g, 1, none⟩ (a 1)).setCell ⟨g, 2, none⟩ (a 2)).setCell ⟨g, 3, none⟩ (a 3)).setCell ⟨g, 4, none⟩ (a 4)).setCell ⟨g, 5, none⟩ (a 5)).setCell ⟨g, 6, none⟩ (a 6)).setCell ⟨g, 7, none⟩ (a 7)).setCell ⟨g, 8, none⟩ (a 8)).setCell ⟨g, 9, none⟩ (a 9)).setCell ⟨g, 10, none⟩ (a 10)).setCell ⟨g, 11, none⟩ (a 11))
def innSet (w : World) (g : Nat) (k : Int) : World :=
  ((((((((((((w.setCell ⟨g, 0, none⟩ (.int .i64 k)).setCell ⟨g, 1, none⟩ (.int .u8 0)).setCell ⟨g, 2, none⟩ (.int .u8 0)).setCell ⟨g, 3, none⟩ (.int .i64 0)).setCell ⟨g, 4, none⟩ (.int .i64 0)).setCell ⟨g, 5, none⟩ (.int .i64 0)).setCell ⟨g, 6, none⟩ (.int .i64 0)).setCell ⟨g, 7, none⟩ (.int .i64 0)).setCell ⟨g, 8, none⟩ (.int .i64 0)).setCell ⟨g, 9, none⟩ (.int .i64 0)).setCell ⟨g, 10, none⟩ (.int .i64 0)).setCell ⟨g, 11, none⟩ (.int .i64 0))
theorem only_innSet {w0 w : World} {g : Nat} (h : Only g w0 w) (k : Int) : Only g w0 (innSet w g k) :=
  (((((((((((h.setCell _).setCell _).setCell _).setCell _).setCell _).setCell _).setCell _).setCell _).setCell _).setCell _).setCell _).setCell _
/-- What a walk wants to know of a parser. -/
structure ParFacts (w : World) (g : Nat) (s : Par) (n0 n1 n2 n3 n4 n5 n6 n7 : Int) : Prop where
  c0 : w.cell? ⟨g, 0, none⟩ = some (.int .i64 s.st)
  c1 : w.cell? ⟨g, 1, none⟩ = some (.int .u8 s.pr)
  c2 : w.cell? ⟨g, 2, none⟩ = some (.int .u8 s.mid)
  c3 : w.cell? ⟨g, 3, none⟩ = some (.int .i64 s.n)
  c4 : w.cell? ⟨g, 4, none⟩ = some (.int .i64 n0)
  c5 : w.cell? ⟨g, 5, none⟩ = some (.int .i64 n1)
  c6 : w.cell? ⟨g, 6, none⟩ = some (.int .i64 n2)
  c7 : w.cell? ⟨g, 7, none⟩ = some (.int .i64 n3)
  c8 : w.cell? ⟨g, 8, none⟩ = some (.int .i64 n4)
  c9 : w.cell? ⟨g, 9, none⟩ = some (.int .i64 n5)
  ca : w.cell? ⟨g, 10, none⟩ = some (.int .i64 n6)
  cb : w.cell? ⟨g, 11, none⟩ = some (.int .i64 n7)
theorem infoInt : ∃ i, Tryd.prog.info? 3 = some i := by
  obtain ⟨i, h, _⟩ := Option.map_eq_some_iff.1 (show (Tryd.prog.info? 3).map (·.size) = some 1 by kernel_rfl)
  exact ⟨i, h⟩
theorem cellsInt : Tryd.prog.cellsOf 3 = 1 := by kernel_rfl
theorem eq_nums (d : Nat) (a0 a1 a2 a3 a4 a5 a6 a7 b0 b1 b2 b3 b4 b5 b6 b7 : Int) (w : World) :
    (Op.equalIn (d + 2) 26 (.agg #[.int .i64 a0, .int .i64 a1, .int .i64 a2, .int .i64 a3, .int .i64 a4, .int .i64 a5, .int .i64 a6, .int .i64 a7])
      (.agg #[.int .i64 b0, .int .i64 b1, .int .i64 b2, .int .i64 b3, .int .i64 b4, .int .i64 b5, .int .i64 b6, .int .i64 b7])).run Tryd.prog w
     = .ok (decide (a0 = b0 ∧ a1 = b1 ∧ a2 = b2 ∧ a3 = b3 ∧ a4 = b4 ∧ a5 = b5 ∧ a6 = b6 ∧ a7 = b7)) w := by
  obtain ⟨i, hi⟩ := infoInt
  have u5 := Tryd.underlying3
  have a5' := Tryd.isAgg3
  have z5 := Tryd.sizeOf3
  rw [run_equalIn_array w (d + 1) _ _ Tryd.underlying26 hi, cellsInt, show List.range 8 = [0, 1, 2, 3, 4, 5, 6, 7] from rfl]
  simp only [Op.eqItems]
  go_simp
  by_cases h0 : a0 = b0
  case neg => simp [h0]
  by_cases h1 : a1 = b1
  case neg => simp [h0, h1]
  by_cases h2 : a2 = b2
  case neg => simp [h0, h1, h2]
  by_cases h3 : a3 = b3
  case neg => simp [h0, h1, h2, h3]
  by_cases h4 : a4 = b4
  case neg => simp [h0, h1, h2, h3, h4]
  by_cases h5 : a5 = b5
  case neg => simp [h0, h1, h2, h3, h4, h5]
  by_cases h6 : a6 = b6
  case neg => simp [h0, h1, h2, h3, h4, h5, h6]
  by_cases h7 : a7 = b7
  case neg => simp [h0, h1, h2, h3, h4, h5, h6, h7]
  simp [h0, h1, h2, h3, h4, h5, h6, h7]
def parEqB (k a0 a1 a2 a3 a4 a5 a6 a7 a8 a9 aa ab : Int) : Bool := decide (a0 = k ∧ a1 = 0 ∧ a2 = 0 ∧ a3 = 0 ∧ a4 = 0 ∧ a5 = 0 ∧ a6 = 0 ∧ a7 = 0 ∧ a8 = 0 ∧ a9 = 0 ∧ aa = 0 ∧ ab = 0)
/-- An act is the same as itself. -/
theorem eq_act (a0 a1 a2 a3 a4 a5 a6 a7 a8 a9 aa ab ac : Int) (w : World) :
    (Op.equalIn 10000 28 (.agg #[.int .i64 a0, .int .i32 a1, .int .u8 a2, .int .u8 a3, .int .i64 a4, .int .i64 a5, .int .i64 a6, .int .i64 a7, .int .i64 a8, .int .i64 a9, .int .i64 aa, .int .i64 ab, .int .i64 ac])
      (.agg #[.int .i64 a0, .int .i32 a1, .int .u8 a2, .int .u8 a3, .int .i64 a4, .int .i64 a5, .int .i64 a6, .int .i64 a7, .int .i64 a8, .int .i64 a9, .int .i64 aa, .int .i64 ab, .int .i64 ac])).run Tryd.prog w = .ok true w := by
  have u3 := Tryd.underlying21
  have a3' := Tryd.isAgg21
  have z3 := Tryd.sizeOf21
  have u4 := Tryd.underlying5
  have a4' := Tryd.isAgg5
  have z4 := Tryd.sizeOf5
  have u5 := Tryd.underlying3
  have a5' := Tryd.isAgg3
  have z5 := Tryd.sizeOf3
  have a6' := Tryd.isAgg26
  have z6 := Tryd.sizeOf26
  have hS : Tryd.prog.underlying 28 = some (.struct (Tryd.prog.fieldsOf 28)) := by kernel_rfl
  have hp : Tryd.prog.stoodInHeld 28 = false := by kernel_rfl
  rw [show (10000 : Nat) = 9999 + 1 from rfl, run_equalIn_agg w 9999 28 _ _ hS hp]
  simp only [Program.fieldsOf, Tryd.underlying28]
  go_simp
  rw [show (9999 : Nat) = 9997 + 2 from rfl, eq_nums]
  simp
/-- A row of acts of a call's own. -/
def cellsA (l : List ActV) : List Value := l.flatMap actC
theorem cellsA_append (a b : List ActV) : cellsA (a ++ b) = cellsA a ++ cellsA b := by simp [cellsA]
theorem cellsA_cons (c : ActV) (l : List ActV) : cellsA (c :: l) = actC c ++ cellsA l := rfl
def okAs (l : List ActV) : Prop := ∀ a, a ∈ l → a.ok
theorem cellsA_len : ∀ (l : List ActV), okAs l → (cellsA l).length = l.length * 13
  | [], _ => rfl
  | c :: l, h => by
    rw [cellsA_cons, List.length_append, cellsA_len l (fun a ha => h a (List.mem_cons_of_mem _ ha)), actC_len (h c (List.mem_cons_self ..)).len]
    simp; omega
theorem cellsA_one (l : List ActV) : ∀ u ∈ cellsA l, u.oneCell' = true := by
  intro u hu
  obtain ⟨c, _, hc⟩ := List.mem_flatMap.1 hu
  exact actC_one c u hc
theorem cellsA_at : ∀ (l : List ActV) (i j : Nat) (c : ActV) (u : Value), okAs l → l[i]? = some c → (actC c)[j]? = some u → (cellsA l)[i * 13 + j]? = some u
  | [], _, _, _, _, _, h, _ => by cases h
  | d :: l, 0, j, c, u, _, h, hj => by
    obtain rfl : d = c := by simpa using h
    rw [cellsA_cons, Nat.zero_mul, Nat.zero_add, List.getElem?_append_left (List.getElem?_eq_some_iff.1 hj).1]
    exact hj
  | d :: l, i + 1, j, c, u, hk, h, hj => by
    have hd : (actC d).length = 13 := actC_len (hk d (List.mem_cons_self ..)).len
    rw [cellsA_cons, List.getElem?_append_right (by omega), hd, show (i + 1) * 13 + j - 13 = i * 13 + j by omega]
    exact cellsA_at l i j c u (fun a ha => hk a (List.mem_cons_of_mem _ ha)) h hj
def OwnA (w : World) (base : Nat) (v : Value) (l : List ActV) : Prop := w.ownsRow base 28 13 v l.length (cellsA l)
theorem OwnA.nil (w : World) (base : Nat) : OwnA w base (.slice none 0 0) [] := World.ownsRow_nil _ _ _ _
theorem OwnA.more {w : World} {base : Nat} {v : Value} {l m : List ActV} (h : w.ownsRow base 28 13 v (l.length + m.length) (cellsA l ++ cellsA m)) : OwnA w base v (l ++ m) := by
  unfold OwnA
  rw [List.length_append, cellsA_append]; exact h
theorem own_keptA {w w' : World} {base n z : Nat} {e : TypeId} {v : Value} {xs : List Value} (h : w.ownsRow base e z v n xs) (hk : ∀ g, base ≤ g → g < w.heap.size → w'.heap[g]? = w.heap[g]?) : w'.ownsRow base e z v n xs := by
  obtain ⟨h1, h2⟩ := h
  refine ⟨h1, ?_⟩
  rcases h2 with h2 | ⟨g, cap, cur, e1, e2, e3, e4⟩
  · exact .inl h2
  · refine .inr ⟨g, cap, cur, e1, e2, ?_, e4⟩
    have hlt : g < w.heap.size := by
      rcases Nat.lt_or_ge g w.heap.size with h | h
      · exact h
      · rw [Array.getElem?_eq_none h] at e3; cases e3
    rw [hk g e2 hlt, e3]
theorem OwnA.ext {w w' : World} {base : Nat} {v : Value} {l : List ActV} (h : OwnA w base v l) (hx : Ext w w') : OwnA w' base v l := own_keptA h fun g _ hg => hx.block g hg
theorem OwnA.only {w w' : World} {base d : Nat} {v : Value} {l : List ActV} (h : OwnA w base v l) (hx : Only d w w') (hd : d < base) : OwnA w' base v l := own_keptA h fun g hb hg => hx.block g (by omega) hg
theorem OwnA.low {w : World} {B B' : Nat} {v : Value} {l : List ActV} (h : OwnA w B v l) (hb : B' ≤ B) : OwnA w B' v l := ownsRow_low h hb
theorem OwnA.form {w : World} {base : Nat} {v : Value} {l : List ActV} (h : OwnA w base v l) : ∃ A c, v = .slice A l.length c ∧ (A = none → l.length = 0 ∧ c = 0) := by
  rcases h.2 with ⟨rfl, h0⟩ | ⟨g, cap, cur, rfl, _, _, hn, _⟩
  · exact ⟨none, 0, by rw [h0], fun _ => ⟨h0, rfl⟩⟩
  · exact ⟨_, cap, rfl, fun e => by cases e⟩
theorem OwnA.news {w : World} {base : Nat} {A : Option Addr} {n c : Nat} {l : List ActV} (h : OwnA w base (.slice A n c) l) : ∀ B, A = some B → ∀ j u, (cellsA l)[j]? = some u → w.cell? (B.add j) = some u := by
  intro B hB j u hu
  subst hB
  rcases h.2 with ⟨e, _⟩ | ⟨g, cap, cur, e, _⟩
  · injection e with e1 _ _; cases e1
  · injection e with e1 _ _
    obtain rfl := Option.some.inj e1
    exact World.ownsRow.cells h rfl j u hu
/-- What an append of acts leaves. -/
structure AppendedA (base : Nat) (v : Value) (W : World) (l : List ActV) (v' : Value) (w' : World) : Prop where
  own : OwnA w' base v' l
  grown : W.grownBy w' v.ownBlock
section
variable {W : World} {ops : Array Oper} {rest : List Oper} {o : Oper} {a : Act} {Q : Exit → Act → World → Prop}
theorem wpList_app_act (hgd : o.guard = none) (s x : Operand) (ho : o.op = .call { callee := .builtin .append, args := #[s, x], argTypes := #[31, 31] })
    (base : Nat) (v : Value) (out : List ActV) (hs : a.eval s = v) (hown : OwnA W base v out) (G : Nat) (c : ActV) (hc : c.ok) (hx : a.eval x = .slice (some ⟨G, 0, none⟩) 1 1) (hb : Blk W G 28 (actC c).toArray)
    (hlen : out.length ≤ 2000000) (hbase : base ≤ W.heap.size) (h : ∀ v' w', AppendedA base v W (out ++ [c]) v' w' → wpList Tryd.prog ops Q rest (a.put o.dst v') w') : wpList Tryd.prog ops Q (o :: rest) a W := by
  obtain ⟨i0, hi0, hz0, hz1, hz2⟩ := info_parts infoAct
  have h13 : (cellsA [c]).length = 1 * 13 := by rw [cellsA_len [c] (fun y hy => by rw [List.mem_singleton.1 hy]; exact hc)]; rfl
  refine wpList_append_own_at W hgd s x 31 ho base 28 i0 _ 13 88 Tryd.underlying31 hi0 hz0 hz1 hz2 rfl (by omega) v out.length (cellsA out) hs hown ⟨G, 0, none⟩ 1 1 (cellsA [c]) hx h13 ?_ (cellsA_one [c]) (by unfold maxLen; omega) (by omega) hbase ?_
  · intro j u hj
    rw [add_off, Nat.zero_add, Blk.cell hb j]
    simpa [cellsA] using hj
  · intro v' w' h1 h2 _ _
    exact h v' w' ⟨OwnA.more (m := [c]) h1, h2⟩
theorem wpList_app_acts (hgd : o.guard = none) (s x : Operand) (ho : o.op = .call { callee := .builtin .append, args := #[s, x], argTypes := #[31, 31] })
    (base : Nat) (v : Value) (out : List ActV) (hs : a.eval s = v) (hown : OwnA W base v out) (base2 : Nat) (x' : Value) (l : List ActV) (hx : a.eval x = x') (hown2 : OwnA W base2 x' l) (hl : okAs l)
    (hlen : out.length ≤ 2000000) (hlen2 : l.length ≤ 2000000) (hbase : base ≤ W.heap.size) (h : ∀ v' w', AppendedA base v W (out ++ l) v' w' → wpList Tryd.prog ops Q rest (a.put o.dst v') w') : wpList Tryd.prog ops Q (o :: rest) a W := by
  obtain ⟨i0, hi0, hz0, hz1, hz2⟩ := info_parts infoAct
  obtain ⟨A, c, rfl, hc⟩ := hown2.form
  exact wpList_append_opt hgd s x 31 ho base 28 i0 _ 13 88 Tryd.underlying31 hi0 hz0 hz1 hz2 rfl (by omega) v out.length (cellsA out) hs hown A l.length c (cellsA l) hx hc (cellsA_len l hl) hown2.news (cellsA_one l) (by unfold maxLen; omega) (by omega) hbase
    fun v' w' h1 h2 => h v' w' ⟨OwnA.more h1, h2⟩
end
theorem ext_grownA {w0 w w' : World} {base n z : Nat} {e : TypeId} {v : Value} {xs : List Value} (h : Ext w0 w) (ho : w.ownsRow base e z v n xs) (hg : w.grownBy w' v.ownBlock) (hb : w0.heap.size ≤ base) : Ext w0 w' :=
  Below.grown h hg h.size fun k hk => by have := (ho.lt k hk).1; omega
theorem only_grownA {w0 w w' : World} {d base n z : Nat} {e : TypeId} {v : Value} {xs : List Value} (h : Only d w0 w) (ho : w.ownsRow base e z v n xs) (hg : w.grownBy w' v.ownBlock) (hb : w0.heap.size ≤ base) : Only d w0 w' := by
  obtain ⟨g1, g2, g3, g4, g5⟩ := hg
  refine ⟨g1.trans h.os, g2.trans h.tape, g3.trans h.output, Nat.le_trans h.size g4, fun k hk hl => ?_⟩
  have hl' : k < w.heap.size := Nat.lt_of_lt_of_le hl h.size
  refine (g5 k hl' ?_).trans (h.block k hk hl)
  intro hq
  have := (ho.lt k hq.symm).1
  omega
end Go.Proofs.YtgnknliaeoblhabDoor
namespace Go.Proofs.YtgnknliaeoblhabDoor
open Go Go.RowKit

/-- What a step hands back. -/
def toldV (a : ActV) : Value := .tuple #[actV a, .bool (decide (a.kind ≠ 0))]
/-- An act that is handed back lies in a block of its own. -/
theorem ret_act {fn : Func} {p u : Tmp} (hr : fn.results = #[.cell p 28, .tmp u]) {Q : Ending → World → Prop} {a : Act} {w : World} {G : Nat} {cs : Array Value} (hd : a.defers = []) (hp : a.tmps.getD p undef = .pointer (some ⟨G, 0, none⟩))
    (hb : Blk w G 28 cs) (hz : cs.size = 13) (hq : Q (.returned (.tuple #[.agg cs, a.tmps.getD u undef])) w) : bodyPost Tryd.prog fn Q .ret a w := by
  obtain ⟨tm, df⟩ := a
  simp only at hd hp
  subst hd
  refine bodyPost_ret ?_ rfl hq
  rw [results_cell_tmp hr]
  simp only [hp, asAddr, Sem.run_pure, Result.andThen_ok]
  rw [run_loadVar_row w G 28 28 cs (0, 0) _ hb Tryd.underlying28 rfl (by rw [hz]; exact infoAct13)]
  rfl
theorem only_setRow (w : World) (g : Nat) (cs : Array Value) : Only g w (w.setRow g cs) :=
  ⟨rfl, rfl, rfl, by simp, fun k hk _ => setRow_other w g k cs hk⟩
/-- What is new may turn. -/
theorem only_fresh {g R : Nat} {w0 a b : World} (h : Only g w0 a) (k : Only R a b) (hR : w0.heap.size ≤ R) : Only g w0 b :=
  ⟨k.os.trans h.os, k.tape.trans h.tape, k.output.trans h.output, Nat.le_trans h.size k.size, fun i hi hl => (k.block i (by omega) (Nat.lt_of_lt_of_le hl h.size)).trans (h.block i hi hl)⟩
theorem ext_fresh {R : Nat} {w0 a b : World} (h : Ext w0 a) (k : Only R a b) (hR : w0.heap.size ≤ R) : Ext w0 b :=
  ⟨k.os.trans h.os, k.tape.trans h.tape, k.output.trans h.output, Nat.le_trans h.size k.size, fun i hl => (k.block i (by omega) (Nat.lt_of_lt_of_le hl h.size)).trans (h.block i hl)⟩
/-- A whole act is stored. -/
theorem wpList_store_act {ops : Array Oper} {rest : List Oper} {o : Oper} {a : Act} {w : World} {Q : Exit → Act → World → Prop} (hgd : o.guard = none) (x y : Operand) (ho : o.op = .store 28 x y)
    (R : Nat) (A : ActV) (hA : A.ns.length = 8) (hx : a.eval x = .pointer (some ⟨R, 0, none⟩)) (hy : a.eval y = .agg (actC A).toArray) (old : Array Value) (hb : Blk w R 28 old) (hz : old.size = 13)
    (h : ∀ w', Blk w' R 28 (actC A).toArray → Only R w w' → wpList Tryd.prog ops Q rest (a.put o.dst undef) w') : wpList Tryd.prog ops Q (o :: rest) a w :=
  wpList_store_row hgd 28 x y ho R (actC A).toArray hx hy 28 old hb (by rw [List.size_toArray, actC_len hA]; exact infoAct13) (by rw [hz, List.size_toArray, actC_len hA])
    (Array.all_eq_true_iff_forall_mem.2 fun u hu => actC_one A u (by simpa using hu)) (h _ (setRow_heap w R old (actC A).toArray 28 (0, 0) hb) (only_setRow w R (actC A).toArray))
/-- The walk stands still at the store of a whole act: 'go_wp2_with (with_reducible refine wpList_stop ?_); unfold StopAt'. -/
def StopAt (p : Prop) : Prop := p
theorem wpList_stop {ops : Array Oper} {rest : List Oper} {a : Act} {w : World} {Q : Exit → Act → World → Prop} {d : Option Tmp} {x y : Operand} {t : TypeId} {pos : String} {af : _}
    (h : StopAt (wpList Tryd.prog ops Q (⟨d, .store 28 x y, t, pos, af, none⟩ :: rest) a w)) : wpList Tryd.prog ops Q (⟨d, .store 28 x y, t, pos, af, none⟩ :: rest) a w := h
theorem parV_len {s : Par} (h : s.ns.length = 8) : (parV s).size = 12 := by unfold parV; simp [h]
theorem parV_one (s : Par) : ∀ u ∈ parV s, u.oneCell' = true := by
  intro u hu
  simp only [parV, List.mem_toArray, List.mem_cons, List.mem_map] at hu
  rcases hu with rfl | rfl | rfl | rfl | ⟨_, _, rfl⟩ <;> rfl
abbrev zero13 : Array Value := #[.int .i64 0, .int .i32 0, .int .u8 0, .int .u8 0, .int .i64 0, .int .i64 0, .int .i64 0, .int .i64 0, .int .i64 0, .int .i64 0, .int .i64 0, .int .i64 0, .int .i64 0]
/-- The world behind the making of an act's block. -/
structure Boxed (w W : World) : Prop where
  blk : Blk W w.heap.size 28 zero13
  ext : Ext w W
theorem boxed (w : World) : Boxed w (w.alloc (.cells zero13 28)) := ⟨Go.heap_alloc_new _ _, (Ext.refl w).alloc _⟩
theorem Boxed.only {w W : World} (h : Boxed w W) (g : Nat) : Only g w W := Only.of_ext h.ext
/-- The act's block behind a call that turned the parser alone. -/
theorem Boxed.after {w W W' : World} {g : Nat} (h : Boxed w W) (hg : g < w.heap.size) (k : Only g W W') : Blk W' w.heap.size 28 zero13 := h.blk.only k (by omega)
end Go.Proofs.YtgnknliaeoblhabDoor
namespace Go.Proofs.YtgnknliaeoblhabDoor
open Go Go.RowKit

structure RPar where
  inn : Int
  a : ActV
  any : Bool
def refEscE (t : RPar) (r : Int) : RPar × ActV :=
  if r ≤ 47 then ({ t with a := { t.a with mid := if t.a.mid = 0 then r else 255 } }, .none)
  else if t.a.mid = 0 ∧ r = 91 then ({ t with inn := 2 }, .none)
  else if t.a.mid = 0 ∧ (r = 80 ∨ r = 88 ∨ 93 ≤ r ∧ r ≤ 95) then ({ t with inn := 4 }, .none)
  else if 126 < r ∨ t.a.mid = 255 then ({ t with inn := 0 }, .none)
  else ({ t with inn := 0 }, ⟨3, r, 0, t.a.mid, 0, z8⟩)
def refDigitE (a : ActV) (d : Int) : ActV :=
  if max a.n 1 ≤ 8 then { a with n := max a.n 1, ns := a.ns.set (max a.n 1 - 1) (min (a.ns.getD (max a.n 1 - 1) 0 * 10 + d) 9999) } else { a with n := max a.n 1 }
def refCsiE (t : RPar) (r : Int) : RPar × ActV :=
  if 48 ≤ r ∧ r ≤ 57 ∧ t.a.mid = 0 then (⟨t.inn, refDigitE t.a (r - 48), true⟩, .none)
  else if (r = 58 ∨ r = 59) ∧ t.a.mid = 0 then (⟨t.inn, { t.a with n := min (max t.a.n 1 + 1) 9 }, true⟩, .none)
  else if 60 ≤ r ∧ r ≤ 63 ∧ t.any = false then (⟨t.inn, { t.a with pr := r }, true⟩, .none)
  else if r ≤ 47 ∧ t.a.mid = 0 then (⟨t.inn, { t.a with mid := r }, true⟩, .none)
  else if 64 ≤ r ∧ r ≤ 126 then (⟨0, t.a, true⟩, { t.a with kind := 4, r := r, n := min t.a.n 8 })
  else (⟨3, t.a, true⟩, .none)
def refStepE (t : RPar) (r : Int) : RPar × ActV :=
  if r = 27 then (⟨1, .none, false⟩, .none)
  else if r = 24 ∨ r = 26 then ({ t with inn := 0 }, .none)
  else if r < 0 ∨ 1114111 < r ∨ 127 ≤ r ∧ r ≤ 159 then (t, .none)
  else if r < 32 then (if t.inn ≠ 4 then (t, ⟨2, r, 0, 0, 0, z8⟩) else if r = 7 then ({ t with inn := 0 }, .none) else (t, .none))
  else if t.inn = 0 then (t, ⟨1, r, 0, 0, 0, z8⟩)
  else if t.inn = 1 then refEscE t r
  else if t.inn = 2 then refCsiE t r
  else if t.inn = 3 then (if 64 ≤ r ∧ r ≤ 126 then ({ t with inn := 0 }, .none) else (t, .none))
  else (t, .none)
/-- The two are in the same. -/
structure Rel (s : Par) (t : RPar) : Prop where
  inn : t.inn = s.st
  esc : s.st = 1 → t.a = ⟨0, 0, 0, s.mid, 0, z8⟩ ∧ t.any = false
  csi : s.st = 2 → t.a = ⟨0, 0, s.pr, s.mid, s.n, s.ns⟩ ∧ t.any = decide (s ≠ .inn 2)
/-- What the document's parser is at any time. -/
structure RPar.ok (t : RPar) : Prop where
  inn : 0 ≤ t.inn ∧ t.inn ≤ 4
  mid : 0 ≤ t.a.mid ∧ t.a.mid ≤ 255
  n : t.a.n ≤ 9
  len : t.a.ns.length = 8
  nums : ∀ x, x ∈ t.a.ns → 0 ≤ x ∧ x ≤ 9999
theorem rel_inn (k : Int) (t : RPar) (h : t.inn = k) (h1 : k ≠ 1) (h2 : k ≠ 2) : Rel (.inn k) t := ⟨h, fun e => absurd e h1, fun e => absurd e h2⟩
theorem rel_same {s : Par} {t u : RPar} (h : Rel s t) (hu : u.inn = t.inn) (ha : u.a = t.a) (hy : u.any = t.any) : Rel s u :=
  ⟨hu.trans h.inn, fun e => ⟨ha.trans (h.esc e).1, hy.trans (h.esc e).2⟩, fun e => ⟨ha.trans (h.csi e).1, hy.trans (h.csi e).2⟩⟩
theorem leaves_iff (r : Int) : leavesE r = true ↔ (r = 80 ∨ r = 88 ∨ 93 ≤ r ∧ r ≤ 95) := by
  unfold leavesE
  simp only [Bool.or_eq_true, beq_iff_eq]
  omega
theorem rel_esc {s : Par} {t : RPar} (hs : s.ok) (h : Rel s t) (h1 : s.st = 1) (r : Int) (hr : 32 ≤ r) : (refEscE t r).2 = (escE s r).2 ∧ Rel (escE s r).1 (refEscE t r).1 := by
  obtain ⟨ha, hy⟩ := h.esc h1
  have hm : t.a.mid = s.mid := by rw [ha]
  have hin : t.inn = 1 := h.inn.trans h1
  have he := hs.esc h1
  unfold refEscE escE
  rw [hm]
  by_cases c1 : r ≤ 47
  · rw [if_pos c1, if_pos (show 32 ≤ r ∧ r ≤ 47 from ⟨hr, c1⟩)]
    refine ⟨rfl, h.inn, fun _ => ⟨?_, hy⟩, fun e => ?_⟩
    · show (ActV.mk _ _ _ _ _ _) = _
      rw [ha]
      simp only [ActV.mk.injEq, true_and, and_true]
      by_cases c : s.mid = 0
      · rw [if_pos c, if_neg (by simpa using c)]
      · rw [if_neg c, if_pos c]
    · have e' : s.st = 2 := e
      omega
  rw [if_neg c1, if_neg (show ¬ (32 ≤ r ∧ r ≤ 47) from fun c => c1 c.2)]
  by_cases c2 : s.mid = 0 ∧ r = 91
  · rw [if_pos c2, if_pos c2]
    refine ⟨rfl, rfl, fun e => ?_, fun _ => ⟨?_, ?_⟩⟩
    · have e' : (2 : Int) = 1 := e
      omega
    · show t.a = _
      rw [ha, c2.1]
    · show t.any = _
      rw [hy]; rfl
  rw [if_neg c2, if_neg c2]
  by_cases c3 : s.mid = 0 ∧ leavesE r = true
  · rw [if_pos c3, if_pos (by rw [← leaves_iff]; exact c3)]
    exact ⟨rfl, rel_inn 4 _ rfl (by decide) (by decide)⟩
  rw [if_neg c3, if_neg (by rw [← leaves_iff]; exact c3)]
  split
  · exact ⟨rfl, rel_inn 0 _ rfl (by decide) (by decide)⟩
  · exact ⟨rfl, rel_inn 0 _ rfl (by decide) (by decide)⟩
theorem ne_inn_n {s : Par} (h : s.n ≠ 0) : (true : Bool) = decide (s ≠ .inn 2) := by
  rw [eq_comm, decide_eq_true_iff]
  intro e
  rw [e] at h
  exact h rfl
theorem rel_csi {s : Par} {t : RPar} (h : Rel s t) (h2 : s.st = 2) (r : Int) (hr : 32 ≤ r) : (refCsiE t r).2 = (ctlE s r).2 ∧ Rel (ctlE s r).1 (refCsiE t r).1 := by
  obtain ⟨ha, hy⟩ := h.csi h2
  have hin : t.inn = 2 := h.inn.trans h2
  have hno1 : ∀ {P : Prop}, s.st = 1 → P := fun e => by omega
  obtain ⟨i, a, y⟩ := t
  simp only at ha hy hin
  subst ha hin
  unfold refCsiE ctlE
  simp only
  by_cases c1 : 64 ≤ r ∧ r ≤ 126
  · rw [if_neg (by omega), if_neg (by omega), if_neg (by omega), if_neg (by omega), if_pos c1, if_pos c1]
    exact ⟨rfl, rel_inn 0 _ rfl (by decide) (by decide)⟩
  rw [if_neg c1, if_neg c1]
  by_cases c2 : s.mid = 0 ∧ 48 ≤ r ∧ r ≤ 57
  · rw [if_pos ⟨c2.2.1, c2.2.2, c2.1⟩, if_pos c2]
    refine ⟨rfl, ?_⟩
    unfold refDigitE digitE
    simp only
    split
    · exact ⟨h2.symm, fun e => hno1 e, fun _ => ⟨rfl, ne_inn_n (s := ⟨s.st, s.pr, s.mid, max s.n 1, _⟩) (by show max s.n 1 ≠ 0; omega)⟩⟩
    · exact ⟨h2.symm, fun e => hno1 e, fun _ => ⟨rfl, ne_inn_n (s := ⟨s.st, s.pr, s.mid, max s.n 1, _⟩) (by show max s.n 1 ≠ 0; omega)⟩⟩
  rw [if_neg (fun c => c2 ⟨c.2.2, c.1, c.2.1⟩), if_neg c2]
  by_cases c3 : s.mid = 0 ∧ (r = 58 ∨ r = 59)
  · rw [if_pos ⟨c3.2, c3.1⟩, if_pos c3]
    exact ⟨rfl, h2.symm, fun e => hno1 e, fun _ => ⟨rfl, ne_inn_n (s := ⟨s.st, s.pr, s.mid, min (max s.n 1 + 1) 9, _⟩) (by show min (max s.n 1 + 1) 9 ≠ 0; omega)⟩⟩
  rw [if_neg (fun c => c3 ⟨c.2, c.1⟩), if_neg c3]
  by_cases c4 : s = .inn 2 ∧ 60 ≤ r ∧ r ≤ 63
  · rw [if_pos ⟨c4.2.1, c4.2.2, by rw [hy, c4.1]; rfl⟩, if_pos c4]
    refine ⟨rfl, h2.symm, fun e => hno1 e, fun _ => ⟨rfl, ?_⟩⟩
    rw [eq_comm, decide_eq_true_iff]
    intro e
    have e' : r = 0 := congrArg Par.pr e
    omega
  rw [if_neg (fun c => c4 ⟨by have h5 := c.2.2; rw [hy, decide_eq_false_iff_not] at h5; exact Classical.not_not.1 h5, c.1, c.2.1⟩), if_neg c4]
  by_cases c5 : s.mid = 0 ∧ 32 ≤ r ∧ r ≤ 47
  · rw [if_pos ⟨c5.2.2, c5.1⟩, if_pos c5]
    refine ⟨rfl, h2.symm, fun e => hno1 e, fun _ => ⟨rfl, ?_⟩⟩
    rw [eq_comm, decide_eq_true_iff]
    intro e
    have e' : r = 0 := congrArg Par.mid e
    omega
  rw [if_neg (fun c => c5 ⟨c.2, hr, c.1⟩), if_neg c5]
  exact ⟨rfl, rel_inn 3 _ rfl (by decide) (by decide)⟩
theorem rel_step {s : Par} {t : RPar} (hs : s.ok) (h : Rel s t) (r : Int) : (refStepE t r).2 = (stepE s r).2 ∧ Rel (stepE s r).1 (refStepE t r).1 := by
  have hin := h.inn
  unfold refStepE stepE
  by_cases c1 : r = 27
  · rw [if_pos c1, if_pos c1]
    exact ⟨rfl, rfl, fun _ => ⟨rfl, rfl⟩, fun e => by have e' : (1 : Int) = 2 := e; omega⟩
  rw [if_neg c1, if_neg c1]
  by_cases c2 : r = 24 ∨ r = 26
  · rw [if_pos c2, if_pos c2]
    exact ⟨rfl, rel_inn 0 _ rfl (by decide) (by decide)⟩
  rw [if_neg c2, if_neg c2]
  by_cases c3 : 0 ≤ r ∧ r ≤ 31
  · rw [if_neg (show ¬ (r < 0 ∨ 1114111 < r ∨ 127 ≤ r ∧ r ≤ 159) by omega), if_pos (show r < 32 by omega), if_pos c3]
    unfold obeyedE
    rw [hin]
    split
    · exact ⟨rfl, h⟩
    split
    · exact ⟨rfl, rel_inn 0 _ rfl (by decide) (by decide)⟩
    · exact ⟨rfl, h⟩
  rw [if_neg c3]
  by_cases c4 : 32 ≤ r ∧ r ≤ 126 ∨ 160 ≤ r ∧ r ≤ 1114111
  · rw [if_neg (show ¬ (r < 0 ∨ 1114111 < r ∨ 127 ≤ r ∧ r ≤ 159) by omega), if_neg (show ¬ r < 32 by omega), if_pos c4]
    unfold otherE
    rw [hin]
    by_cases d0 : s.st = 0
    · rw [if_pos d0, if_pos d0]; exact ⟨rfl, h⟩
    rw [if_neg d0, if_neg d0]
    by_cases d1 : s.st = 1
    · rw [if_pos d1, if_pos d1]; exact rel_esc hs h d1 r (by omega)
    rw [if_neg d1, if_neg d1]
    by_cases d2 : s.st = 2
    · rw [if_pos d2, if_pos d2]; exact rel_csi h d2 r (by omega)
    rw [if_neg d2, if_neg d2]
    by_cases d3 : s.st = 3
    · rw [if_pos d3, if_pos d3]
      split
      · exact ⟨rfl, rel_inn 0 _ rfl (by decide) (by decide)⟩
      · exact ⟨rfl, h⟩
    rw [if_neg d3, if_neg d3]
    exact ⟨rfl, h⟩
  rw [if_neg c4, if_pos (show r < 0 ∨ 1114111 < r ∨ 127 ≤ r ∧ r ≤ 159 by omega)]
  exact ⟨rfl, h⟩
theorem okR_digit {a : ActV} (d : Int) (hd : 0 ≤ d) (h4 : a.ns.length = 8) (h5 : ∀ x, x ∈ a.ns → 0 ≤ x ∧ x ≤ 9999) (h3 : a.n ≤ 9) :
    (refDigitE a d).n ≤ 9 ∧ (refDigitE a d).ns.length = 8 ∧ (refDigitE a d).mid = a.mid ∧ ∀ x, x ∈ (refDigitE a d).ns → 0 ≤ x ∧ x ≤ 9999 := by
  unfold refDigitE
  split
  · have hlt : max a.n 1 - 1 < a.ns.length := by omega
    refine ⟨by show max a.n 1 ≤ 9; omega, by simp [h4], rfl, fun x hx => ?_⟩
    rcases List.mem_or_eq_of_mem_set hx with hx | rfl
    · exact h5 x hx
    · have : 0 ≤ a.ns.getD (max a.n 1 - 1) 0 := by
        rw [List.getD_eq_getElem?_getD, List.getElem?_eq_getElem hlt]
        exact (h5 _ (List.getElem_mem hlt)).1
      omega
  · exact ⟨by show max a.n 1 ≤ 9; omega, h4, rfl, h5⟩
theorem okR_step {t : RPar} (h : t.ok) (r : Int) : (refStepE t r).1.ok := by
  obtain ⟨h1, h2, h3, h4, h5⟩ := h
  have hI : ∀ k, 0 ≤ k → k ≤ 4 → (⟨k, t.a, t.any⟩ : RPar).ok := fun k a b => ⟨⟨a, b⟩, h2, h3, h4, h5⟩
  have hJ : ∀ k, 0 ≤ k → k ≤ 4 → (⟨k, t.a, true⟩ : RPar).ok := fun k a b => ⟨⟨a, b⟩, h2, h3, h4, h5⟩
  have hT : t.ok := ⟨h1, h2, h3, h4, h5⟩
  unfold refStepE
  split
  · exact ⟨(show (0 : Int) ≤ 1 ∧ (1 : Int) ≤ 4 by decide), b0, Nat.zero_le 9, rfl, z8_in⟩
  split
  · exact hI 0 (by decide) (by decide)
  split
  · exact hT
  split
  · split
    · exact hT
    split
    · exact hI 0 (by decide) (by decide)
    · exact hT
  split
  · exact hT
  split
  · unfold refEscE
    split
    · refine ⟨h1, ?_, h3, h4, h5⟩
      show 0 ≤ (if t.a.mid = 0 then r else (255 : Int)) ∧ (if t.a.mid = 0 then r else (255 : Int)) ≤ 255
      split <;> omega
    split
    · exact hI 2 (by decide) (by decide)
    split
    · exact hI 4 (by decide) (by decide)
    split <;> exact hI 0 (by decide) (by decide)
  split
  · unfold refCsiE
    split
    · obtain ⟨k1, k2, k3, k4⟩ := okR_digit (r - 48) (by omega) h4 h5 h3
      exact ⟨h1, by show 0 ≤ (refDigitE t.a (r - 48)).mid ∧ (refDigitE t.a (r - 48)).mid ≤ 255; rw [k3]; exact h2, k1, k2, k4⟩
    split
    · exact ⟨h1, h2, by show min (max t.a.n 1 + 1) 9 ≤ 9; omega, h4, h5⟩
    split
    · exact ⟨h1, h2, h3, h4, h5⟩
    split
    · exact ⟨h1, by show 0 ≤ r ∧ r ≤ 255; omega, h3, h4, h5⟩
    split
    · exact hJ 0 (by decide) (by decide)
    · exact hJ 3 (by decide) (by decide)
  split
  · split
    · exact hI 0 (by decide) (by decide)
    · exact hT
  · exact hT
end Go.Proofs.YtgnknliaeoblhabDoor
namespace Go.Proofs.YtgnknliaeoblhabDoor
open Go Go.RowKit

def rparV (t : RPar) : Array Value := (Value.int .i64 t.inn :: (actC t.a ++ [.bool t.any])).toArray
/-- The document's parser lies in block g. -/
def RefPar (w : World) (g : Nat) (t : RPar) : Prop := Blk w g 30 (rparV t)
theorem RefPar.ext {w w' : World} {g : Nat} {t : RPar} (h : RefPar w g t) (hx : Ext w w') : RefPar w' g t := Blk.ext h hx
theorem RefPar.only {w w' : World} {g b : Nat} {t : RPar} (h : RefPar w g t) (hx : Only b w w') (hne : g ≠ b) : RefPar w' g t := Blk.only h hx hne
theorem RefPar.lt {w : World} {g : Nat} {t : RPar} (h : RefPar w g t) : g < w.heap.size := Blk.lt h
/-- An act alone that is handed back. -/
theorem ret_act1 {fn : Func} {p : Tmp} (hr : fn.results = #[.cell p 28]) {Q : Ending → World → Prop} {a : Act} {w : World} {G : Nat} {cs : Array Value} (hd : a.defers = []) (hp : a.tmps.getD p undef = .pointer (some ⟨G, 0, none⟩))
    (hb : Blk w G 28 cs) (hz : cs.size = 13) (hq : Q (.returned (.agg cs)) w) : bodyPost Tryd.prog fn Q .ret a w := by
  obtain ⟨tm, df⟩ := a
  simp only at hd hp
  subst hd
  exact bodyPost_ret (results_cell_row hr _ _ G 28 cs (0, 0) _ hp hb Tryd.underlying28 rfl (by rw [hz]; exact infoAct13)) rfl hq
theorem blk_at {w wX : World} (hs : wX.heap.size = w.heap.size) (cs : Array Value) : Blk (wX.alloc (.cells cs 28)) w.heap.size 28 cs := by
  have : Blk (wX.alloc (.cells cs 28)) wX.heap.size 28 cs := Go.heap_alloc_new _ _
  rwa [hs] at this
theorem ref_end {w wX : World} {g : Nat} {t : RPar} (hp : RefPar wX g t) (ho : Only g w wX) (cs : Array Value) : RefPar (wX.alloc (.cells cs 28)) g t ∧ Only g w (wX.alloc (.cells cs 28)) :=
  ⟨hp.ext ((Ext.refl _).alloc _), ho.ext ((Ext.refl _).alloc _)⟩
theorem size_set (w : World) (p : Addr) (v : Value) : (w.setCell p v).heap.size = w.heap.size := by simp [World.setCell]
/-- What a walk wants to know of the document's parser. -/
structure RFacts (w : World) (g : Nat) (i k r p m : Int) (n : Nat) (n0 n1 n2 n3 n4 n5 n6 n7 : Int) (b : Bool) : Prop where
  c0 : w.cell? ⟨g, 0, none⟩ = some (.int .i64 i)
  c1 : w.cell? ⟨g, 1, none⟩ = some (.int .i64 k)
  c2 : w.cell? ⟨g, 2, none⟩ = some (.int .i32 r)
  c3 : w.cell? ⟨g, 3, none⟩ = some (.int .u8 p)
  c4 : w.cell? ⟨g, 4, none⟩ = some (.int .u8 m)
  c5 : w.cell? ⟨g, 5, none⟩ = some (.int .i64 n)
  c6 : w.cell? ⟨g, 6, none⟩ = some (.int .i64 n0)
  c7 : w.cell? ⟨g, 7, none⟩ = some (.int .i64 n1)
  c8 : w.cell? ⟨g, 8, none⟩ = some (.int .i64 n2)
  c9 : w.cell? ⟨g, 9, none⟩ = some (.int .i64 n3)
  ca : w.cell? ⟨g, 10, none⟩ = some (.int .i64 n4)
  cb : w.cell? ⟨g, 11, none⟩ = some (.int .i64 n5)
  cc : w.cell? ⟨g, 12, none⟩ = some (.int .i64 n6)
  cd : w.cell? ⟨g, 13, none⟩ = some (.int .i64 n7)
  ce : w.cell? ⟨g, 14, none⟩ = some (.bool b)
theorem RefPar.facts {w : World} {g : Nat} {i k r p m : Int} {n : Nat} {n0 n1 n2 n3 n4 n5 n6 n7 : Int} {b : Bool} (h : RefPar w g ⟨i, ⟨k, r, p, m, n, [n0, n1, n2, n3, n4, n5, n6, n7]⟩, b⟩) : RFacts w g i k r p m n n0 n1 n2 n3 n4 n5 n6 n7 b :=
  ⟨h.cell 0, h.cell 1, h.cell 2, h.cell 3, h.cell 4, h.cell 5, h.cell 6, h.cell 7, h.cell 8, h.cell 9, h.cell 10, h.cell 11, h.cell 12, h.cell 13, h.cell 14⟩
set_option maxHeartbeats 2000000 in
set_option maxRecDepth 100000 in
theorem REscape_of (w : World) (g : Nat) (i kd rr pp m n0 n1 n2 n3 n4 n5 n6 n7 r : Int) (n : Nat) (b : Bool) (h : RefPar w g ⟨i, ⟨kd, rr, pp, m, n, [n0, n1, n2, n3, n4, n5, n6, n7]⟩, b⟩) (hr : 32 ≤ r) (hr2 : r ≤ 1114111) (hm : 0 ≤ m ∧ m ≤ 255) :
    Calls Tryd.prog 21 #[.pointer (some ⟨g, 0, none⟩), .int .i32 r] w fun e w' => e = .returned (actV (refEscE ⟨i, ⟨kd, rr, pp, m, n, [n0, n1, n2, n3, n4, n5, n6, n7]⟩, b⟩ r).2)
      ∧ RefPar w' g (refEscE ⟨i, ⟨kd, rr, pp, m, n, [n0, n1, n2, n3, n4, n5, n6, n7]⟩, b⟩ r).1 ∧ Only g w w' := by
  have c4 := h.facts.c4
  have z0 := Blk.frozen h 0
  have z4 := Blk.frozen h 4
  have hlt := h.lt
  have c0 := h.facts.c0
  have H := Lib.hid h; clear h
  unfold refEscE
  simp only
  by_cases k1 : r ≤ 47
  · rw [if_pos k1]
    have hw : r % 256 = r := by omega
    by_cases km : m = 0
    · subst km
      rw [if_pos rfl]
      have HP : RefPar (w.setCell ⟨g, 4, none⟩ (.int .u8 r)) g ⟨i, ⟨kd, rr, pp, r, n, [n0, n1, n2, n3, n4, n5, n6, n7]⟩, b⟩ := Blk.set_ H.out 4 _
      have HQ := Lib.hid HP; clear HP
      go_enter Tryd.func21, Tryd.ntmps21
      go_wp2
      exact ret_act1 rfl rfl rfl (blk_at (size_set _ _ _) _) rfl ⟨rfl, ref_end HQ.out ((Only.refl g w).setCell _) _⟩
    · rw [if_neg km]
      have hmb : (m == 0) = false := by simpa using km
      have HP : RefPar (w.setCell ⟨g, 4, none⟩ (.int .u8 255)) g ⟨i, ⟨kd, rr, pp, 255, n, [n0, n1, n2, n3, n4, n5, n6, n7]⟩, b⟩ := Blk.set_ H.out 4 _
      have HQ := Lib.hid HP; clear HP
      go_enter Tryd.func21, Tryd.ntmps21
      go_wp2
      exact ret_act1 rfl rfl rfl (blk_at (size_set _ _ _) _) rfl ⟨rfl, ref_end HQ.out ((Only.refl g w).setCell _) _⟩
  · rw [if_neg k1]
    have HS : ∀ k : Int, RefPar (w.setCell ⟨g, 0, none⟩ (.int .i64 k)) g ⟨k, ⟨kd, rr, pp, m, n, [n0, n1, n2, n3, n4, n5, n6, n7]⟩, b⟩ := fun k => Blk.set_ H.out 0 _
    have HQ := Lib.hid HS; clear HS
    by_cases km : m = 0
    · subst km
      by_cases k2 : r = 91
      · rw [if_pos ⟨rfl, k2⟩]
        subst k2
        go_enter Tryd.func21, Tryd.ntmps21
        go_wp2
        exact ret_act1 rfl rfl rfl (blk_at (size_set _ _ _) _) rfl ⟨rfl, ref_end (HQ.out 2) ((Only.refl g w).setCell _) _⟩
      · rw [if_neg (fun c => k2 c.2)]
        have e91 : (r == 91) = false := by simpa using k2
        by_cases k3 : r = 80 ∨ r = 88 ∨ 93 ≤ r ∧ r ≤ 95
        · rw [if_pos ⟨rfl, k3⟩]
          have k4 : r = 80 ∨ r = 88 ∨ r = 93 ∨ r = 94 ∨ r = 95 := by omega
          clear k3 k2 e91
          rcases k4 with rfl | rfl | rfl | rfl | rfl
          all_goals
            go_enter Tryd.func21, Tryd.ntmps21
            go_wp2
            exact ret_act1 rfl rfl rfl (blk_at (size_set _ _ _) _) rfl ⟨rfl, ref_end (HQ.out 4) ((Only.refl g w).setCell _) _⟩
        · rw [if_neg (fun c => k3 c.2)]
          have e80 : (r == 80) = false := by simp; omega
          have e88 : (r == 88) = false := by simp; omega
          have e93 : r < 93 ∨ 95 < r := by omega
          by_cases k5 : 126 < r
          · rw [if_pos (Or.inl k5)]
            clear k3 e93
            go_enter Tryd.func21, Tryd.ntmps21
            go_wp2
            exact ret_act1 rfl rfl rfl (blk_at (size_set _ _ _) _) rfl ⟨rfl, ref_end (HQ.out 0) ((Only.refl g w).setCell _) _⟩
          · rw [if_neg (by omega)]
            clear k3
            rcases e93 with e93 | e93
            all_goals
              go_enter Tryd.func21, Tryd.ntmps21
              go_wp2
              exact ret_act1 rfl rfl rfl (blk_at (size_set _ _ _) _) rfl ⟨rfl, ref_end (HQ.out 0) ((Only.refl g w).setCell _) _⟩
    · rw [if_neg (fun c => km c.1), if_neg (fun c => km c.1)]
      have hmb : (m == 0) = false := by simpa using km
      by_cases k5 : 126 < r
      · rw [if_pos (Or.inl k5)]
        go_enter Tryd.func21, Tryd.ntmps21
        go_wp2
        exact ret_act1 rfl rfl rfl (blk_at (size_set _ _ _) _) rfl ⟨rfl, ref_end (HQ.out 0) ((Only.refl g w).setCell _) _⟩
      · by_cases k6 : m = 255
        · rw [if_pos (Or.inr k6)]
          subst k6
          go_enter Tryd.func21, Tryd.ntmps21
          go_wp2
          exact ret_act1 rfl rfl rfl (blk_at (size_set _ _ _) _) rfl ⟨rfl, ref_end (HQ.out 0) ((Only.refl g w).setCell _) _⟩
        · rw [if_neg (by omega)]
          have hm255 : (m == 255) = false := by simpa using k6
          go_enter Tryd.func21, Tryd.ntmps21
          go_wp2
          exact ret_act1 rfl rfl rfl (blk_at (size_set _ _ _) _) rfl ⟨rfl, ref_end (HQ.out 0) ((Only.refl g w).setCell _) _⟩
end Go.Proofs.YtgnknliaeoblhabDoor
