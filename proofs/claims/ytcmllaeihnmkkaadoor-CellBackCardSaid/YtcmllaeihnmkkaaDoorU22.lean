/- The law CellReads, walked. · Arguments opened: a slice of characters; it reads behind the call as it did. · Arguments that are a cell in a place, opened; they read behind the call as they did. · From the rows' condition on the listed variables to the walks' facts; a world that meets it. -/
import Derived.Test.YtcmllaeihnmkkaaDoorU5
import Derived.Test.YtcmllaeihnmkkaaDoorU10
import Derived.Test.YtcmllaeihnmkkaaDoorU11
import Derived.Test.YtcmllaeihnmkkaaDoorU19
import Derived.Test.YtcmllaeihnmkkaaDoorU20
import Derived.Test.YtcmllaeihnmkkaaDoorU21
import Derived.Deep.RegionWith
import Derived.Deep.CutBlock
import Derived.Deep.Cut
import Derived.ProofKit
import Derived.OpenShut
import Derived.ChangeSlices
import Derived.ChangeMaps5
import Derived.WideKeyArgs
import Derived.ChangeArms
import Derived.Deep.Slices
import Derived.Deep.Fields
import Derived.ChangeSame
import Derived.Test.YtcmllaeihnmkkaaDoorCards
import Derived.Test.YtcmllaeihnmkkaaDoorTie
import Derived.LaidMore
import Derived.LaidHandle
import Derived.LaidSub
import Derived.Deep.DeepHandedRow
namespace Go.Proofs.YtcmllaeihnmkkaaDoor
open Go Go.RowKit

theorem shortC_of (s : ByteArray) (n : Nat) (w : World) (hn : n < 1000000) : Calls Tryd.prog 12 #[.string s, .int .i64 n] w fun e w' => e = .returned (.string (shortOf s n)) ∧ w' = w := by
  by_cases h : n < s.size
  · have he : shortOf s n = s.extract 0 n := if_pos h
    rw [he]
    have HE := Lib.hid he; clear he
    go_enter Tryd.func12, Tryd.ntmps12
    go_wp2
    go_ret
    exact ⟨rfl, rfl⟩
  · have he : shortOf s n = s := if_neg h
    rw [he]
    have HE := Lib.hid he; clear he
    go_enter Tryd.func12, Tryd.ntmps12
    go_wp2
    go_ret
    exact ⟨rfl, rfl⟩
theorem bytes_small {l : List Cel} (ho : ∀ c, c ∈ l → c.ok) (hm : l.length ≤ 80) : (bytesL l).length ≤ 4000 := by
  unfold bytesL
  split
  · have h1 := runs_len _ l (Nat.le_refl _)
    have h2 := runsB_len (runsL l) (fun x hx => by
      have := runs_mem _ l (Nat.le_refl _) x hx
      exact ⟨ho _ this.1, this.2.1, by omega⟩)
    omega
  · simp
theorem readGo_ok (s : ByteArray) (n : Nat) : ∀ (fu : Nat) (out : List Cel) (ah : Cel) (p : Nat), p ≤ s.size → (readGo s n fu out ah p).2.1 ≤ s.size ∧ okC (readGo s n fu out ah p).2.2
  | 0, out, ah, p, hp => ⟨hp, by unfold readGo okC; simp⟩
  | fu + 1, out, ah, p, hp => by
    have h0 : okC 0 := by unfold okC; omega
    have h1 := runAt_ok s p 0 hp h0
    unfold readGo
    split
    · split
      · split
        · exact ⟨h1.1, by unfold okC; simp⟩
        · exact readGo_ok s n fu _ _ _ h1.1
      · exact ⟨h1.1, h1.2.1⟩
    · exact ⟨hp, h0⟩
theorem readC_ok (s : ByteArray) (n : Int) : (readC s n).2.1 ≤ s.size ∧ okC (readC s n).2.2 := by
  unfold readC
  split
  · exact ⟨Nat.zero_le _, by unfold okC; simp⟩
  · exact readGo_ok _ _ _ _ _ _ (Nat.zero_le _)
theorem readGo_len (s : ByteArray) (n : Nat) : ∀ (fu : Nat) (out : List Cel) (ah : Cel) (p : Nat), out.length ≤ n → (readGo s n fu out ah p).1.length ≤ n
  | 0, out, ah, p, ho => ho
  | fu + 1, out, ah, p, ho => by
    unfold readGo
    split
    · split
      · split
        · simp
        · rename_i hb
          refine readGo_len s n fu _ _ _ ?_
          have h1 : ¬ (n : Int) < out.length + ((runAt s p 0).k + 1) * (runAt s p 0).c.step := fun h => hb (by unfold badRun; rw [decide_eq_true h]; simp)
          have h2 := numF_range s p 0 4095 (by omega)
          have hk : (0 : Int) ≤ (runAt s p 0).k := h2.1
          obtain ⟨m, hm⟩ : ∃ m : Nat, (runAt s p 0).k + 1 = (m : Int) := ⟨((runAt s p 0).k + 1).toNat, by omega⟩
          rw [hm] at h1 ⊢
          rw [List.length_append, timesL_len, bothL_len]
          have h3 : ((m * (runAt s p 0).c.step : Nat) : Int) = (m : Int) * ((runAt s p 0).c.step : Int) := by simp
          have h4 : (m : Int).toNat = m := rfl
          rw [h4]; omega
      · simp
    · exact ho
theorem readC_len (s : ByteArray) (n : Int) : (readC s n).1.length ≤ 4096 := by
  unfold readC
  split
  · simp
  · have := readGo_len s n.toNat n.toNat [] Cel.zero 0 (Nat.zero_le _)
    omega
/-- The document's row, where it stands, and the code that it has. -/
def RZ (W0 : World) (gb p : Nat) (c : Int) (W : World) : Prop := W.cell? ⟨gb, 1, none⟩ = some (.int .i64 p) ∧ W.cell? ⟨gb, 2, none⟩ = some (.int .i64 c) ∧ Ext W0 W
theorem RZ.drew {W0 : World} {gb p : Nat} {c : Int} {W : World} (h : RZ W0 gb p c W) : RZ W0 gb p c W.drew := ⟨h.1, h.2.1, h.2.2.drew⟩
theorem rz_calls {W0 : World} {gb p : Nat} {c : Int} {f : FuncId} {args : Array Value} {v : Value} (h : ∀ W, Ext W0 W → Calls Tryd.prog f args W fun e w' => e = .returned v ∧ Ext W w') : ∀ W, RZ W0 gb p c W → Calls Tryd.prog f args W fun e w' => e = .returned v ∧ RZ W0 gb p c w' :=
  fun W hz => (h W hz.2.2).mono fun _ _ ⟨he, hx⟩ => ⟨he, hx.cell hz.1, hx.cell hz.2.1, hz.2.2.trans hx⟩
theorem slice_sizes (t : ByteArray) (k n : Nat) (h : t.size ≤ 4000) : (t.extract k n).size ≤ 4000 ∧ True := by
  constructor
  · rw [ByteArray.size_extract]; omega
  · trivial
theorem wrap_small (k : Nat) (h : k ≤ 100000) : IntKind.i64.wrap (k : Int) = k := by rw [IntKind.wrap_i64]; omega
theorem spotBig (n : Int) (N : Nat) (hN : 0 < N) (h : N ≤ 10000) : ∃ k : Nat, Int.tmod (Int.tmod n N + N) N = k ∧ k < N ∧ (-10000 ≤ Int.tmod n N + N ∧ Int.tmod n N + N ≤ 20000) ∧ (-10000 ≤ Int.tmod n N ∧ Int.tmod n N ≤ 10000) := by
  have h1 := Int.tmod_lt_of_pos n (show (0 : Int) < (N : Int) by omega)
  have h2 : -(N : Int) < Int.tmod n N := by
    rcases Int.le_total 0 n with h | h
    · have := Int.tmod_nonneg (N : Int) h; omega
    · have h3 := Int.tmod_nonneg (N : Int) (show 0 ≤ -n by omega)
      have h4 := Int.tmod_lt_of_pos (-n) (show (0 : Int) < (N : Int) by omega)
      rw [Int.neg_tmod] at h3 h4
      omega
  have h3 := Int.tmod_nonneg (N : Int) (show 0 ≤ Int.tmod n N + N by omega)
  have h4 := Int.tmod_lt_of_pos (Int.tmod n N + N) (show (0 : Int) < (N : Int) by omega)
  exact ⟨(Int.tmod (Int.tmod n N + N) N).toNat, by omega, by omega, ⟨by omega, by omega⟩, by omega, by omega⟩
theorem convX (W : World) (a : Addr) (cap : Nat) (n : Int) (h : W.cell? a = some (.int .u8 n)) (h0 : 0 ≤ n) (h1 : n < 256) : (convert 29 9 (.slice (some a) 1 cap)).run Tryd.prog W = .ok (.string ⟨#[UInt8.ofNat n.toNat]⟩) W := by
  have := run_convert_bytes_back (P := Tryd.prog) W 29 9 5 a cap [UInt8.ofNat n.toNat] Tryd.underlying29 Tryd.underlying5 Tryd.underlying9 (fun j hj => by
    have : j = 0 := by simpa using hj
    subst this
    show W.cell? (a.add 0) = _
    have e : a.add 0 = a := by simp [Addr.add]
    rw [e, h]
    have : n.toNat < 256 := by omega
    simp [UInt8.toNat_ofNat', Nat.mod_eq_of_lt this]
    omega)
  exact this
theorem xor8_lt (x y : Int) : 0 ≤ bits .xor .u8 x y ∧ bits .xor .u8 x y < 256 := by
  have h : ∀ n : Int, 0 ≤ IntKind.u8.wrap n ∧ IntKind.u8.wrap n < 256 := fun n => by rw [IntKind.wrap_u8]; omega
  exact h _
set_option maxHeartbeats 8000000 in
set_option maxRecDepth 100000 in
theorem cellReads_true (s : ByteArray) (zs : List Int) (vl : Value) (q0 q1 q2 q3 : Int) (w : World) (hl : IsInts w vl zs) (hml : zs.length ≤ maxLen) (hS : Spans w) (hE : ErrType w) :
    Calls Tryd.prog 3 #[.string s, vl, .agg #[.int .i64 q0, .int .i64 q1, .int .i64 q2, .int .i64 q3]] w fun e w' => e = .returned (.bool true) ∧ Ext w w' := by
  have H := Lib.hid (And.intro hl (And.intro hml (And.intro hS hE))); clear hl hml hS hE
  go_enter Tryd.func3, Tryd.ntmps3
  go_wp2_with fail
  refine (awakeC_true _ (H.out.2.2.1.ext ((Ext.refl w).alloc _))).mono ?_
  rintro e w1 ⟨rfl, hx1⟩
  have hb1 : Blk w1 w.heap.size 23 #[.int .i64 q0, .int .i64 q1, .int .i64 q2, .int .i64 q3] := Blk.ext (Go.heap_alloc_new _ _) hx1
  have H1 := Lib.hid (And.intro hb1 (((Ext.refl w).alloc _).trans hx1)); clear hb1 hx1
  generalize hbq : w.heap.size = bq at H1 ⊢
  have HQ := Lib.hid hbq; clear hbq
  go_wp2_with fail
  refine (shortC_of s 90 _ (by decide)).mono ?_
  rintro e w2 ⟨rfl, rfl⟩
  have hs0 : (shortOf s 90).size ≤ 90 := shortOf_le s 90
  generalize shortOf s 90 = s0 at hs0 ⊢
  go_wp2_with fail
  refine (RowC_of zs vl _ (H.out.1.ext H1.out.2) H.out.2.1).mono ?_
  rintro e w3 ⟨vy, rfl, ho3, hx3⟩
  have HY := Lib.hid (And.intro (row_ok zs) (row_len zs))
  have H3 := Lib.hid (And.intro (ho3.isCells (row_ok zs)) (And.intro (H1.out.2.trans hx3) (Blk.ext H1.out.1 hx3))); clear ho3 hx3
  go_wp2_with fail
  refine (RefBytesC_of (rowL zs) vy _ H3.out.1 (by have := HY.out.2; omega)).mono ?_
  rintro e w4 ⟨rfl, hx4⟩
  have htl : (bytesL (rowL zs)).length ≤ 4000 := bytes_small HY.out.1 HY.out.2
  have hts : (⟨(bytesL (rowL zs)).toArray⟩ : ByteArray).size ≤ 4000 := by rw [size_mk]; exact htl
  generalize (⟨(bytesL (rowL zs)).toArray⟩ : ByteArray) = t at hts ⊢
  clear htl
  have H4 := Lib.hid (And.intro (H3.out.2.1.trans hx4) (Blk.ext H3.out.2.2 hx4)); clear hx4
  go_wp2_with fail
  refine (RowC_of zs vl _ (H.out.1.ext H4.out.1) H.out.2.1).mono ?_
  rintro e w5 ⟨vz, rfl, ho5, hx5⟩
  obtain ⟨A5, c5, rfl, _⟩ := ho5.form
  have hyl := HY.out.2
  generalize hN : (rowL zs).length = N at hyl ⊢
  clear hN ho5
  have H5 := Lib.hid (And.intro (H4.out.1.trans hx5) (Blk.ext H4.out.2 hx5)); clear hx5
  have b0 : w5.cell? ⟨bq, 0, none⟩ = some (.int .i64 q0) := Blk.cell H5.out.2 0
  have b1 : w5.cell? ⟨bq, 1, none⟩ = some (.int .i64 q1) := Blk.cell H5.out.2 1
  have b2 : w5.cell? ⟨bq, 2, none⟩ = some (.int .i64 q2) := Blk.cell H5.out.2 2
  have b3 : w5.cell? ⟨bq, 3, none⟩ = some (.int .i64 q3) := Blk.cell H5.out.2 3
  go_upto_region 5 with fail
  go_cut [33] from 25 to 33 (fun c wc => ∃ B : Bool, c = .bool B ∧ (B = true → 0 < t.size) ∧ wc = w5)
  case first =>
    by_cases hM : bits .and .i64 q0 3 = 0
    · have hMb : (bits .and .i64 q0 3 != 0) = false := by simp [hM]
      clear hM
      go_wp2_with fail
      go_meet
      case rel => exact ⟨_, rfl, (fun h => by cases h), rfl⟩
    · have hMb : (bits .and .i64 q0 3 != 0) = true := by simp [hM]
      clear hM
      go_wp2_with fail
      go_meet
      case rel => exact ⟨_, rfl, fun h => of_decide_eq_true h, rfl⟩
  case rest =>
    obtain ⟨C, rfl, hC, rfl⟩ := hcut
    have HCC := Lib.hid hC; clear hC
    go_upto_if 33 with fail
    go_cut [0, 9] from 10 to 82 (fun a b wc => ∃ (S : ByteArray) (n : Int), a = .string S ∧ b = .int .i64 n ∧ Hid (S.size ≤ 10000 ∧ Ext w wc))
    case first =>
      cases C with
      | false =>
        have hels : ∀ P : Prop, (0 ≤ q3 → q3 ≤ 4096 → P) → (0 ≤ q3 → ¬ q3 ≤ 4096 → P) → (¬ 0 ≤ q3 → P) → P := fun P h1 h2 h3 => by
          by_cases a : 0 ≤ q3
          · by_cases b : q3 ≤ 4096
            · exact h1 a b
            · exact h2 a b
          · exact h3 a
        apply hels
        all_goals
          intros
          clear hels
          go_wp2_with fail
          go_meet
          case rel => exact ⟨s0, _, rfl, rfl, by omega, H5.out.1⟩
      | true =>
        have ht := HCC.out rfl
        have hz2 : ¬ (t.size : Int) = 0 := by omega
        have hz : ((t.size : Int) == 0) = false := by rw [beq_eq_false_iff_ne]; exact hz2
        obtain ⟨k, hk, hkL, hk2, hk3⟩ := spotBig q1 t.size ht (by omega)
        obtain ⟨X, hX, hX0, hX1⟩ : ∃ X : Int, bits BinOp.xor IntKind.u8 ((t[k]'hkL).toNat : Int) (q2 % 256) = X ∧ 0 ≤ X ∧ X < 256 := ⟨_, rfl, (xor8_lt _ _).1, (xor8_lt _ _).2⟩
        have hX2 : bits BinOp.xor IntKind.u8 ((t[k]'hkL).toNat : Int) (IntKind.u8.wrap q2) = X := by rw [IntKind.wrap_u8]; exact hX
        have hcv := convX (wc.alloc (.cells #[.int .u8 X] 5)).drew ⟨wc.heap.size, 0, none⟩ 1 X (Lib.cell_of_heap (Go.heap_alloc_new wc _) 0) hX0 hX1
        obtain ⟨K1, hK1, hK1le⟩ : ∃ K1 : Nat, (k : Int) + 1 = K1 ∧ K1 ≤ t.size := ⟨k + 1, by simp, hkL⟩
        obtain ⟨S1, hS1, hz3⟩ : ∃ S1, t.extract 0 k = S1 ∧ S1.size ≤ 4000 := ⟨_, rfl, (slice_sizes t 0 k hts).1⟩
        obtain ⟨S2, hS2, hz4⟩ : ∃ S2, t.extract K1 t.size = S2 ∧ S2.size ≤ 4000 := ⟨_, rfl, (slice_sizes t K1 t.size hts).1⟩
        have hk7 : (k : Int) ≤ 4000 := by clear hX hX2 hcv; omega
        have hk0 : k ≤ t.size := Nat.le_of_lt hkL
        have hw1 := wrap_small K1 (Nat.le_trans hK1le (Nat.le_trans hts (by decide)))
        clear hs0 hyl
        have hz5 : (⟨#[UInt8.ofNat X.toNat]⟩ : ByteArray).size ≤ 1 := Nat.le_refl 1
        generalize hB1 : (⟨#[UInt8.ofNat X.toNat]⟩ : ByteArray) = B1 at hcv hz5
        clear hB1
        go_wp2_with fail
        have b3' := ((Ext.refl wc).alloc (.cells #[.int .u8 X] 5)).cell b3
        have hxx := (Ext.refl wc).alloc (.cells #[.int .u8 X] 5)
        have HXX := Lib.hid hxx
        clear hz hz2 hk hk2 hk3 ht hX0 hX1 b0 b1 b3 hxx
        go_region_with (fail)
        all_goals
          go_wp2_with fail
          go_meet
          case rel => exact ⟨_, _, rfl, rfl, by simp only [ByteArray.size_append]; omega, H5.out.1.trans HXX.out.drew⟩
    case rest =>
      obtain ⟨S, n, rfl, rfl, hcut⟩ := hcut
      clear b0 b1 b2 b3 hs0 hts hyl
      obtain ⟨wd, hwd⟩ : ∃ wd, wd = wc := ⟨_, rfl⟩
      subst hwd
      go_wp2_with fail
      refine (Of_any S _ (by have := hcut.out.1; omega)).mono ?_
      rintro e w6 ⟨g, rfl, hr6, hx6, hg6⟩
      have hgl := Blk.lt hr6
      have H6 := Lib.hid (And.intro hr6 (And.intro hx6 (And.intro hg6 hgl))); clear hr6 hx6 hg6 hgl
      go_wp2_with fail
      have b7 : RefAt (w6.alloc (.cells #[.string S, .int .i64 0, .int .i64 0] 36)) w6.heap.size S 0 0 := Go.heap_alloc_new w6 _
      have x7 := H6.out.2.1.trans ((Ext.refl w6).alloc (.cells #[.string S, .int .i64 0, .int .i64 0] 36))
      have r7 := Blk.ext H6.out.1 ((Ext.refl w6).alloc (.cells #[.string S, .int .i64 0, .int .i64 0] 36))
      have z7 : (w6.alloc (.cells #[.string S, .int .i64 0, .int .i64 0] 36)).heap.size = w6.heap.size + 1 := by simp
      have hgb : g < w6.heap.size := H6.out.2.2.2
      have hwb : wd.heap.size ≤ w6.heap.size := H6.out.2.1.size
      generalize w6.alloc (.cells #[.string S, .int .i64 0, .int .i64 0] 36) = W at b7 x7 r7 z7 ⊢
      generalize w6.heap.size = gb at b7 z7 hgb hwb ⊢
      have hSd : Spans wd := H.out.2.2.1.ext hcut.out.2
      have HW := Lib.hid (And.intro b7 (And.intro x7 (And.intro r7 (And.intro z7 (And.intro hgb (And.intro hwb hSd)))))); clear b7 x7 r7 z7 hgb hwb hSd
      have hsz : S.size ≤ 1000000 := by have := hcut.out.1; omega
      refine (Read_all wd W g S n hsz HW.out.2.2.1 HW.out.2.1 H6.out.2.2.1 HW.out.2.2.2.2.2.2).mono ?_
      rintro e w7 ⟨v7, rfl, hn7, hr7, ho7⟩
      have hne : g ≠ gb := by have := HW.out.2.2.2.2.1; omega
      have H7 := Lib.hid (And.intro hn7 (And.intro hr7 (And.intro (Blk.only HW.out.1 ho7 hne.symm) (show Ext wd w7 from Below.trans HW.out.2.1 (ho7.below H6.out.2.2.1 HW.out.2.1.size)))))
      clear hn7 hr7 ho7
      go_wp2_with fail
      refine (RefRead_all w7 gb S n hsz H7.out.2.2.1).mono ?_
      rintro e w8 ⟨v8, rfl, hi8, hr8, ho8⟩
      have hle := readC_len S n
      have hok := readC_ok S n
      have H8 := Lib.hid (And.intro (H7.out.1.only ho8 (by have := HW.out.2.2.2.1; omega)) (And.intro hi8 (And.intro (Blk.only H7.out.2.1 ho8 hne) (And.intro hr8 (show Ext wd w8 from Below.trans H7.out.2.2.2 (ho8.below HW.out.2.2.2.2.2.1 H7.out.2.2.2.size))))))
      clear hi8 hr8 ho8
      obtain ⟨⟨L, p, c⟩, hR⟩ : ∃ R, readC S n = R := ⟨_, rfl⟩
      rw [hR] at H8 hle hok
      clear hR
      have HOK := Lib.hid (And.intro hle hok); clear hle hok
      go_wp2_with fail
      refine (SameC_of L L v7 v8 w8 H8.out.1.isCells H8.out.2.1 (Nat.le_trans HOK.out.1 (by decide))).mono ?_
      rintro e w9 ⟨rfl, hx9⟩
      rw [decide_eq_true (rfl : L = L)]
      have hr9 := Blk.ext H8.out.2.2.1 hx9
      have hf9 := Blk.ext H8.out.2.2.2.1 hx9
      have hE9 : ErrType w9 := H.out.2.2.2.ext (hcut.out.2.trans (H8.out.2.2.2.2.trans hx9))
      have H9 := Lib.hid (And.intro hr9 (And.intro hf9 (And.intro hE9 (hcut.out.2.trans (H8.out.2.2.2.2.trans hx9))))); clear hr9 hf9 hE9 hx9
      have gS : RZ w9 gb p c w9 := ⟨Blk.cell H9.out.2.1 1, Blk.cell H9.out.2.1 2, Ext.refl w9⟩
      have gT := gS.drew
      have p1 := HOK.out.2.1
      have c1 := HOK.out.2.2
      unfold okC at c1
      have FA := Lib.hid (rz_calls (W0 := w9) (gb := gb) (p := p) (c := c) (fun W hW => (At_row W g S p c (Blk.ext H9.out.1 hW)).mono fun e w' ⟨he, hw⟩ => ⟨he, hw ▸ Ext.refl W⟩))
      by_cases hc : c = 0
      · subst hc
        have FE := Lib.hid (rz_calls (W0 := w9) (gb := gb) (p := p) (c := 0) (fun W hW => Err_ok W g S p (Blk.ext H9.out.1 hW)))
        have FC := Lib.hid (rz_calls (W0 := w9) (gb := gb) (p := p) (c := 0) (fun W _ => Code_nil W))
        go_wp2_with fail
        try simp only [List.append]
        have z1 : ∀ n : In (RZ w9 gb p 0), n.val.cell? ⟨gb, 1, none⟩ = some (.int .i64 p) := fun n => n.prop.1
        have z2 : ∀ n : In (RZ w9 gb p 0), n.val.cell? ⟨gb, 2, none⟩ = some (.int .i64 0) := fun n => n.prop.2.1
        have hne : Nonempty (In (RZ w9 gb p 0)) := ⟨⟨_, gT⟩⟩
        refine wp_region_class (RZ w9 gb p 0) (by kernel_rfl) (by kernel_rfl) gT ?_
        repeat (go_big_quiet_step (first
          | (go_at_call 19; exact quiet_class FA.out _)
          | (go_at_call 21; exact quiet_class FE.out _)
          | (go_at_call 20; exact quiet_class FC.out _)))
        refine wpQuiet_nil ?_
        rintro _ ⟨n, rfl⟩
        have hn := Lib.hid n.prop
        generalize n.val = wz at hn ⊢
        clear z1 z2 hne gS gT FA FE FC
        go_wp2_with fail
        go_ret
        exact ⟨rfl, H9.out.2.2.2.trans hn.out.2.2⟩
      · have FE := Lib.hid (rz_calls (W0 := w9) (gb := gb) (p := p) (c := c) (fun W hW => Err_bad W g S p c hc (Blk.ext H9.out.1 hW)))
        have FC := Lib.hid (rz_calls (W0 := w9) (gb := gb) (p := p) (c := c) (fun W hW => Code_placed c p W (H9.out.2.2.1.ext hW) hc (by omega) (by omega) (by omega) (by omega)))
        go_wp2_with fail
        try simp only [List.append]
        have z1 : ∀ n : In (RZ w9 gb p c), n.val.cell? ⟨gb, 1, none⟩ = some (.int .i64 p) := fun n => n.prop.1
        have z2 : ∀ n : In (RZ w9 gb p c), n.val.cell? ⟨gb, 2, none⟩ = some (.int .i64 c) := fun n => n.prop.2.1
        have hne : Nonempty (In (RZ w9 gb p c)) := ⟨⟨_, gT⟩⟩
        refine wp_region_class (RZ w9 gb p c) (by kernel_rfl) (by kernel_rfl) gT ?_
        repeat (go_big_quiet_step (first
          | (go_at_call 19; exact quiet_class FA.out _)
          | (go_at_call 21; exact quiet_class FE.out _)
          | (go_at_call 20; exact quiet_class FC.out _)))
        refine wpQuiet_nil ?_
        rintro _ ⟨n, rfl⟩
        have hn := Lib.hid n.prop
        generalize n.val = wz at hn ⊢
        clear z1 z2 hne gS gT FA FE FC
        go_wp2_with fail
        go_ret
        exact ⟨rfl, H9.out.2.2.2.trans hn.out.2.2⟩
end Go.Proofs.YtcmllaeihnmkkaaDoor
namespace Go.Proofs.YtcmllaeihnmkkaaDoor
open Go Go.ChangeShapes Go.WideShapes Go.ChangeAt Go.RowKit

theorem wf_i32 {n : Int} (h : (Lit.int .i32 n).wf = true) : -2147483648 ≤ n ∧ n ≤ 2147483647 := by
  have h' : (decide (IntKind.i32.min ≤ n) && decide (n ≤ IntKind.i32.max)) = true := h
  have e1 : IntKind.i32.min = -2147483648 := by decide
  have e2 : IntKind.i32.max = 2147483647 := by decide
  rw [e1, e2] at h'
  simpa using h'
theorem cellsI32 : Tryd.prog.cellsOf 21 = 1 := by kernel_rfl
theorem readRunes : Tryd.prog.readableRec 188 = true := by kernel_rfl
set_option maxRecDepth 100000 in
theorem runes_of {H : Type} {enc : TypeId × Value → H} {W : World} {r : Reach} {b0 : Nat} {v : Value} {d : DataW H} {p : List MemPlace} (hv : Value.okWide Tryd.prog W r b0 188 v) (h : DataW.Trod enc Tryd.prog W 0 (fun _ => true) true 188 v d p) : ∃ zs, IsRunes W v zs ∧ zs.length ≤ maxLen := by
  obtain ⟨a, len, cap, rfl⟩ := okWide_slice Tryd.underlying188 hv
  obtain ⟨n, hn⟩ := h
  rcases open_ints Tryd.underlying188 Tryd.underlying21 cellsI32 hn with ⟨hcs, _⟩ | ⟨ad, len', cap', zs, hcs, hb, hl, hm, hz, hx, hc, hw⟩
  · have e : Value.slice a len cap = .slice none 0 0 := by simpa [Value.cells] using hcs
    injection e with e1 e2 e3
    subst e1 e2 e3
    exact ⟨[], ⟨none, 0, rfl, ⟨Nat.le_refl _, fun _ => rfl⟩, fun i n h => by cases h⟩, Nat.zero_le _⟩
  · have e : Value.slice a len cap = .slice (some ad) len' cap' := by simpa [Value.cells] using hcs
    injection e with e1 e2 e3
    subst e1 e2 e3
    have hzl : zs.length = cap := by simpa using hz
    have htl : (zs.take len).length = len := by rw [List.length_take]; omega
    refine ⟨zs.take len, ⟨some ad, cap, by rw [htl], ⟨by omega, fun h => by cases h⟩, fun i m hi => ?_⟩, by omega⟩
    have hil : i < len := by
      have := (List.getElem?_eq_some_iff.1 hi).1
      omega
    rw [List.getElem?_take_of_lt hil] at hi
    have hmem : m ∈ zs := List.mem_of_getElem? hi
    have hcell := hc i (by omega)
    have hgd : zs.getD i 0 = m := by rw [List.getD_eq_getElem?_getD, hi]; rfl
    rw [hgd] at hcell
    obtain ⟨g, off, spot⟩ := ad
    have hsp : spot = none := by
      cases spot with
      | none => rfl
      | some s =>
        exfalso
        have h0 := hc 0 (by omega)
        rw [show (⟨g, off, some s⟩ : Addr).add 0 = ⟨g, off, some s⟩ from by unfold Addr.add; simp] at h0
        unfold World.cell? at h0
        simp at h0
        split at h0 <;> simp at h0
    subst hsp
    rw [add_off] at hcell
    exact ⟨wf_i32 (hw m hmem), g, off, rfl, hcell⟩
theorem runes_stays {H : Type} {enc : TypeId × Value → H} {W W' : World} {sp : Nat → Bool} {v : Value} {d : DataW H} {p : List MemPlace} (h : DataW.Trod enc Tryd.prog W 0 (fun _ => true) true 188 v d p) (hx : Ext W W') (hlt : ∀ q ∈ p, q.block < W.heap.size) (hsp : ∀ q ∈ p, sp q.block = true) :
    DataW.Trod enc Tryd.prog W' 0 sp true 188 v d p :=
  Go.WideElems.Trod_stays laidOutN readRunes (by rw [typesSizeN]; decide) h (fun q hq => ext_sameN hx (hlt q hq)) hsp

end Go.Proofs.YtcmllaeihnmkkaaDoor
namespace Go.Proofs.YtcmllaeihnmkkaaDoor
open Go Go.ChangeShapes Go.WideShapes Go.ChangeAt Go.RowKit Go.Deep

theorem cellsQuad : Tryd.prog.cellsOf 23 = 4 := by kernel_rfl
theorem readQuad : Tryd.prog.readableRec 23 = true := by kernel_rfl
set_option maxRecDepth 100000 in
theorem quad_of {H : Type} {enc : TypeId × Value → H} {W : World} {r : Reach} {b0 : Nat} {v : Value} {d : DataW H} {p : List MemPlace} (hv : Value.okWide Tryd.prog W r b0 23 v) (h : DataW.Trod enc Tryd.prog W 0 (fun _ => true) true 23 v d p) :
    ∃ a b c e : Int, v = .agg #[.int .i64 a, .int .i64 b, .int .i64 c, .int .i64 e] ∧ isI64 a ∧ isI64 b ∧ isI64 c ∧ isI64 e := by
  unfold Value.okWide at hv
  rw [Tryd.underlying23] at hv
  obtain ⟨cs, rfl, hz, _⟩ := hv
  rw [cellsQuad] at hz
  obtain ⟨n, hn⟩ := h
  cases n with
  | zero => simp [DataW.trod] at hn
  | succ n =>
    unfold DataW.trod at hn
    rw [Tryd.underlying23] at hn
    obtain ⟨l, rfl⟩ : ∃ l : List Value, cs = l.toArray := ⟨cs.toList, by simp⟩
    match l, hz with
    | [a, b, c, e], _ =>
      simp only [Value.cells, cellsInt] at hn
      rw [if_pos (by rw [cellsQuad]; rfl), Option.map_eq_some_iff] at hn
      obtain ⟨xs, hxs, _⟩ := hn
      rw [show List.range 4 = [0, 1, 2, 3] from rfl] at hxs
      simp only [List.mapM_cons, List.mapM_nil, Option.bind_eq_bind, Option.bind_eq_some_iff] at hxs
      obtain ⟨x0, t0, y0, ⟨x1, t1, y1, ⟨x2, t2, y2, ⟨x3, t3, _⟩, _⟩, _⟩, _⟩ := hxs
      obtain ⟨n0, e0, _, w0⟩ := DataW.trod_int Tryd.underlying3 t0
      obtain ⟨n1, e1, _, w1⟩ := DataW.trod_int Tryd.underlying3 t1
      obtain ⟨n2, e2, _, w2⟩ := DataW.trod_int Tryd.underlying3 t2
      obtain ⟨n3, e3, _, w3⟩ := DataW.trod_int Tryd.underlying3 t3
      have f0 : a = .int .i64 n0 := List.cons.inj e0 |>.1
      have f1 : b = .int .i64 n1 := List.cons.inj e1 |>.1
      have f2 : c = .int .i64 n2 := List.cons.inj e2 |>.1
      have f3 : e = .int .i64 n3 := List.cons.inj e3 |>.1
      subst f0 f1 f2 f3
      exact ⟨n0, n1, n2, n3, rfl, wf_i64 w0, wf_i64 w1, wf_i64 w2, wf_i64 w3⟩
theorem quad_stays {H : Type} {enc : TypeId × Value → H} {W W' : World} {sp : Nat → Bool} {v : Value} {d : DataW H} {p : List MemPlace} (h : DataW.Trod enc Tryd.prog W 0 (fun _ => true) true 23 v d p) (hx : Ext W W') (hlt : ∀ q ∈ p, q.block < W.heap.size) (hsp : ∀ q ∈ p, sp q.block = true) :
    DataW.Trod enc Tryd.prog W' 0 sp true 23 v d p :=
  Go.WideElems.Trod_stays laidOutN readQuad (by rw [typesSizeN]; decide) h (fun q hq => ext_sameN hx (hlt q hq)) hsp
end Go.Proofs.YtcmllaeihnmkkaaDoor
namespace Go.Proofs.YtcmllaeihnmkkaaDoor
open Go Go.ChangeShapes Go.WideShapes Go.ChangeAt Go.RowKit

theorem own : ownKnob Tryd.prog.godebug = none := by kernel_rfl
theorem cU64 : Tryd.prog.cellsOf 139 = 1 := by kernel_rfl
theorem gErr : Tryd.prog.globalNamed "errors.errorType" = some 0 := by kernel_rfl
theorem rtErr : (Tryd.prog.cutTypes.find? (·.1 == "internal/reflectlite.rtype")).map (·.2) = some 179 := by kernel_rfl
theorem oneRow : ((List.range 229).filter fun t => Tryd.prog.rowNamed t [101, 114, 114, 111, 114]) = [43] := by kernel_rfl
theorem typesSize : Tryd.prog.types.size = 229 := by kernel_rfl
theorem err_of {L : List (String × DataW Unit)} {W : World} (h : laidMetH Tryd.prog L W) (hL : L.filter (fun x => x.1 == "errors.errorType") = [("errors.errorType", Rows.laid_errors_errorType)]) : ErrType W := by
  have h1 := laidMetH.filter (fun x => x.1 == "errors.errorType") h
  rw [hL] at h1
  have h2 : handlesMet Tryd.prog [("errors.errorType", Rows.laid_errors_errorType)] W := (laidMetH_iff.1 h1).2
  obtain ⟨name, u, ty, e1, e2, e3, e4, e5⟩ := h2 _ (List.mem_singleton.2 rfl)
  have en : name = [101, 114, 114, 111, 114] := (Option.some.inj e1).symm
  subst en
  obtain rfl := Option.some.inj (rtErr.symm.trans e2)
  have hm : ty ∈ (List.range 229).filter fun t => Tryd.prog.rowNamed t [101, 114, 114, 111, 114] := List.mem_filter.2 ⟨List.mem_range.2 (by rw [← typesSize]; exact e3), e4⟩
  rw [oneRow] at hm
  obtain rfl := List.mem_singleton.1 hm
  have hh : typeHandle Tryd.prog 43 = .pointer (some ⟨2, 43, none⟩) := by kernel_rfl
  rw [hh] at e5
  unfold ErrType
  simpa using World.var?_cell gErr e5 0

end Go.Proofs.YtcmllaeihnmkkaaDoor
