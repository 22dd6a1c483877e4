/- The end of a row's proof where of the world behind the call 'Ext' alone is known, and the row's specification hands the arguments back and reads no variable. · Arguments opened: a slice of numbers, an array of two; they read behind the call as they did. · The laws' row of cells by numbers. -/
import Derived.Test.YtcmllaeihnmkkaaDoorU1
import Derived.Test.YtcmllaeihnmkkaaDoorU7
import Derived.Test.YtcmllaeihnmkkaaDoorU13
import Derived.Test.YtcmllaeihnmkkaaDoorU18
import Derived.ChangeSame
import Derived.ProofKit
import Derived.OpenShut
import Derived.ChangeSlices
import Derived.ChangeMaps5
import Derived.WideKeyArgs
import Derived.ChangeArms
namespace Go.Proofs.YtcmllaeihnmkkaaDoor
open Go Go.RowKit Go.WideShapes Go.ChangeShapes

theorem wf_i64 {n : Int} (h : (Lit.int .i64 n).wf = true) : -9223372036854775808 ≤ n ∧ n ≤ 9223372036854775807 := by
  have h' : (decide (IntKind.i64.min ≤ n) && decide (n ≤ IntKind.i64.max)) = true := h
  have e1 : IntKind.i64.min = -9223372036854775808 := by decide
  have e2 : IntKind.i64.max = 9223372036854775807 := by decide
  rw [e1, e2] at h'
  simpa using h'

theorem post_of_ext {H : Type} {enc : TypeId × Value → H} {P : Program} {f : Func} {s : ChangeSpec} {a1 a2 a3 : Bool} {W W' : World} {args : Array Value} {v : Value} {ds : List (DataW H)} {ps : List MemPlace}
    (hs : s.vars = []) (hsv : (s.fn H (ds ++ [])).vars = [])
    (hW : DataW.Whole enc P f.params.toList s.vars a1 W args.toList ds [] ps)
    (hr : ∀ (b : Nat) (sp : Nat → Bool) (hd : Bool), DataW.TrodAll enc P W' b sp hd f.resultTypes.toList (v.resultList f.resultTypes.size) (s.fn H (ds ++ [])).results [])
    (ha : ∀ sp : Nat → Bool, (∀ p ∈ ps, sp p.block = true) → DataW.TrodAll enc P W' 0 sp true f.params.toList args.toList (s.fn H (ds ++ [])).args ps)
    (hx : Ext W W') :
    s.post enc P f a1 a2 a3 false W args v W' := by
  have hb : Below W.heap.size W W' := hx
  have hnil : ∀ sp : Nat → Bool, DataW.TrodVars enc P W' sp s.vars (s.fn H (ds ++ [])).vars [] := by
    intro sp; rw [hs, hsv]; rfl
  have hin : ∀ p ∈ ps, (fun k => decide (k < W.heap.size)) p.block = true := fun p hp => by simpa using hW.lt p hp
  exact ⟨ds, [], ps, [], ps, [], hW, hr _ _ _, ha _ hin, hnil _, World.keptBut_mono (fun p hp => ⟨hp, .inr (.inl hp)⟩) (hb.frame (· ∈ ps)), fun h => by cases h⟩
end Go.Proofs.YtcmllaeihnmkkaaDoor
namespace Go.Proofs.YtcmllaeihnmkkaaDoor
open Go Go.ChangeShapes Go.WideShapes Go.ChangeAt Go.RowKit

theorem typesSizeN : Tryd.prog.types.size = 229 := by kernel_rfl
theorem laidOutN : laidOutB Tryd.prog = true := by kernel_rfl
theorem cellsInt : Tryd.prog.cellsOf 3 = 1 := by kernel_rfl
theorem readInts : Tryd.prog.readableRec 22 = true := by kernel_rfl
theorem ext_sameN {w w' : World} (hx : Ext w w') {p : MemPlace} (hp : p.block < w.heap.size) : w.sameAt w' p := by
  cases p with
  | cell b o => exact World.cell?_of_block (Below.block hx b hp)
  | map b => exact Below.block hx b hp
set_option maxRecDepth 100000 in
theorem ints_of {H : Type} {enc : TypeId × Value → H} {W : World} {r : Reach} {b0 : Nat} {v : Value} {d : DataW H} {p : List MemPlace} (hv : Value.okWide Tryd.prog W r b0 22 v) (h : DataW.Trod enc Tryd.prog W 0 (fun _ => true) true 22 v d p) : ∃ zs, IsInts W v zs ∧ zs.length ≤ maxLen := by
  obtain ⟨a, len, cap, rfl⟩ := okWide_slice Tryd.underlying22 hv
  obtain ⟨n, hn⟩ := h
  rcases open_ints Tryd.underlying22 Tryd.underlying3 cellsInt hn with ⟨hcs, _⟩ | ⟨ad, len', cap', zs, hcs, hb, hl, hm, hz, hx, hc, hw⟩
  · have e : Value.slice a len cap = .slice none 0 0 := by simpa [Value.cells] using hcs
    injection e with e1 e2 e3
    subst e1 e2 e3
    exact ⟨[], ⟨none, 0, rfl, ⟨Nat.le_refl _, fun _ => rfl⟩, fun i n h => by cases h⟩, Nat.zero_le _⟩
  · have e : Value.slice a len cap = .slice (some ad) len' cap' := by simpa [Value.cells] using hcs
    injection e with e1 e2 e3
    subst e1 e2 e3
    have hzl : zs.length = cap := by simpa using hz
    have htl : (zs.take len).length = len := by rw [List.length_take]; omega
    refine ⟨zs.take len, ⟨some ad, cap, by rw [htl], ⟨by omega, fun h => by cases h⟩, fun i m hi => ?_⟩, by omega⟩
    have hil : i < len := by
      have := (List.getElem?_eq_some_iff.1 hi).1
      omega
    rw [List.getElem?_take_of_lt hil] at hi
    have hmem : m ∈ zs := List.mem_of_getElem? hi
    have hcell := hc i (by omega)
    have hgd : zs.getD i 0 = m := by rw [List.getD_eq_getElem?_getD, hi]; rfl
    rw [hgd] at hcell
    obtain ⟨g, off, spot⟩ := ad
    have hsp : spot = none := by
      cases spot with
      | none => rfl
      | some s =>
        exfalso
        have h0 := hc 0 (by omega)
        rw [show (⟨g, off, some s⟩ : Addr).add 0 = ⟨g, off, some s⟩ from by unfold Addr.add; simp] at h0
        unfold World.cell? at h0
        simp at h0
        split at h0 <;> simp at h0
    subst hsp
    rw [add_off] at hcell
    exact ⟨wf_i64 (hw m hmem), g, off, rfl, hcell⟩
theorem ints_stays {H : Type} {enc : TypeId × Value → H} {W W' : World} {sp : Nat → Bool} {v : Value} {d : DataW H} {p : List MemPlace} (h : DataW.Trod enc Tryd.prog W 0 (fun _ => true) true 22 v d p) (hx : Ext W W') (hlt : ∀ q ∈ p, q.block < W.heap.size) (hsp : ∀ q ∈ p, sp q.block = true) :
    DataW.Trod enc Tryd.prog W' 0 sp true 22 v d p :=
  Go.WideElems.Trod_stays laidOutN readInts (by rw [typesSizeN]; decide) h (fun q hq => ext_sameN hx (hlt q hq)) hsp

theorem cellsTwo : Tryd.prog.cellsOf 80 = 2 := by kernel_rfl
theorem readTwo : Tryd.prog.readableRec 80 = true := by kernel_rfl
set_option maxRecDepth 100000 in
theorem two_of {H : Type} {enc : TypeId × Value → H} {W : World} {r : Reach} {b0 : Nat} {v : Value} {d : DataW H} {p : List MemPlace} (hv : Value.okWide Tryd.prog W r b0 80 v) (h : DataW.Trod enc Tryd.prog W 0 (fun _ => true) true 80 v d p) :
    ∃ a b : Int, v = .agg #[.int .i64 a, .int .i64 b] ∧ isI64 a ∧ isI64 b := by
  unfold Value.okWide at hv
  rw [Tryd.underlying80] at hv
  obtain ⟨cs, rfl, hz, _⟩ := hv
  rw [cellsTwo] at hz
  obtain ⟨n, hn⟩ := h
  cases n with
  | zero => simp [DataW.trod] at hn
  | succ n =>
    unfold DataW.trod at hn
    rw [Tryd.underlying80] at hn
    obtain ⟨l, rfl⟩ : ∃ l : List Value, cs = l.toArray := ⟨cs.toList, by simp⟩
    match l, hz with
    | [a, b], _ =>
      simp only [Value.cells, cellsInt] at hn
      rw [if_pos (by rw [cellsTwo]; rfl), Option.map_eq_some_iff] at hn
      obtain ⟨xs, hxs, _⟩ := hn
      rw [show List.range 2 = [0, 1] from rfl] at hxs
      simp only [List.mapM_cons, List.mapM_nil, Option.bind_eq_bind, Option.bind_eq_some_iff] at hxs
      obtain ⟨x0, t0, y0, ⟨x1, t1, _⟩, _⟩ := hxs
      obtain ⟨n0, e0, _, w0⟩ := DataW.trod_int Tryd.underlying3 t0
      obtain ⟨n1, e1, _, w1⟩ := DataW.trod_int Tryd.underlying3 t1
      have f0 : a = .int .i64 n0 := List.cons.inj e0 |>.1
      have f1 : b = .int .i64 n1 := List.cons.inj e1 |>.1
      subst f0 f1
      exact ⟨n0, n1, rfl, wf_i64 w0, wf_i64 w1⟩
theorem two_stays {H : Type} {enc : TypeId × Value → H} {W W' : World} {sp : Nat → Bool} {v : Value} {d : DataW H} {p : List MemPlace} (h : DataW.Trod enc Tryd.prog W 0 (fun _ => true) true 80 v d p) (hx : Ext W W') (hlt : ∀ q ∈ p, q.block < W.heap.size) (hsp : ∀ q ∈ p, sp q.block = true) :
    DataW.Trod enc Tryd.prog W' 0 sp true 80 v d p :=
  Go.WideElems.Trod_stays laidOutN readTwo (by rw [typesSizeN]; decide) h (fun q hq => ext_sameN hx (hlt q hq)) hsp
end Go.Proofs.YtcmllaeihnmkkaaDoor
namespace Go.Proofs.YtcmllaeihnmkkaaDoor
open Go Go.RowKit

/-- The characters that the numbers choose among. -/
def rowChars : List Int := [32, 32, 97, 98, 19968, 19969, 99, 32, 8364, 128512, 120, 97, 97, 32, 12354, 35]
def rowR (n : Int) : Int := (rowChars[(n % 16).toNat]?).getD 0
def rowPen (n : Int) : Cel := ⟨0, n / 16 % 4, n / 64 % 4, n / 256 % 4⟩
def rowOne (n : Int) : List Cel := makeL (rowR n) (rowPen n)
/-- The row by numbers. -/
def rowL (l : List Int) : List Cel := (l.take 40).flatMap rowOne
theorem row_i32 (n : Int) : isI32 (rowR n) := by
  have h : ∀ k : Fin 16, isI32 ((rowChars[k.val]?).getD 0) := by unfold isI32; decide
  have h2 : (n % 16).toNat < 16 := by omega
  exact h ⟨_, h2⟩
theorem row_pen (n : Int) : (rowPen n).ok := by
  refine ⟨?_, ?_, ?_, ?_⟩
  · unfold isI32 rowPen; simp only; omega
  all_goals unfold isU8 rowPen; simp only; omega
theorem rows_all : ∀ (l : List Int), rightL (l.flatMap rowOne) = true ∧ (∀ c, c ∈ l.flatMap rowOne → c.ok) ∧ (l.flatMap rowOne).length ≤ 2 * l.length
  | [] => ⟨rfl, (fun c hc => by cases hc), Nat.le_refl _⟩
  | n :: l => by
    obtain ⟨h1, h2, h3⟩ := rows_all l
    have h5 := make_len (rowR n) (rowPen n) (row_i32 n)
    have e : (n :: l).flatMap rowOne = rowOne n ++ l.flatMap rowOne := rfl
    rw [e]
    refine ⟨?_, ?_, ?_⟩
    · unfold rowOne
      rw [right_append _ _ _ (Nat.le_refl _) (make_right _ _ (row_i32 n) (row_pen n))]; exact h1
    · intro c hc
      rcases List.mem_append.1 hc with hc | hc
      · exact make_ok _ _ (row_i32 n) (row_pen n) c hc
      · exact h2 c hc
    · rw [List.length_append, List.length_cons]
      have h6 : (rowOne n).length = (makeL (rowR n) (rowPen n)).length := rfl
      rcases width_cases _ (row_i32 n) with h7 | h7 | h7 <;> omega
theorem row_right (l : List Int) : rightL (rowL l) = true := (rows_all _).1
theorem row_ok (l : List Int) : ∀ c, c ∈ rowL l → c.ok := (rows_all _).2.1
theorem row_len (l : List Int) : (rowL l).length ≤ 80 := by
  have h := (rows_all (l.take 40)).2.2
  have h2 : (l.take 40).length ≤ 40 := by rw [List.length_take]; omega
  unfold rowL; omega
theorem row_take (l : List Int) (i : Nat) (n : Int) (h : l[i]? = some n) : (l.take (i + 1)).flatMap rowOne = (l.take i).flatMap rowOne ++ rowOne n := by
  rw [List.take_add_one, h, List.flatMap_append]
  simp
theorem chars_at (n : Int) : (#[.int .i32 32, .int .i32 32, .int .i32 97, .int .i32 98, .int .i32 19968, .int .i32 19969, .int .i32 99, .int .i32 32, .int .i32 8364, .int .i32 128512, .int .i32 120, .int .i32 97, .int .i32 97, .int .i32 32, .int .i32 12354, .int .i32 35] : Array Value)[(n % 16).toNat]? = some (.int .i32 (rowR n)) := by
  have h2 : (n % 16).toNat < 16 := by omega
  unfold rowR
  generalize (n % 16).toNat = k at h2 ⊢
  match k, h2 with
  | 0, _ | 1, _ | 2, _ | 3, _ | 4, _ | 5, _ | 6, _ | 7, _ | 8, _ | 9, _ | 10, _ | 11, _ | 12, _ | 13, _ | 14, _ | 15, _ => rfl
  | k + 16, h => exact absurd h (by omega)
set_option maxHeartbeats 4000000 in
set_option maxRecDepth 100000 in
theorem RowC_of (xs : List Int) (v : Value) (w : World) (hv : IsInts w v xs) (hm : xs.length ≤ maxLen) : Calls Tryd.prog 14 #[v] w fun e w' => ∃ v', e = .returned v' ∧ OwnC w' w.heap.size v' (rowL xs) ∧ Ext w w' := by
  have hall := hv.all
  obtain ⟨A, c, rfl, hlc, hv⟩ := hv
  unfold maxLen at hm
  generalize hL : xs.length = L at hlc hm ⊢
  have H := Lib.hid (And.intro hv (And.intro hall hL)); clear hv hall hL
  go_enter Tryd.func14, Tryd.ntmps14
  go_wp2_with fail
  generalize hw0 : (w.alloc (.cells #[.int .i32 32, .int .i32 32, .int .i32 97, .int .i32 98, .int .i32 19968, .int .i32 19969, .int .i32 99, .int .i32 32, .int .i32 8364, .int .i32 128512, .int .i32 120, .int .i32 97, .int .i32 97, .int .i32 32, .int .i32 12354, .int .i32 35] 87)) = w0
  have hx0 : Ext w w0 := by rw [← hw0]; exact (Ext.refl w).alloc _
  have hb0 : Blk w0 w.heap.size 87 #[.int .i32 32, .int .i32 32, .int .i32 97, .int .i32 98, .int .i32 19968, .int .i32 19969, .int .i32 99, .int .i32 32, .int .i32 8364, .int .i32 128512, .int .i32 120, .int .i32 97, .int .i32 97, .int .i32 32, .int .i32 12354, .int .i32 35] := by rw [← hw0]; exact Go.heap_alloc_new _ _
  generalize hbb : w.heap.size = bb at hb0 ⊢
  have HB := Lib.hid (And.intro hb0 (And.intro hx0 hbb)); clear hb0 hx0 hbb hw0
  go_loopg [4, 5] L (fun k u z wr => ∃ (i : Nat) (B : Option Addr) (d : Nat), z = .int .i64 i ∧ u = .slice B ((xs.take i).flatMap rowOne).length d ∧ Hid (i + k = L ∧ i ≤ 40 ∧ OwnC wr w0.heap.size (.slice B ((xs.take i).flatMap rowOne).length d) ((xs.take i).flatMap rowOne) ∧ Ext w0 wr))
  case atStart => exact ⟨0, none, 0, rfl, rfl, Nat.zero_add _, Nat.zero_le _, OwnC.nil _ _, Ext.refl w0⟩
  case round =>
    obtain ⟨i, B, d, rfl, rfl, hin⟩ := hrel
    by_cases hi : i < L
    · by_cases h4 : i < 40
      · obtain ⟨n, hx⟩ : ∃ n, xs[i]? = some n := ⟨xs[i]'(by rw [H.out.2.2]; exact hi), List.getElem?_eq_getElem _⟩
        obtain ⟨hr, gg, off, rfl, hcell⟩ := H.out.1 i n hx
        have hcell' := (HB.out.2.1.trans hin.out.2.2.2).cell hcell
        have e15 : bits .and .i64 n 15 = n % 16 := i64_mask n 4 (by decide) 15 (by decide)
        have k16 : wr.cell? ⟨bb, (n % 16).toNat, none⟩ = some (.int .i32 (rowR n)) := ((HB.out.1.ext hin.out.2.2.2).cell _).trans (chars_at n)
        have n16 : 0 ≤ n % 16 ∧ n % 16 < 16 := by omega
        have HN := Lib.hid (And.intro hr hx); clear hr hx hcell
        have ea : bits .and .i64 (n / 16) 3 = n / 16 % 4 := i64_mask (n / 16) 2 (by decide) 3 (by decide)
        have eb : bits .and .i64 (n / 64) 3 = n / 64 % 4 := i64_mask (n / 64) 2 (by decide) 3 (by decide)
        have ec : bits .and .i64 (n / 256) 3 = n / 256 % 4 := i64_mask (n / 256) 2 (by decide) 3 (by decide)
        have ea2 : n / 16 % 4 % 256 = n / 16 % 4 := by omega
        have eb2 : n / 64 % 4 % 256 = n / 64 % 4 := by omega
        have ec2 : n / 256 % 4 % 256 = n / 256 % 4 := by omega
        have hln : ((xs.take i).flatMap rowOne).length ≤ 100 := by
          have h := (rows_all (xs.take i)).2.2
          have h2 : (xs.take i).length ≤ i := by rw [List.length_take]; omega
          omega
        have hl1 : (rowOne n).length ≤ 2 := by
          have h := (rows_all [n]).2.2
          simpa using h
        have hi2 := hin.out.2.1
        generalize hD : (xs.take i).flatMap rowOne = D at hin hln ⊢
        have HM := Lib.hid hD
        generalize hN : D.length = N at hin hln ⊢
        have HD := Lib.hid hN
        have HL := Lib.hid (And.intro hln hl1)
        clear hD hN hln hl1
        go_wp2_with fail
        refine (RefMake_of (rowR n) (rowPen n) wr (row_i32 n) (row_pen n)).mono ?_
        rintro e w2 ⟨v2, rfl, hown2, hx2⟩
        have HX := Lib.hid (And.intro (hin.out.2.2.1.ext hx2) (And.intro (hin.out.2.2.2.trans hx2) (And.intro (hown2.isCells (make_ok _ _ (row_i32 n) (row_pen n))) ((hin.out.2.2.2.trans hx2).size))))
        clear hown2 hx2
        go_wp2_with (at_builtin; refine wpList_app_cells rfl _ _ rfl w0.heap.size (.slice B N d) D rfl HX.out.1 v2 (rowOne n) rfl HX.out.2.2.1 (by have := HL.out; have := HD.out; omega) (by have := HL.out; omega) HX.out.2.2.2 ?_)
        intro v' w5 hap
        have hx7 := hap.ext HX.out.1 HX.out.2.1 (Nat.le_refl _)
        obtain ⟨A2, c2, rfl, _⟩ := hap.own.form
        have hown := hap.own
        have hmv : D ++ rowOne n = (xs.take (i + 1)).flatMap rowOne := by
          rw [row_take _ _ _ HN.out.2, HM.out]
        rw [hmv] at hown ⊢
        have H5 := Lib.hid (And.intro hown hx7); clear hown hx7 hap hmv
        have hgk := hin.out.1
        go_wp2
        go_roundg (gk - 1)
        case measure => omega
        case rel => exact ⟨i + 1, A2, c2, by go_num, rfl, by show i + 1 + (gk - 1) = L; omega, by omega, H5.out.1, H5.out.2⟩
      · have hi4 : i = 40 := by have := hin.out.2.1; omega
        have hf : (xs.take i).flatMap rowOne = rowL xs := by rw [hi4]; rfl
        rw [hf] at hin ⊢
        have HF := Lib.hid (And.intro hf hi4); clear hf hi4
        go_wp2_with fail
        go_ret
        exact ⟨_, rfl, hin.out.2.2.1.low HB.out.2.1.size, HB.out.2.1.trans hin.out.2.2.2⟩
    · have hf : (xs.take i).flatMap rowOne = rowL xs := by
        unfold rowL
        have h1 := hin.out.2.1
        have h2 := H.out.2.2
        rw [List.take_of_length_le (by omega), List.take_of_length_le (by omega)]
      rw [hf] at hin ⊢
      have HF := Lib.hid hf; clear hf
      go_wp2_with fail
      go_ret
      exact ⟨_, rfl, hin.out.2.2.1.low HB.out.2.1.size, HB.out.2.1.trans hin.out.2.2.2⟩
end Go.Proofs.YtcmllaeihnmkkaaDoor
