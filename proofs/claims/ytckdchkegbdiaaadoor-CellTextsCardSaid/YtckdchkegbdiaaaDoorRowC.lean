/- The laws' row of cells by numbers. -/
import Derived.Test.YtckdchkegbdiaaaDoorMakes
import Derived.Test.YtckdchkegbdiaaaDoorIntsArg
import Derived.Test.YtckdchkegbdiaaaDoorMask
namespace Go.Proofs.YtckdchkegbdiaaaDoor
open Go Go.RowKit

/-- The characters that the numbers choose among. -/
def rowChars : List Int := [32, 32, 97, 98, 19968, 19969, 99, 32, 8364, 128512, 120, 97, 97, 32, 12354, 35]
def rowR (n : Int) : Int := (rowChars[(n % 16).toNat]?).getD 0
def rowPen (n : Int) : Cel := ⟨0, n / 16 % 4, n / 64 % 4, n / 256 % 4⟩
def rowOne (n : Int) : List Cel := makeL (rowR n) (rowPen n)
/-- The row by numbers. -/
def rowL (l : List Int) : List Cel := (l.take 40).flatMap rowOne
theorem row_i32 (n : Int) : isI32 (rowR n) := by
  have h : ∀ k : Fin 16, isI32 ((rowChars[k.val]?).getD 0) := by unfold isI32; decide
  have h2 : (n % 16).toNat < 16 := by omega
  exact h ⟨_, h2⟩
theorem row_pen (n : Int) : (rowPen n).ok := by
  refine ⟨?_, ?_, ?_, ?_⟩
  · unfold isI32 rowPen; simp only; omega
  all_goals unfold isU8 rowPen; simp only; omega
theorem rows_all : ∀ (l : List Int), rightL (l.flatMap rowOne) = true ∧ (∀ c, c ∈ l.flatMap rowOne → c.ok) ∧ (l.flatMap rowOne).length ≤ 2 * l.length
  | [] => ⟨rfl, (fun c hc => by cases hc), Nat.le_refl _⟩
  | n :: l => by
    obtain ⟨h1, h2, h3⟩ := rows_all l
    have h5 := make_len (rowR n) (rowPen n) (row_i32 n)
    have e : (n :: l).flatMap rowOne = rowOne n ++ l.flatMap rowOne := rfl
    rw [e]
    refine ⟨?_, ?_, ?_⟩
    · unfold rowOne
      rw [right_append _ _ _ (Nat.le_refl _) (make_right _ _ (row_i32 n) (row_pen n))]; exact h1
    · intro c hc
      rcases List.mem_append.1 hc with hc | hc
      · exact make_ok _ _ (row_i32 n) (row_pen n) c hc
      · exact h2 c hc
    · rw [List.length_append, List.length_cons]
      have h6 : (rowOne n).length = (makeL (rowR n) (rowPen n)).length := rfl
      rcases width_cases _ (row_i32 n) with h7 | h7 | h7 <;> omega
theorem row_right (l : List Int) : rightL (rowL l) = true := (rows_all _).1
theorem row_ok (l : List Int) : ∀ c, c ∈ rowL l → c.ok := (rows_all _).2.1
theorem row_len (l : List Int) : (rowL l).length ≤ 80 := by
  have h := (rows_all (l.take 40)).2.2
  have h2 : (l.take 40).length ≤ 40 := by rw [List.length_take]; omega
  unfold rowL; omega
theorem row_take (l : List Int) (i : Nat) (n : Int) (h : l[i]? = some n) : (l.take (i + 1)).flatMap rowOne = (l.take i).flatMap rowOne ++ rowOne n := by
  rw [List.take_add_one, h, List.flatMap_append]
  simp
theorem chars_at (n : Int) : (#[.int .i32 32, .int .i32 32, .int .i32 97, .int .i32 98, .int .i32 19968, .int .i32 19969, .int .i32 99, .int .i32 32, .int .i32 8364, .int .i32 128512, .int .i32 120, .int .i32 97, .int .i32 97, .int .i32 32, .int .i32 12354, .int .i32 35] : Array Value)[(n % 16).toNat]? = some (.int .i32 (rowR n)) := by
  have h2 : (n % 16).toNat < 16 := by omega
  unfold rowR
  generalize (n % 16).toNat = k at h2 ⊢
  match k, h2 with
  | 0, _ | 1, _ | 2, _ | 3, _ | 4, _ | 5, _ | 6, _ | 7, _ | 8, _ | 9, _ | 10, _ | 11, _ | 12, _ | 13, _ | 14, _ | 15, _ => rfl
  | k + 16, h => exact absurd h (by omega)
set_option maxHeartbeats 4000000 in
set_option maxRecDepth 100000 in
theorem RowC_of (xs : List Int) (v : Value) (w : World) (hv : IsInts w v xs) (hm : xs.length ≤ maxLen) : Calls Tryd.prog 11 #[v] w fun e w' => ∃ v', e = .returned v' ∧ OwnC w' w.heap.size v' (rowL xs) ∧ Ext w w' := by
  have hall := hv.all
  obtain ⟨A, c, rfl, hlc, hv⟩ := hv
  unfold maxLen at hm
  generalize hL : xs.length = L at hlc hm ⊢
  have H := Lib.hid (And.intro hv (And.intro hall hL)); clear hv hall hL
  go_enter Tryd.func11, Tryd.ntmps11
  go_wp2_with fail
  generalize hw0 : (w.alloc (.cells #[.int .i32 32, .int .i32 32, .int .i32 97, .int .i32 98, .int .i32 19968, .int .i32 19969, .int .i32 99, .int .i32 32, .int .i32 8364, .int .i32 128512, .int .i32 120, .int .i32 97, .int .i32 97, .int .i32 32, .int .i32 12354, .int .i32 35] 63)) = w0
  have hx0 : Ext w w0 := by rw [← hw0]; exact (Ext.refl w).alloc _
  have hb0 : Blk w0 w.heap.size 63 #[.int .i32 32, .int .i32 32, .int .i32 97, .int .i32 98, .int .i32 19968, .int .i32 19969, .int .i32 99, .int .i32 32, .int .i32 8364, .int .i32 128512, .int .i32 120, .int .i32 97, .int .i32 97, .int .i32 32, .int .i32 12354, .int .i32 35] := by rw [← hw0]; exact Go.heap_alloc_new _ _
  generalize hbb : w.heap.size = bb at hb0 ⊢
  have HB := Lib.hid (And.intro hb0 (And.intro hx0 hbb)); clear hb0 hx0 hbb hw0
  go_loopg [4, 5] L (fun k u z wr => ∃ (i : Nat) (B : Option Addr) (d : Nat), z = .int .i64 i ∧ u = .slice B ((xs.take i).flatMap rowOne).length d ∧ Hid (i + k = L ∧ i ≤ 40 ∧ OwnC wr w0.heap.size (.slice B ((xs.take i).flatMap rowOne).length d) ((xs.take i).flatMap rowOne) ∧ Ext w0 wr))
  case atStart => exact ⟨0, none, 0, rfl, rfl, Nat.zero_add _, Nat.zero_le _, OwnC.nil _ _, Ext.refl w0⟩
  case round =>
    obtain ⟨i, B, d, rfl, rfl, hin⟩ := hrel
    by_cases hi : i < L
    · by_cases h4 : i < 40
      · obtain ⟨n, hx⟩ : ∃ n, xs[i]? = some n := ⟨xs[i]'(by rw [H.out.2.2]; exact hi), List.getElem?_eq_getElem _⟩
        obtain ⟨hr, gg, off, rfl, hcell⟩ := H.out.1 i n hx
        have hcell' := (HB.out.2.1.trans hin.out.2.2.2).cell hcell
        have e15 : bits .and .i64 n 15 = n % 16 := i64_mask n 4 (by decide) 15 (by decide)
        have k16 : wr.cell? ⟨bb, (n % 16).toNat, none⟩ = some (.int .i32 (rowR n)) := ((HB.out.1.ext hin.out.2.2.2).cell _).trans (chars_at n)
        have n16 : 0 ≤ n % 16 ∧ n % 16 < 16 := by omega
        have HN := Lib.hid (And.intro hr hx); clear hr hx hcell
        have ea : bits .and .i64 (n / 16) 3 = n / 16 % 4 := i64_mask (n / 16) 2 (by decide) 3 (by decide)
        have eb : bits .and .i64 (n / 64) 3 = n / 64 % 4 := i64_mask (n / 64) 2 (by decide) 3 (by decide)
        have ec : bits .and .i64 (n / 256) 3 = n / 256 % 4 := i64_mask (n / 256) 2 (by decide) 3 (by decide)
        have ea2 : n / 16 % 4 % 256 = n / 16 % 4 := by omega
        have eb2 : n / 64 % 4 % 256 = n / 64 % 4 := by omega
        have ec2 : n / 256 % 4 % 256 = n / 256 % 4 := by omega
        have hln : ((xs.take i).flatMap rowOne).length ≤ 100 := by
          have h := (rows_all (xs.take i)).2.2
          have h2 : (xs.take i).length ≤ i := by rw [List.length_take]; omega
          omega
        have hl1 : (rowOne n).length ≤ 2 := by
          have h := (rows_all [n]).2.2
          simpa using h
        have hi2 := hin.out.2.1
        generalize hD : (xs.take i).flatMap rowOne = D at hin hln ⊢
        have HM := Lib.hid hD
        generalize hN : D.length = N at hin hln ⊢
        have HD := Lib.hid hN
        have HL := Lib.hid (And.intro hln hl1)
        clear hD hN hln hl1
        go_wp2_with fail
        refine (RefMake_of (rowR n) (rowPen n) wr (row_i32 n) (row_pen n)).mono ?_
        rintro e w2 ⟨v2, rfl, hown2, hx2⟩
        have HX := Lib.hid (And.intro (hin.out.2.2.1.ext hx2) (And.intro (hin.out.2.2.2.trans hx2) (And.intro (hown2.isCells (make_ok _ _ (row_i32 n) (row_pen n))) ((hin.out.2.2.2.trans hx2).size))))
        clear hown2 hx2
        go_wp2_with (at_builtin; refine wpList_app_cells rfl _ _ rfl w0.heap.size (.slice B N d) D rfl HX.out.1 v2 (rowOne n) rfl HX.out.2.2.1 (by have := HL.out; have := HD.out; omega) (by have := HL.out; omega) HX.out.2.2.2 ?_)
        intro v' w5 hap
        have hx7 := hap.ext HX.out.1 HX.out.2.1 (Nat.le_refl _)
        obtain ⟨A2, c2, rfl, _⟩ := hap.own.form
        have hown := hap.own
        have hmv : D ++ rowOne n = (xs.take (i + 1)).flatMap rowOne := by
          rw [row_take _ _ _ HN.out.2, HM.out]
        rw [hmv] at hown ⊢
        have H5 := Lib.hid (And.intro hown hx7); clear hown hx7 hap hmv
        have hgk := hin.out.1
        go_wp2
        go_roundg (gk - 1)
        case measure => omega
        case rel => exact ⟨i + 1, A2, c2, by go_num, rfl, by show i + 1 + (gk - 1) = L; omega, by omega, H5.out.1, H5.out.2⟩
      · have hi4 : i = 40 := by have := hin.out.2.1; omega
        have hf : (xs.take i).flatMap rowOne = rowL xs := by rw [hi4]; rfl
        rw [hf] at hin ⊢
        have HF := Lib.hid (And.intro hf hi4); clear hf hi4
        go_wp2_with fail
        go_ret
        exact ⟨_, rfl, hin.out.2.2.1.low HB.out.2.1.size, HB.out.2.1.trans hin.out.2.2.2⟩
    · have hf : (xs.take i).flatMap rowOne = rowL xs := by
        unfold rowL
        have h1 := hin.out.2.1
        have h2 := H.out.2.2
        rw [List.take_of_length_le (by omega), List.take_of_length_le (by omega)]
      rw [hf] at hin ⊢
      have HF := Lib.hid hf; clear hf
      go_wp2_with fail
      go_ret
      exact ⟨_, rfl, hin.out.2.2.1.low HB.out.2.1.size, HB.out.2.1.trans hin.out.2.2.2⟩
end Go.Proofs.YtckdchkegbdiaaaDoor
