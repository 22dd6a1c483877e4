/- A row of numbers is put: nums.Put, nums.PutText. -/
import Derived.Test.YtckdchkegbdiaaaDoorPut
import Derived.Lib.Builder
namespace Go.Proofs.YtckdchkegbdiaaaDoor
open Go Go.RowKit

/-- The bytes of numbers, one behind the other. -/
def putN (zs : List Int) : List UInt8 := (zs.map fun n => encN (foldN n)).flatten
theorem putN_append (a b : List Int) : putN (a ++ b) = putN a ++ putN b := by
  unfold putN; rw [List.map_append, List.flatten_append]
theorem putN_one (n : Int) : putN [n] = encN (foldN n) := by simp [putN]
theorem putN_take (zs : List Int) (i : Nat) (n : Int) (h : zs[i]? = some n) : putN (zs.take (i + 1)) = putN (zs.take i) ++ encN (foldN n) := by
  rw [List.take_add_one, h, putN_append]; simp [putN]
def isI64 (n : Int) : Prop := -9223372036854775808 ≤ n ∧ n ≤ 9223372036854775807
theorem putN_len : ∀ (zs : List Int), (∀ n, n ∈ zs → isI64 n) → (putN zs).length ≤ 10 * zs.length
  | [], _ => by simp [putN]
  | n :: zs, h => by
    have h1 := putN_len zs fun m hm => h m (List.mem_cons_of_mem _ hm)
    have h2 := h n (List.mem_cons_self ..)
    have h3 := encN_len10 (foldN_lt h2.1 h2.2)
    rw [show putN (n :: zs) = encN (foldN n) ++ putN zs from by simp [putN], List.length_append, List.length_cons]
    omega
/-- A slice that reads as a row of numbers. -/
def IsInts (w : World) (v : Value) (zs : List Int) : Prop :=
  ∃ A c, v = .slice A zs.length c ∧ (zs.length ≤ c ∧ (A = none → c = 0)) ∧ ∀ i n, zs[i]? = some n → isI64 n ∧ ∃ g off, A = some ⟨g, off, none⟩ ∧ w.cell? ⟨g, off + i, none⟩ = some (.int .i64 n)
theorem IsInts.ext {w w' : World} {v : Value} {zs : List Int} (h : IsInts w v zs) (hx : Ext w w') : IsInts w' v zs := by
  obtain ⟨A, c, e, hc, h⟩ := h
  refine ⟨A, c, e, hc, fun i n hi => ?_⟩
  obtain ⟨h1, g, off, h2, h3⟩ := h i n hi
  exact ⟨h1, g, off, h2, hx.cell h3⟩
theorem IsInts.all {w : World} {v : Value} {zs : List Int} (h : IsInts w v zs) : ∀ n, n ∈ zs → isI64 n := by
  obtain ⟨A, c, e, hc, h⟩ := h
  intro n hn
  obtain ⟨i, hi⟩ := List.getElem?_of_mem hn
  exact (h i n hi).1
theorem add_off (g off j : Nat) : (⟨g, off, none⟩ : Addr).add j = ⟨g, off + j, none⟩ := by unfold Addr.add; split <;> simp_all
theorem conv_own (w : World) (base g cap : Nat) (l : List UInt8) (h : OwnB w base (.slice (some ⟨g, 0, none⟩) l.length cap) l) : (convert 40 9 (.slice (some ⟨g, 0, none⟩) l.length cap)).run Tryd.prog w = .ok (.string ⟨l.toArray⟩) w :=
  run_convert_bytes_back w _ _ 5 ⟨g, 0, none⟩ cap l Tryd.underlying40 Tryd.underlying5 Tryd.underlying9 fun j hj => by
    refine World.ownsRow.cells h rfl j _ ?_
    rw [cellsB, List.getElem?_map, List.getElem?_eq_getElem hj]
    rfl
set_option maxHeartbeats 2000000 in
set_option maxRecDepth 100000 in
theorem Put_ints (zs : List Int) (v : Value) (w : World) (hv : IsInts w v zs) (hn : zs.length ≤ 1000) :
    Calls Tryd.prog 58 #[v] w fun e w' => e = .returned (.string ⟨(putN zs).toArray⟩) ∧ Ext w w' := by
  obtain ⟨i0, hi0, hz0, hz1, hz2⟩ := info_parts infoByteB
  have hall := hv.all
  obtain ⟨A, c, rfl, hc, hv⟩ := hv
  have H := Lib.hid (And.intro hv hall); clear hv hall
  go_enter Tryd.func58, Tryd.ntmps58
  go_wp2_with (refine wpList_make_own w rfl _ _ 40 rfl w.heap.size 5 i0 _ 1 Tryd.underlying40 hi0 hz0 hz1 .i64 .i64 zs.length zs.length rfl rfl rfl (by rw [hz2]; omega) (by unfold maxLen; omega) (Nat.le_refl _) ?_)
  intro w1 hown hg
  have HB := Lib.hid (And.intro hown ((Below.refl w.heap.size w).grown hg (Nat.le_refl _) (fun k hk => by cases hk))); clear hown hg
  go_wp2
  go_loopg [3, 11] zs.length (fun k b j wr => ∃ (i : Nat) (g cap : Nat), Hid (i + k = zs.length) ∧ j = .int .i64 i ∧ b = .slice (some ⟨g, 0, none⟩) (putN (zs.take i)).length cap ∧ Hid (OwnB wr w.heap.size (.slice (some ⟨g, 0, none⟩) (putN (zs.take i)).length cap) (putN (zs.take i)) ∧ Ext w wr))
  case atStart => exact ⟨0, _, _, Nat.zero_add _, rfl, rfl, HB.out.1, HB.out.2⟩
  case round =>
    obtain ⟨i, g, cap, hi, rfl, rfl, hinv⟩ := hrel
    by_cases hlt : i < zs.length
    · obtain ⟨n, hin⟩ : ∃ n, zs[i]? = some n := ⟨zs[i], List.getElem?_eq_getElem hlt⟩
      obtain ⟨hr, gg, off, rfl, hcell⟩ := H.out.1 i n hin
      have hcell' := hinv.out.2.cell hcell
      have hlen := putN_len (zs.take i) (fun m hm => H.out.2 m (List.mem_of_mem_take hm))
      rw [List.length_take] at hlen
      have hr1 := hr.1
      have hr2 := hr.2
      have hfl := foldN_lt hr.1 hr.2
      have HN := Lib.hid (And.intro hin (And.intro hr (And.intro hfl hlen))); clear hin hr hcell hfl hlen
      go_wp2_with fail
      refine (fold_any n wr HN.out.2.1.1 HN.out.2.1.2).mono ?_
      rintro e w2 ⟨rfl, rfl⟩
      go_wp2_with fail
      refine (put_any (foldN n) (putN (zs.take i)) w.heap.size _ w2 HN.out.2.2.1 (by have := HN.out.2.2.2; omega) hinv.out.2.size hinv.out.1).mono ?_
      rintro e w3 ⟨v', rfl, ho, hb⟩
      rw [← putN_take zs i n HN.out.1] at ho
      have hpos : 0 < (putN (zs.take (i + 1))).length := by
        rw [putN_take zs i n HN.out.1, List.length_append]
        have := encN_pos (foldN n)
        omega
      obtain ⟨g', cap', rfl, _, _⟩ := World.ownsRow.form ho hpos
      have HO := Lib.hid (And.intro ho (Below.trans hinv.out.2 hb)); clear ho hb hpos
      go_wp2
      go_roundg (gk - 1)
      case measure => have := hi.out; omega
      case rel =>
        refine ⟨i + 1, g', cap', ?_, by go_num, rfl, HO.out.1, HO.out.2⟩
        show i + 1 + (gk - 1) = zs.length
        have := hi.out; omega
    · have hil : i = zs.length := by have := hi.out; omega
      have HI := Lib.hid hil; clear hil
      have hcv := conv_own wr w.heap.size g cap _ hinv.out.1
      have HV := Lib.hid hcv; clear hcv
      go_wp2
      rw [HV.out]
      go_wp2
      go_ret
      exact ⟨by rw [HI.out, List.take_length]; rfl, hinv.out.2⟩
theorem ints_new (w : World) (l : List Int) (T : TypeId) (h : ∀ n, n ∈ l → isI64 n) : IsInts (w.alloc (.cells (l.map (Value.int .i64)).toArray T)) (.slice (some ⟨w.heap.size, 0, none⟩) l.length l.length) l := by
  refine ⟨_, _, rfl, ⟨Nat.le_refl _, fun h => by cases h⟩, fun i n hi => ⟨h n (List.mem_of_getElem? hi), _, _, rfl, ?_⟩⟩
  rw [Lib.cell_of_heap (Go.heap_alloc_new _ _), Nat.zero_add]
  rw [List.getElem?_toArray, List.getElem?_map, hi]; rfl
end Go.Proofs.YtckdchkegbdiaaaDoor
