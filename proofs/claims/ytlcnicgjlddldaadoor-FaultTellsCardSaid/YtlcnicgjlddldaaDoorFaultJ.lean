/- fault.write and fault.Text at a fault. -/
import Derived.Test.YtlcnicgjlddldaaDoorFaultI
import Derived.Test.YtlcnicgjlddldaaDoorBuildB
import Derived.Test.YtlcnicgjlddldaaDoorFacts
import Derived.Lib.ItoaLen
namespace Go.Proofs.YtlcnicgjlddldaaDoor
open Go Go.RowKit
attribute [local go_sem] ta_E_E ta_E_P ta_E_W ta_E_R ta_P_E ta_P_P ta_P_W ta_P_R ta_W_E ta_W_P ta_W_W ta_W_R ta_R_E ta_R_P ta_R_W ta_R_R

theorem textAll_take : ∀ (f : Bool) (ts : List Tr) (i : Nat) (t : Tr), ts[i]? = some t → textAll f (ts.take (i + 1)) = textAll f (ts.take i) ++ ((if f && i == 0 then [] else [59, 32]) ++ t.text)
  | _, [], i, t, h => by simp at h
  | f, s :: ts, 0, t, h => by simp at h; subst h; simp [textAll]
  | f, s :: ts, i + 1, t, h => by
    have := textAll_take false ts i t (by simpa using h)
    simp only [List.take_succ_cons, textAll] at this ⊢
    rw [this]
    simp
theorem textAll_le : ∀ (f : Bool) (ts : List Tr) (i : Nat), (textAll f (ts.take i)).length ≤ (textAll f ts).length
  | _, [], i => by simp
  | f, s :: ts, 0 => by simp [textAll]
  | f, s :: ts, i + 1 => by
    have := textAll_le false ts i
    simp only [List.take_succ_cons, textAll, List.length_append]
    omega

set_option maxHeartbeats 4000000 in
set_option maxRecDepth 100000 in
theorem write_loop (n : Nat) (ih : ∀ (m : Nat) (t : Tr) (v : Value) (B b : Nat) (l : List UInt8) (w0 w : World), m < n → t.sz ≤ m → Rep w0 t v → Pow10 w0 → w0.heap.size ≤ B → Below B w0 w → B ≤ w.heap.size → IsB B b l w → l.length + t.text.length ≤ 140737488355328 →
      Calls Tryd.prog 44 #[.pointer (some ⟨b, 0, none⟩), v] w fun e w' => e = .returned (.tuple #[]) ∧ IsB B b (l ++ t.text) w' ∧ Below B w w')
    (t : Tr) (v : Value) (B b : Nat) (l : List UInt8) (w0 w : World) (hn : t.sz ≤ n) (hr : Rep w0 t v) (hp : Pow10 w0) (h0 : w0.heap.size ≤ B) (hb0 : Below B w0 w) (hBw : B ≤ w.heap.size) (hI : IsB B b l w) (hlen : l.length + t.text.length ≤ 140737488355328) :
      Calls Tryd.prog 44 #[.pointer (some ⟨b, 0, none⟩), v] w fun e w' => e = .returned (.tuple #[]) ∧ IsB B b (l ++ t.text) w' ∧ Below B w w' := by
  have IH := Lib.hid ih; clear ih
  have HN := Lib.hid hn; clear hn
  go_enter Tryd.func44, Tryd.ntmps44
  go_wp2
  go_loopg [1] t.sz (fun k p wr => ∃ (t' : Tr) (l' : List UInt8), Hid (Rep w0 t' p) ∧ Hid (l' ++ t'.text = l ++ t.text) ∧ t'.sz ≤ k ∧ t'.sz ≤ t.sz ∧ Hid (IsB B b l' wr) ∧ Below B w wr)
  case atStart => exact ⟨t, l, hr, rfl, Nat.le_refl _, Nat.le_refl _, hI, Below.refl _ _⟩
  case round =>
    obtain ⟨t', l', hr', hc, hk, hle, hI', hbw⟩ := hrel
    have HK := Lib.hid (And.intro hk hle); clear hk hle
    have HL := Lib.hid hlen; clear hlen
    have hBr : B ≤ wr.heap.size := by have := hbw.size; omega
    have hx0 : Ext w0 wr := (hb0.trans hbw).mono h0
    have hr2 := hr'.out
    clear hr hI
    cases t' with
    | code c =>
      obtain ⟨rfl, hc0, hc1, hc2⟩ := hr2
      have HQ := Lib.hid (And.intro hc1 hc2); clear hc0 hc1 hc2
      go_wp2_with (go_at_call 67; refine (said_code c _ HQ.out.1 HQ.out.2).mono ?_)
      rintro e w1 ⟨rfl, hx1⟩
      go_wp2_with (go_at_call 65; refine (B_write B b l' _ _ (hI'.out.ext hx1) ?_ ?_).mono ?_)
      · have h1 := congrArg List.length hc.out
        rw [List.length_append, List.length_append] at h1
        have h2 := HL.out
        have h3 : (Tr.code c).text = codeText c := rfl
        rw [h3] at h1
        show _ + (codeText c).toArray.toList.length ≤ _
        rw [List.toList_toArray]
        omega
      · have := hx1.size; omega
      rintro e w2 rfl hI2 hb2 hk2
      clear hk2
      have HI2 := Lib.hid hI2; clear hI2
      go_wp2
      refine bodyPost_ret (results_none rfl _ _ _) rfl ?_
      refine ⟨rfl, ?_, (hbw.trans (Below.mono hx1 hBr)).trans hb2⟩
      rw [← hc.out]
      exact HI2.out
    | place p t1 =>
      obtain ⟨u, x, rfl, hp1, h1⟩ := hr2
      have HQ := Lib.hid (And.intro hp1 h1); clear hp1 h1
      have hlen3 : l'.length + (3 + (Lib.itoa p).length + 2 + t1.text.length) ≤ 140737488355328 := by
        have h1 := congrArg List.length hc.out
        rw [List.length_append, List.length_append] at h1
        have h2 := HL.out
        simp only [Tr.text, List.length_append] at h1
        simp only [List.length_cons, List.length_nil] at h1
        omega
      have hi21 := Lib.itoa_length_le p HQ.out.1.1 HQ.out.1.2
      go_wp2_with (go_at_call 66; refine (itoa_ext p HQ.out.1.1 HQ.out.1.2 _ (hp.ext (hx0.alloc _))).mono ?_; rintro e w1 ⟨rfl, hx1⟩)
      have hxr : Ext wr w1 := Ext.trans ((Ext.refl wr).alloc _) hx1
      have hd : (⟨#[97, 116, 32]⟩ ++ ⟨(Lib.itoa p).toArray⟩ ++ ⟨#[58, 32]⟩ : ByteArray).data.toList = [97, 116, 32] ++ Lib.itoa p ++ [58, 32] := by
        rw [ByteArray.data_append, ByteArray.data_append, Array.toList_append, Array.toList_append]
      have HD := Lib.hid hd; clear hd
      have cell0 : w1.cell? ⟨wr.heap.size, 0, none⟩ = some (.iface u x) := hx1.cell (by simp)
      refine (B_write B b l' _ _ (hI'.out.ext hxr) ?_ ?_).mono ?_
      · rw [HD.out]; simp only [List.length_append, List.length_cons, List.length_nil]; omega
      · have := hxr.size; omega
      rw [HD.out]
      rintro e w2 ⟨rfl, hI2, hb2, hk2⟩
      have HI2 := Lib.hid hI2; clear hI2
      have cell2 : w2.cell? ⟨wr.heap.size, 0, none⟩ = some (.iface u x) := by
        have h1 := kept_cell hk2 (heap_ext hx1 (Go.heap_alloc_new wr _)) (Nat.ne_of_gt hI'.out.lt) (by decide)
        rw [Lib.cell_of_heap h1]; rfl
      clear hk2
      go_wp2
      go_roundg t1.sz
      case measure => have := HK.out.1; simp only [Tr.sz] at this; omega
      case rel =>
        refine ⟨t1, l' ++ ([97, 116, 32] ++ Lib.itoa p ++ [58, 32]), HQ.out.2, ?_, Nat.le_refl _, by have := HK.out.2; simp only [Tr.sz] at this; omega, HI2.out, (hbw.trans (Below.mono hxr hBr)).trans hb2⟩
        show _ = _
        rw [← hc.out]; simp [Tr.text]
    | word s t1 =>
      obtain ⟨u, x, rfl, h1⟩ := hr2
      have HQ := Lib.hid h1; clear h1
      have hlen3 : l'.length + (s.data.toList.length + 2 + t1.text.length) ≤ 140737488355328 := by
        have h1 := congrArg List.length hc.out
        rw [List.length_append, List.length_append] at h1
        have h2 := HL.out
        simp only [Tr.text, List.length_append, List.length_cons, List.length_nil] at h1
        omega
      have HL3 := Lib.hid hlen3; clear hlen3
      have hxr : Ext wr (wr.alloc (.cells #[.iface u x, .string s, .bool false] 82)) := (Ext.refl wr).alloc _
      have HX := Lib.hid hxr; clear hxr
      go_wp2_with fail
      refine (B_write B b l' _ _ (hI'.out.ext HX.out) ?_ ?_).mono ?_
      · have := HL3.out; omega
      · have := HX.out.size; omega
      rintro e w2 ⟨rfl, hI2, hb2, hk2⟩
      have HI2 := Lib.hid hI2; clear hI2
      have hb2k := kept_cell hk2 (Go.heap_alloc_new wr _) (Nat.ne_of_gt hI'.out.lt) (by decide)
      clear hk2
      have HK2 := Lib.hid hb2k; clear hb2k
      go_wp2_with fail
      refine (B_write B b _ _ _ HI2.out ?_ ?_).mono ?_
      · have := HL3.out; rw [List.length_append]; show _ + 2 ≤ _; omega
      · have := HX.out.size; have := hb2.size; omega
      rintro e w3 ⟨rfl, hI3, hb3, hk3⟩
      have HI3 := Lib.hid hI3; clear hI3
      have hb3k := kept_cell hk3 HK2.out (Nat.ne_of_gt hI'.out.lt) (by decide)
      clear hk3
      have cell3 : w3.cell? ⟨wr.heap.size, 0, none⟩ = some (.iface u x) := by
        rw [Lib.cell_of_heap hb3k]; rfl
      have cell4 : w3.cell? ⟨wr.heap.size, 1, none⟩ = some (.string s) := by
        rw [Lib.cell_of_heap hb3k]; rfl
      clear hb3k
      go_wp2
      go_roundg t1.sz
      case measure => have := HK.out.1; simp only [Tr.sz] at this; omega
      case rel =>
        refine ⟨t1, (l' ++ s.data.toList) ++ [58, 32], HQ.out, ?_, Nat.le_refl _, by have := HK.out.2; simp only [Tr.sz] at this; omega, HI3.out, ((hbw.trans (Below.mono HX.out hBr)).trans hb2).trans hb3⟩
        show _ = _
        rw [← hc.out]; simp [Tr.text]
    | row ts =>
      obtain ⟨r, b', off, cap, rfl, q0, q1, q2, q3, q4, hall⟩ := hr2
      have hlen3 : l'.length + (textAll true ts).length ≤ 140737488355328 := by
        have h1 := congrArg List.length hc.out
        rw [List.length_append, List.length_append] at h1
        have h2 := HL.out
        simp only [Tr.text] at h1
        omega
      have HL3 := Lib.hid hlen3; clear hlen3
      have HA := Lib.hid hall; clear hall
      have c0 := hx0.cell q0
      have hq3 : ts.length ≤ 1000000 := q3
      clear q0 q1 q2 q3 q4
      go_wp2
      clear c0
      go_loopg [48] ts.length (fun k p wq => ∃ i : Nat, i + k = ts.length ∧ p = .int .i64 i ∧ Hid (IsB B b (l' ++ textAll true (ts.take i)) wq) ∧ Below B w wq)
      case atStart => exact ⟨0, by omega, rfl, by show IsB _ _ _ _; simpa [textAll] using hI'.out, hbw⟩
      case round =>
        obtain ⟨i, hik, rfl, hIq, hbq⟩ := hrel
        have HI := Lib.hid hik; clear hik
        have hi1 : i ≤ ts.length := by have := HI.out; omega
        have hBq : B ≤ wr.heap.size := by have := hbq.size; omega
        by_cases hlt : i < ts.length
        · obtain ⟨ti, hti⟩ : ∃ ti, ts[i]? = some ti := ⟨ts[i], List.getElem?_eq_getElem hlt⟩
          obtain ⟨u, x, hcell, hrep⟩ := RepAll.at HA.out hti
          have hxq : Ext w0 wr := (hb0.trans hbq).mono h0
          have hcell' := hxq.cell hcell
          have htk := textAll_take true ts i ti hti
          have hle := textAll_le true ts (i + 1)
          have HT := Lib.hid (And.intro hti (And.intro hrep (And.intro htk hle))); clear hti hrep hcell htk hle
          by_cases hz : i = 0
          · subst hz
            have hcell'' : wr.cell? ⟨b', off, none⟩ = some (.iface u x) := hcell'
            clear hcell'
            go_wp2_with fail
            refine (IH.out ti.sz ti _ B b _ w0 wr ?_ (Nat.le_refl _) HT.out.2.1 hp h0 (hb0.trans hbq) hBq hIq.out ?_).mono ?_
            · have h1 := HK.out.2; have h2 := sz_mem _ _ _ HT.out.1; have h3 := HN.out; simp only [Tr.sz] at h1; omega
            · have h1 := HT.out.2.2.2; have h2 := HL3.out
              rw [HT.out.2.2.1] at h1
              simp only [List.length_append] at h1 ⊢
              omega
            rintro e w3 ⟨rfl, hI3, hb3⟩
            have HI3 := Lib.hid hI3; clear hI3
            go_wp2
            go_roundg (gk - 1)
            case measure => have := HI.out; omega
            case rel =>
              refine ⟨1, by have := HI.out; omega, by go_num, ?_, hbq.trans hb3⟩
              have h1 := HI3.out
              have h2 := HT.out.2.2.1
              show IsB _ _ _ _
              rw [show (1 : Nat) = 0 + 1 from rfl, h2]
              simpa [textAll] using h1
          · have hz' : 0 < i := by omega
            clear hz
            go_wp2_with fail
            refine (B_write B b _ _ _ hIq.out ?_ hBq).mono ?_
            · have h1 := HT.out.2.2.2; have h2 := HL3.out
              rw [HT.out.2.2.1] at h1
              have h3 : (true && i == 0) = false := by simp; omega
              rw [h3] at h1
              simp only [List.length_append, List.length_cons, List.length_nil, Bool.false_eq_true, if_false] at h1 ⊢
              omega
            rintro e w2 ⟨rfl, hI2, hb2, hk2⟩
            have HI2 := Lib.hid hI2; clear hI2
            clear hk2
            go_wp2_with fail
            refine (IH.out ti.sz ti _ B b _ w0 w2 ?_ (Nat.le_refl _) HT.out.2.1 hp h0 ((hb0.trans hbq).trans hb2) (by have := hb2.size; omega) HI2.out ?_).mono ?_
            · have h1 := HK.out.2; have h2 := sz_mem _ _ _ HT.out.1; have h3 := HN.out; simp only [Tr.sz] at h1; omega
            · have h1 := HT.out.2.2.2; have h2 := HL3.out
              rw [HT.out.2.2.1] at h1
              have h3 : (true && i == 0) = false := by simp; omega
              rw [h3] at h1
              simp only [List.length_append, List.length_cons, List.length_nil, Bool.false_eq_true, if_false] at h1 ⊢
              omega
            rintro e w3 ⟨rfl, hI3, hb3⟩
            have HI3 := Lib.hid hI3; clear hI3
            go_wp2
            go_roundg (gk - 1)
            case measure => have := HI.out; omega
            case rel =>
              refine ⟨i + 1, by have := HI.out; omega, by go_num, ?_, (hbq.trans hb2).trans hb3⟩
              have h1 := HI3.out
              have h2 := HT.out.2.2.1
              show IsB _ _ _ _
              have h3 : (true && i == 0) = false := by simp; omega
              rw [h2, h3]
              simpa using h1
        · have hie : i = ts.length := by omega
          have HE := Lib.hid hie; clear hie
          go_wp2
          refine bodyPost_ret (results_none rfl _ _ _) rfl ?_
          refine ⟨rfl, ?_, hbq⟩
          have h1 := hIq.out
          rw [HE.out, List.take_length] at h1
          rw [← hc.out]
          exact h1

/-- fault.write at a fault: its text goes into the builder. -/
theorem write_rep : ∀ (n : Nat) (t : Tr) (v : Value) (B b : Nat) (l : List UInt8) (w0 w : World), t.sz ≤ n → Rep w0 t v → Pow10 w0 → w0.heap.size ≤ B → Below B w0 w → B ≤ w.heap.size → IsB B b l w → l.length + t.text.length ≤ 140737488355328 →
      Calls Tryd.prog 44 #[.pointer (some ⟨b, 0, none⟩), v] w fun e w' => e = .returned (.tuple #[]) ∧ IsB B b (l ++ t.text) w' ∧ Below B w w' := by
  intro n
  induction n using Nat.strongRecOn with
  | ind n ih =>
    intro t v B b l w0 w hn hr hp h0 hb0 hBw hI hlen
    exact write_loop n (fun m t v B b l w0 w hm h1 h2 h3 h4 h5 h6 h7 h8 => ih m hm t v B b l w0 w h1 h2 h3 h4 h5 h6 h7 h8) t v B b l w0 w hn hr hp h0 hb0 hBw hI hlen

/-- fault.Text at a fault. -/
theorem Text_rep (t : Tr) (v : Value) (w : World) (hr : Rep w t v) (hp : Pow10 w) (hlen : t.text.length ≤ 140737488355328) :
    Calls Tryd.prog 19 #[v] w fun e w' => e = .returned (.string ⟨t.text.toArray⟩) ∧ Ext w w' := by
  have HR := Lib.hid (And.intro hr (And.intro hp hlen)); clear hr hp hlen
  go_enter Tryd.func19, Tryd.ntmps19
  go_wp2_with fail
  refine (write_rep _ t v w.heap.size w.heap.size [] w _ (Nat.le_refl _) HR.out.1 HR.out.2.1 (Nat.le_refl _) ((Ext.refl w).alloc _) (by simp) (IsB.fresh w) (by simpa using HR.out.2.2)).mono ?_
  rintro e w1 ⟨rfl, hI, hb⟩
  have HI := Lib.hid hI; clear hI
  go_wp2_with fail
  refine (B_string w.heap.size w.heap.size _ _ HI.out (by have := hb.size; simp at this; omega)).mono ?_
  rintro e w2 ⟨rfl, hb2⟩
  go_wp2
  go_ret
  exact ⟨by simp, ((Below.alloc (Below.refl w.heap.size w) (Nat.le_refl _) _).trans hb).trans hb2⟩
set_option maxRecDepth 100000 in
theorem write_nil (p : Value) (w : World) : Calls Tryd.prog 44 #[p, .nilIface] w fun e w' => e = .returned (.tuple #[]) ∧ w' = w := by
  go_enter Tryd.func44, Tryd.ntmps44
  go_wp2
  refine wp_loop_rounds 1 ?_
  rw [rounds_succ]
  go_wp2
  go_end0
  exact ⟨rfl, rfl⟩
theorem Text_nil (w : World) : Calls Tryd.prog 19 #[.nilIface] w fun e w' => e = .returned (.string ⟨#[]⟩) ∧ Ext w w' := by
  go_enter Tryd.func19, Tryd.ntmps19
  go_wp2_with (go_at_call 44; refine (write_nil _ _).mono ?_; rintro e w1 ⟨rfl, rfl⟩)
  refine (B_string w.heap.size w.heap.size [] _ (IsB.fresh w) (by simp)).mono ?_
  rintro e w2 ⟨rfl, hb2⟩
  go_wp2
  go_ret
  exact ⟨rfl, (Below.alloc (Below.refl w.heap.size w) (Nat.le_refl _) _).trans hb2⟩
end Go.Proofs.YtlcnicgjlddldaaDoor
