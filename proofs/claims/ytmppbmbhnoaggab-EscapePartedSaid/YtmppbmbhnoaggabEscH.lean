/- Characters are fed to a parser. -/
import Derived.Test.YtmppbmbhnoaggabEscG
import Derived.WalkLawsBesides
import Derived.IntWalk
import Derived.Deep.LoopGhost
import Derived.Deep.QuietTactic
import Derived.BigQuiet
import Derived.Deep.RegionWith
import Derived.Deep.RegionLaw
namespace Go.Proofs.Ytmppbmbhnoaggab
open Go Go.RowKit

/-- The row lies elsewhere. -/
def Beside (v : Value) (g : Nat) : Prop := ∀ g' off n c, v = .slice (some ⟨g', off, none⟩) n c → g' ≠ g
theorem IsRunes.beside {w : World} {v : Value} {l : List Int} {g : Nat} (h : IsRunes w v l) (hg : w.heap.size ≤ g) : 0 < l.length → Beside v g := by
  intro hl g' off n c e
  subst e
  have := (h.at' (i := 0) (List.getElem?_eq_getElem hl)).2
  have := lt_of_cell this
  have : g' < w.heap.size := this
  omega
/-- What stands behind i characters. -/
structure FedE (w : World) (g : Nat) (s : Par) (l : List Int) (i : Nat) (v : Value) (wr : World) : Prop where
  own : OwnA wr w.heap.size v (runE s (l.take i)).1
  par : ParAt wr g (runE s (l.take i)).2
  only : Only g w wr
  room : (runE s (l.take i)).1.length ≤ i
theorem FedE.next {w wn : World} {g : Nat} {s : Par} {l : List Int} {i : Nat} {v' : Value} {r : Int} (hi : l[i]? = some r) {out : List ActV} {S : Par} (ho : (runE s (l.take i)).1 = out) (hS : (runE s (l.take i)).2 = S) (hr : out.length ≤ i)
    (more : List ActV) (hm : (if (stepE S r).2.kind ≠ 0 then [(stepE S r).2] else []) = more) (hown : OwnA wn w.heap.size v' (out ++ more)) (hp : ParAt wn g (stepE S r).1) (hx : Only g w wn) : FedE w g s l (i + 1) v' wn := by
  have h1 := runE_one s l i r hi
  rw [ho, hS, hm] at h1
  refine ⟨by rw [h1]; exact hown, by rw [h1]; exact hp, hx, ?_⟩
  rw [h1]
  show (out ++ more).length ≤ i + 1
  rw [List.length_append, ← hm]
  split <;> simp <;> omega
set_option maxHeartbeats 4000000 in
set_option maxRecDepth 100000 in
theorem Feed_of (w : World) (g : Nat) (s : Par) (v : Value) (l : List Int) (h : ParAt w g s) (hok : s.ok) (hv : IsRunes w v l) (hne : 0 < l.length → Beside v g) (hm : l.length ≤ 100000) :
    Calls Try.prog 15 #[.pointer (some ⟨g, 0, none⟩), v] w fun e w' => ∃ v', e = .returned v' ∧ OwnA w' w.heap.size v' (runE s l).1 ∧ ParAt w' g (runE s l).2 ∧ Only g w w' := by
  obtain ⟨A, c, rfl, hc, _⟩ := hv.form
  have hlt := h.lt
  obtain ⟨L, hL⟩ : ∃ L, l.length = L := ⟨_, rfl⟩
  rw [hL] at hv hne hc hm ⊢
  have H := Lib.hid (And.intro h (And.intro hok (And.intro hv (And.intro hne (And.intro hL hlt))))); clear h hok hv hne hL hlt
  go_enter Try.func15, Try.ntmps15
  go_wp2
  go_loopg [5, 12] L (fun k b j wr => ∃ (i : Nat), Hid (i + k = L) ∧ j = .int .i64 i ∧ Hid (FedE w g s l i b wr))
  case atStart => exact ⟨0, Nat.zero_add _, rfl, OwnA.nil _ _, H.out.1, Only.refl _ _, Nat.le_refl _⟩
  case round =>
    obtain ⟨i, hi, rfl, hfed⟩ := hrel
    by_cases hlt : i < L
    · obtain ⟨y, hy⟩ : ∃ y, l[i]? = some y := ⟨l[i]'(by rw [H.out.2.2.2.2.1]; exact hlt), List.getElem?_eq_getElem _⟩
      obtain ⟨_, ga, offa, rfl, ca⟩ := H.out.2.2.1.at hy
      have hgg := H.out.2.2.2.1 (by omega) ga offa L c rfl
      have da := hfed.out.only.cell hgg ca
      have hokS := ok_runE H.out.2.1 (l.take i)
      have hnx := fun (wn : World) (v' : Value) => FedE.next (w := w) (wn := wn) (g := g) (s := s) (v' := v') hy rfl rfl hfed.out.room
      obtain ⟨hown, hpar, honly, hroom⟩ := hfed.out
      generalize (runE s (l.take i)).1 = out at hown hroom hnx
      generalize (runE s (l.take i)).2 = S at hpar hokS hnx
      have hst := Step_of wr g S y hpar hokS
      have hact := act_stepE hokS y
      generalize (stepE S y).1 = S' at hst hnx
      generalize (stepE S y).2 = X at hst hact hnx
      obtain ⟨n0, n1, n2, n3, n4, n5, n6, n7, e8⟩ := eight _ hact.1.len
      obtain ⟨kd, rr, pp, mm, nn, ns⟩ := X
      simp only at e8
      subst e8
      rw [show toldV ⟨kd, rr, pp, mm, nn, [n0, n1, n2, n3, n4, n5, n6, n7]⟩ = .tuple #[.agg #[.int .i64 kd, .int .i32 rr, .int .u8 pp, .int .u8 mm, .int .i64 nn, .int .i64 n0, .int .i64 n1, .int .i64 n2, .int .i64 n3, .int .i64 n4, .int .i64 n5, .int .i64 n6, .int .i64 n7], .bool (decide (kd ≠ 0))] from rfl] at hst
      have HI := Lib.hid (And.intro hown (And.intro honly (And.intro hroom (And.intro hact.1 (And.intro hst hnx)))))
      clear hown honly hroom hact hst hnx hpar hokS hfed hgg hy ca
      by_cases hk : kd = 0
      · have hb : decide (kd ≠ 0) = false := by simpa using hk
        rw [hb] at HI
        have HK := Lib.hid hk; clear hk hb
        go_wp2_with fail
        refine HI.out.2.2.2.2.1.mono ?_
        rintro e w1 ⟨rfl, hp1, ho1⟩
        have hE : FedE w g s l (i + 1) u5 (w1.alloc (.cells #[.int .i64 kd, .int .i32 rr, .int .u8 pp, .int .u8 mm, .int .i64 nn, .int .i64 n0, .int .i64 n1, .int .i64 n2, .int .i64 n3, .int .i64 n4, .int .i64 n5, .int .i64 n6, .int .i64 n7] 31)) := by
          have hxx := (Ext.refl w1).alloc (.cells #[.int .i64 kd, .int .i32 rr, .int .u8 pp, .int .u8 mm, .int .i64 nn, .int .i64 n0, .int .i64 n1, .int .i64 n2, .int .i64 n3, .int .i64 n4, .int .i64 n5, .int .i64 n6, .int .i64 n7] 31)
          refine HI.out.2.2.2.2.2 _ u5 [] (if_neg (by simpa using HK.out)) ?_ (hp1.ext hxx) ((HI.out.2.1.trans ho1).ext hxx)
          rw [List.append_nil]
          exact (HI.out.1.only ho1 H.out.2.2.2.2.2).ext hxx
        have HE := Lib.hid hE; clear hE hp1 ho1 da
        go_wp2
        go_roundg (gk - 1)
        case measure => have := hi.out; omega
        case rel =>
          refine ⟨i + 1, ?_, by go_num, HE.out⟩
          show i + 1 + (gk - 1) = L
          have := hi.out; omega
      · have hb : decide (kd ≠ 0) = true := by simpa using hk
        rw [hb] at HI
        have HK := Lib.hid hk; clear hk hb
        go_wp2_with fail
        refine HI.out.2.2.2.2.1.mono ?_
        rintro e w1 ⟨rfl, hp1, ho1⟩
        obtain ⟨cs, hcs⟩ : ∃ cs : Array Value, cs = #[.int .i64 kd, .int .i32 rr, .int .u8 pp, .int .u8 mm, .int .i64 nn, .int .i64 n0, .int .i64 n1, .int .i64 n2, .int .i64 n3, .int .i64 n4, .int .i64 n5, .int .i64 n6, .int .i64 n7] := ⟨_, rfl⟩
        have hxx := ((Ext.refl w1).alloc (.cells cs 31)).alloc (.cells cs 31)
        have hbb : Blk ((w1.alloc (.cells cs 31)).alloc (.cells cs 31)) (w1.heap.size + 1) 31 cs := Go.heap_alloc2_new w1 _ _
        have hoo := (HI.out.1.only ho1 H.out.2.2.2.2.2).ext hxx
        have hpp := hp1.ext hxx
        have hww := (HI.out.2.1.trans ho1).ext hxx
        rw [hcs] at hbb hoo hpp hww
        have HX := Lib.hid (And.intro hbb (And.intro hoo (And.intro hpp hww)))
        clear hbb hoo hpp hww hxx hcs hp1 ho1 da
        go_wp2_with (at_builtin; refine wpList_app_act rfl _ _ rfl w.heap.size u5 out rfl HX.out.2.1 (w1.heap.size + 1) ⟨kd, rr, pp, mm, nn, [n0, n1, n2, n3, n4, n5, n6, n7]⟩ HI.out.2.2.2.1 rfl HX.out.1 (by have := HI.out.2.2.1; omega) HX.out.2.2.2.size ?_)
        intro v' w2 happ
        have HE := Lib.hid (HI.out.2.2.2.2.2 w2 v' _ (if_pos HK.out) happ.own (par_grown HX.out.2.2.1 HX.out.2.1 happ.grown H.out.2.2.2.2.2) (only_grownA HX.out.2.2.2 HX.out.2.1 happ.grown (Nat.le_refl _)))
        clear happ
        go_wp2
        go_roundg (gk - 1)
        case measure => have := hi.out; omega
        case rel =>
          refine ⟨i + 1, ?_, by go_num, HE.out⟩
          show i + 1 + (gk - 1) = L
          have := hi.out; omega
    · have he : l.take i = l := List.take_of_length_le (by have := H.out.2.2.2.2.1; omega)
      obtain ⟨hown, hpar, honly, hroom⟩ := hfed.out
      rw [he] at hown hpar
      have HE := Lib.hid (And.intro hown (And.intro hpar honly)); clear he hown hpar honly hroom hfed
      go_wp2
      go_ret
      exact ⟨_, rfl, HE.out⟩
end Go.Proofs.Ytmppbmbhnoaggab
