/- The law FaultTells, walked. -/
import Derived.Test.YtlcnicgjlddldaaDoorRefTexts
import Derived.Deep.RegionHeld3
namespace Go.Proofs.YtlcnicgjlddldaaDoor
open Go Go.RowKit

/-- What a round of the law reads: a fault of the program's, the document's five cells of it, and its place. -/
def TX (W0 : World) (ga i : Nat) (v : Value) (gb : Nat) (k c p : Int) (z : ByteArray) (ad : Option Addr) (l cap : Nat) (B : Nat) (s : Int) (o : Bool) (W : World) : Prop :=
  W.cell? ⟨ga, i, none⟩ = some v ∧ W.cell? ⟨gb, i * 5, none⟩ = some (.int .i64 k) ∧ W.cell? ⟨gb, i * 5 + 1, none⟩ = some (.int .i64 c) ∧ W.cell? ⟨gb, i * 5 + 2, none⟩ = some (.int .i64 p) ∧ W.cell? ⟨gb, i * 5 + 3, none⟩ = some (.string z) ∧ W.cell? ⟨gb, i * 5 + 4, none⟩ = some (.slice ad l cap) ∧
    W.cell? ⟨B, 0, none⟩ = some (.int .i64 s) ∧ W.cell? ⟨B, 1, none⟩ = some (.bool o) ∧ Ext W0 W
theorem TX.ext {W0 : World} {ga i : Nat} {v : Value} {gb : Nat} {k c p : Int} {z : ByteArray} {ad : Option Addr} {l cap B : Nat} {s : Int} {o : Bool} {W W' : World} (h : TX W0 ga i v gb k c p z ad l cap B s o W) (hx : Ext W W') : TX W0 ga i v gb k c p z ad l cap B s o W' :=
  ⟨hx.cell h.1, hx.cell h.2.1, hx.cell h.2.2.1, hx.cell h.2.2.2.1, hx.cell h.2.2.2.2.1, hx.cell h.2.2.2.2.2.1, hx.cell h.2.2.2.2.2.2.1, hx.cell h.2.2.2.2.2.2.2.1, h.2.2.2.2.2.2.2.2.trans hx⟩
theorem TX.last {W0 : World} {ga i : Nat} {v : Value} {gb : Nat} {k c p : Int} {z : ByteArray} {ad : Option Addr} {l cap B : Nat} {s : Int} {o : Bool} {W : World} (h : TX W0 ga i v gb k c p z ad l cap B s o W) : Ext W0 W := h.2.2.2.2.2.2.2.2
theorem tx_calls {W0 : World} {ga i : Nat} {v : Value} {gb : Nat} {k c p : Int} {z : ByteArray} {ad : Option Addr} {l cap B : Nat} {s : Int} {o : Bool} {f : FuncId} {args : Array Value} {r : Value} (h : ∀ W, Ext W0 W → Calls Tryd.prog f args W fun e w' => e = .returned r ∧ Ext W w') :
    ∀ W, TX W0 ga i v gb k c p z ad l cap B s o W → Calls Tryd.prog f args W fun e w' => e = .returned r ∧ TX W0 ga i v gb k c p z ad l cap B s o w' := by
  intro W hW
  refine (h W hW.last).mono ?_
  rintro e w' ⟨rfl, hx⟩
  exact ⟨rfl, hW.ext hx⟩
theorem ext_drew_iff3 (a w : World) : Ext a w.drew ↔ Ext a w := ⟨fun h => ⟨h.os, h.tape, h.output, h.size, h.block⟩, Ext.drew⟩
attribute [local simp] ext_drew_iff3
set_option maxHeartbeats 4000000 in
set_option maxRecDepth 100000 in
theorem tellsLaw_true (x : Value) (code : Int) (w : World) (hx : IsScript w x) (hp : Pow10 w) (hg : ErrType w) :
    Calls Tryd.prog 3 #[x, .int .i64 code] w fun e w' => e = .returned (.bool true) ∧ Ext w w' := by
  have HS := Lib.hid (And.intro hp (And.intro hg hx)); clear hp hg hx
  go_enter Tryd.func3, Tryd.ntmps3
  go_wp2_with fail
  refine (awake_true _ HS.out.1).mono ?_
  rintro e w1 ⟨rfl, hx1⟩
  have HX1 := Lib.hid hx1; clear hx1
  go_wp2_with fail
  refine (built_any x w1 (HS.out.2.2.ext HX1.out)).mono ?_
  rintro e w2 ⟨ga, ca, gb, cb, us, vs, cs, rfl, HB⟩
  have hx2 : Ext w1 w2 := HB.out.piles.below
  have HX2 := Lib.hid (HX1.out.trans hx2); clear hx2
  have hul : us.length ≤ 30 := HB.out.len
  go_wp2_with fail
  go_loopg [8] us.length (fun k c wr => ∃ i : Nat, Hid (i + k = us.length) ∧ c = .int .i64 i ∧ Hid (Ext w2 wr))
  case atStart => exact ⟨0, Nat.zero_add _, rfl, Ext.refl _⟩
  case round =>
    obtain ⟨i, hi, rfl, hwr⟩ := hrel
    by_cases hlt : i < us.length
    · obtain ⟨u, hu⟩ : ∃ u, us[i]? = some u := ⟨us[i], List.getElem?_eq_getElem hlt⟩
      obtain ⟨g0, rfl⟩ := own_some HB.out.piles.owna (by omega)
      obtain ⟨g1, rfl⟩ := own_some HB.out.piles.ownb (by omega)
      obtain ⟨v, hv1, hv2⟩ := HB.out.piles.repa i u hu
      have ka : w2.cell? ⟨g0, i, none⟩ = some v := by rw [HB.out.piles.owna.cellAt i (by omega)]; exact hv1
      obtain ⟨k, c, p, z, ad, l, cap, hz, c0, c1, c2, c3, c4⟩ := HB.out.piles.fiveB rfl hu
      have htl : tlen u ≤ 2000 := by have := tlen_le hu; have := HB.out.text; omega
      have hv3 : RepO w2 u v := hv2.rep
      have hr1 := hwr.out.cell ka
      have r0 := hwr.out.cell c0
      have r1 := hwr.out.cell c1
      have r2 := hwr.out.cell c2
      have r3 := hwr.out.cell c3
      have r4 := hwr.out.cell c4
      have HV := Lib.hid (And.intro hv3 (And.intro hz (And.intro ka (And.intro htl (And.intro c0 (And.intro c1 (And.intro c2 (And.intro c3 c4)))))))); clear hu hv1 hv2 hv3 ka hz htl c0 c1 c2 c3 c4
      go_wp2_with fail
      refine (Place_O u v wr (HV.out.1.ext hwr.out)).mono ?_
      rintro e w3 ⟨rfl, hx3⟩
      have HE3 := Lib.hid (hwr.out.trans hx3)
      have q0 := hx3.cell r0
      have q1 := hx3.cell r1
      have q2 := hx3.cell r2
      have q3 := hx3.cell r3
      have q4 := hx3.cell r4
      clear hx3 hr1 r0 r1 r2 r3 r4
      go_wp2_with fail
      refine (refPlace_O (Own (.slice (some ⟨g0, 0, none⟩) us.length ca) (.slice (some ⟨g1, 0, none⟩) us.length cb)) u [.int .i64 k, .int .i64 c, .int .i64 p, .string z, .slice ad l cap] w3 (RefO.kept (HE3.out.but _) (fun _ h => .inl h) HV.out.2.1)).mono ?_
      rintro e w4 ⟨rfl, hx4⟩
      have HE4 := Lib.hid (HE3.out.trans hx4)
      clear hx4 q0 q1 q2 q3 q4
      go_wp2_with fail
      have hE0 : Ext w2 (w4.alloc (.cells #[.int .i64 (sumU u), .bool (placedU u)] 33)) := HE4.out.alloc _
      have b0 : (w4.alloc (.cells #[.int .i64 (sumU u), .bool (placedU u)] 33)).cell? ⟨w4.heap.size, 0, none⟩ = some (.int .i64 (sumU u)) := by rw [Lib.cell_of_heap (Go.heap_alloc_new _ _)]; rfl
      have b1 : (w4.alloc (.cells #[.int .i64 (sumU u), .bool (placedU u)] 33)).cell? ⟨w4.heap.size, 1, none⟩ = some (.bool (placedU u)) := by rw [Lib.cell_of_heap (Go.heap_alloc_new _ _)]; rfl
      generalize w4.alloc (.cells #[.int .i64 (sumU u), .bool (placedU u)] 33) = W0 at hE0 b0 b1 ⊢
      generalize w4.heap.size = B at b0 b1 ⊢
      have ka := hE0.cell HV.out.2.2.1
      have c0 := hE0.cell HV.out.2.2.2.2.1
      have c1 := hE0.cell HV.out.2.2.2.2.2.1
      have c2 := hE0.cell HV.out.2.2.2.2.2.2.1
      have c3 := hE0.cell HV.out.2.2.2.2.2.2.2.1
      have c4 := hE0.cell HV.out.2.2.2.2.2.2.2.2
      have hv0 : RepO W0 u v := RepO.ext hE0 HV.out.1
      have hz0 : RefO (Own (.slice (some ⟨g0, 0, none⟩) us.length ca) (.slice (some ⟨g1, 0, none⟩) us.length cb)) W0 u [.int .i64 k, .int .i64 c, .int .i64 p, .string z, .slice ad l cap] := RefO.kept (hE0.but _) (fun _ h => .inl h) HV.out.2.1
      have htl := HV.out.2.2.2.1
      have HV0 := Lib.hid (And.intro hE0 (And.intro hv0 (And.intro hz0 htl))); clear hE0 hv0 hz0 htl HV HE3 HE4 hwr
      have FC := Lib.hid (tx_calls (W0 := W0) (ga := g0) (i := i) (v := v) (gb := g1) (k := k) (c := c) (p := p) (z := z) (ad := ad) (l := l) (cap := cap) (B := B) (s := sumU u) (o := placedU u) (fun W hW => Code_O u v W (((HS.out.2.1.ext HX2.out).ext HV0.out.1).ext hW) (RepO.ext hW HV0.out.2.1)))
      have FR := Lib.hid (tx_calls (W0 := W0) (ga := g0) (i := i) (v := v) (gb := g1) (k := k) (c := c) (p := p) (z := z) (ad := ad) (l := l) (cap := cap) (B := B) (s := sumU u) (o := placedU u) (fun W hW => refCode_O _ u _ W (RefO.kept (hW.but _) (fun _ h => .inl h) HV0.out.2.2.1)))
      have FP := Lib.hid (tx_calls (W0 := W0) (ga := g0) (i := i) (v := v) (gb := g1) (k := k) (c := c) (p := p) (z := z) (ad := ad) (l := l) (cap := cap) (B := B) (s := sumU u) (o := placedU u) (fun W hW => Path_O u v W (RepO.ext hW HV0.out.2.1) (Nat.le_trans HV0.out.2.2.2 (by omega))))
      have FQ := Lib.hid (tx_calls (W0 := W0) (ga := g0) (i := i) (v := v) (gb := g1) (k := k) (c := c) (p := p) (z := z) (ad := ad) (l := l) (cap := cap) (B := B) (s := sumU u) (o := placedU u) (fun W hW => refPath_O _ u _ W W0 v (RefO.kept (hW.but _) (fun _ h => .inl h) HV0.out.2.2.1) HV0.out.2.1 (Nat.le_trans HV0.out.2.2.2 (by omega))))
      have FT := Lib.hid (tx_calls (W0 := W0) (ga := g0) (i := i) (v := v) (gb := g1) (k := k) (c := c) (p := p) (z := z) (ad := ad) (l := l) (cap := cap) (B := B) (s := sumU u) (o := placedU u) (fun W hW => Text_O u v W (RepO.ext hW HV0.out.2.1) (((HS.out.1.ext HX2.out).ext HV0.out.1).ext hW) (Nat.le_trans HV0.out.2.2.2 (by omega))))
      have FU := Lib.hid (tx_calls (W0 := W0) (ga := g0) (i := i) (v := v) (gb := g1) (k := k) (c := c) (p := p) (z := z) (ad := ad) (l := l) (cap := cap) (B := B) (s := sumU u) (o := placedU u) (fun W hW => refText_O _ u _ W W0 v (RefO.kept (hW.but _) (fun _ h => .inl h) HV0.out.2.2.1) HV0.out.2.1 (Nat.le_trans HV0.out.2.2.2 (by omega))))
      have FI := Lib.hid (fun d : Int => tx_calls (W0 := W0) (ga := g0) (i := i) (v := v) (gb := g1) (k := k) (c := c) (p := p) (z := z) (ad := ad) (l := l) (cap := cap) (B := B) (s := sumU u) (o := placedU u) (fun W hW => Is_O u v d W (RepO.ext hW HV0.out.2.1)))
      have FJ := Lib.hid (fun d : Int => tx_calls (W0 := W0) (ga := g0) (i := i) (v := v) (gb := g1) (k := k) (c := c) (p := p) (z := z) (ad := ad) (l := l) (cap := cap) (B := B) (s := sumU u) (o := placedU u) (fun W hW => refIs_O _ u _ d W (RefO.kept (hW.but _) (fun _ h => .inl h) HV0.out.2.2.1)))
      have E0 := Ext.refl W0
      generalize codeU u = ru at FC FR
      generalize (⟨(pathU u).toArray⟩ : ByteArray) = rp at FP FQ
      generalize (⟨(textO u).toArray⟩ : ByteArray) = rt at FT FU
      generalize sumU u = ss at *
      generalize placedU u = so at *
      go_region_held3 (fun w' => w'.cell? ⟨g0, i, none⟩ = some v ∧ w'.cell? ⟨g1, i * 5, none⟩ = some (.int .i64 k) ∧ w'.cell? ⟨g1, i * 5 + 1, none⟩ = some (.int .i64 c) ∧ w'.cell? ⟨g1, i * 5 + 2, none⟩ = some (.int .i64 p) ∧ w'.cell? ⟨g1, i * 5 + 3, none⟩ = some (.string z) ∧ w'.cell? ⟨g1, i * 5 + 4, none⟩ = some (.slice ad l cap) ∧ w'.cell? ⟨B, 0, none⟩ = some (.int .i64 ss) ∧ w'.cell? ⟨B, 1, none⟩ = some (.bool so) ∧ Ext W0 w')
        (first | exact gS | go_keep)
        (first
          | (go_at_call 15; refine (FC.out _ (by first | exact gS | assumption)).mono ?_; rintro e wn ⟨rfl, gS⟩)
          | (go_at_call 16; refine (FR.out _ (by first | exact gS | assumption)).mono ?_; rintro e wn ⟨rfl, gS⟩)
          | (go_at_call 17; refine (FP.out _ (by first | exact gS | assumption)).mono ?_; rintro e wn ⟨rfl, gS⟩)
          | (go_at_call 18; refine (FQ.out _ (by first | exact gS | assumption)).mono ?_; rintro e wn ⟨rfl, gS⟩)
          | (go_at_call 19; refine (FT.out _ (by first | exact gS | assumption)).mono ?_; rintro e wn ⟨rfl, gS⟩)
          | (go_at_call 20; refine (FU.out _ (by first | exact gS | assumption)).mono ?_; rintro e wn ⟨rfl, gS⟩))
      have HG := Lib.hid (show TX W0 g0 i v g1 k c p z ad l cap B ss so _ from gS)
      obtain ⟨go, hgo⟩ : ∃ go, go = gk := ⟨_, rfl⟩
      have HGO := Lib.hid hgo; clear hgo
      clear E0 b0 b1 ka c0 c1 c2 c3 c4 FC FR FP FQ FT FU gS
      go_wp2_with fail
      go_loopg [12] 33 (fun m y wk => ∃ d : Int, Hid (d + m = 32) ∧ -1 ≤ d ∧ y = .int .i64 d ∧ Hid (TX W0 g0 i v g1 k c p z ad l cap B ss so wk))
      case atStart => exact ⟨-1, Lib.hid (by decide), by decide, rfl, HG.out⟩
      case round =>
        obtain ⟨d, hd, hd0, rfl, HK⟩ := hrel
        obtain ⟨ka, c0, c1, c2, c3, c4, b0, b1, e0⟩ := HK.out
        clear HG
        by_cases hdl : d < 32
        · go_wp2_with fail
          go_region_held3 (fun w' => w'.cell? ⟨g0, i, none⟩ = some v ∧ w'.cell? ⟨g1, i * 5, none⟩ = some (.int .i64 k) ∧ w'.cell? ⟨g1, i * 5 + 1, none⟩ = some (.int .i64 c) ∧ w'.cell? ⟨g1, i * 5 + 2, none⟩ = some (.int .i64 p) ∧ w'.cell? ⟨g1, i * 5 + 3, none⟩ = some (.string z) ∧ w'.cell? ⟨g1, i * 5 + 4, none⟩ = some (.slice ad l cap) ∧ w'.cell? ⟨B, 0, none⟩ = some (.int .i64 ss) ∧ w'.cell? ⟨B, 1, none⟩ = some (.bool so) ∧ Ext W0 w')
            (first | exact gS | go_keep)
            (first
              | (go_at_call 21; refine (FI.out _ _ (by first | exact gS | assumption)).mono ?_; rintro e wn ⟨rfl, gS⟩)
              | (go_at_call 22; refine (FJ.out _ _ (by first | exact gS | assumption)).mono ?_; rintro e wn ⟨rfl, gS⟩))
          have HG2 := Lib.hid (show TX W0 g0 i v g1 k c p z ad l cap B ss so _ from gS)
          clear ka c0 c1 c2 c3 c4 b0 b1 e0 HK gS
          go_wp2
          go_roundg (gk - 1)
          case measure => have := hd.out; omega
          case rel =>
            refine ⟨d + 1, ?_, by omega, by go_num, HG2.out⟩
            show d + 1 + ((gk - 1 : Nat) : Int) = 32
            have := hd.out; omega
        · go_wp2_with fail
          go_region_held3 (fun w' => w'.cell? ⟨g0, i, none⟩ = some v ∧ w'.cell? ⟨g1, i * 5, none⟩ = some (.int .i64 k) ∧ w'.cell? ⟨g1, i * 5 + 1, none⟩ = some (.int .i64 c) ∧ w'.cell? ⟨g1, i * 5 + 2, none⟩ = some (.int .i64 p) ∧ w'.cell? ⟨g1, i * 5 + 3, none⟩ = some (.string z) ∧ w'.cell? ⟨g1, i * 5 + 4, none⟩ = some (.slice ad l cap) ∧ w'.cell? ⟨B, 0, none⟩ = some (.int .i64 ss) ∧ w'.cell? ⟨B, 1, none⟩ = some (.bool so) ∧ Ext W0 w')
            (first | exact gS | go_keep)
            (first
              | (go_at_call 21; refine (FI.out _ _ (by first | exact gS | assumption)).mono ?_; rintro e wn ⟨rfl, gS⟩)
              | (go_at_call 22; refine (FJ.out _ _ (by first | exact gS | assumption)).mono ?_; rintro e wn ⟨rfl, gS⟩))
          have HG2 := Lib.hid (show TX W0 g0 i v g1 k c p z ad l cap B ss so _ from gS)
          clear ka c0 c1 c2 c3 c4 b0 b1 e0 HK gS
          go_wp2
          go_roundg (go - 1)
          case measure => have := hi.out; have := HGO.out; omega
          case rel =>
            refine ⟨i + 1, ?_, by go_num, HV0.out.1.trans HG2.out.last⟩
            show i + 1 + (go - 1) = us.length
            have := hi.out; have := HGO.out; omega
    · go_wp2
      go_ret
      exact ⟨rfl, HX2.out.trans hwr.out⟩
end Go.Proofs.YtlcnicgjlddldaaDoor
