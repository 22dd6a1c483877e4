/- A region that draws its order, in a class of worlds of one's own: each operation hands back one value in every world of the class, and leaves one of it. · How many cells the character has that a row begins with: cell.whole. · The cells of a character: cell.Make, and the document's. · Words of no program: reading a row of cells (chapter 5). -/
import Derived.Test.YtcmllaeihnmkkaaDoorU10
import Derived.WalkKit
import Derived.Deep.QuietTactic
import Derived.BigQuiet
import Derived.Deep.RegionWith
namespace Go.Proofs.YtcmllaeihnmkkaaDoor
open Go Go.RowKit

/-- A world that meets a condition. -/
structure In (Z : World → Prop) where
  val : World
  prop : Z val
theorem wp_region_class {P : Program} {id : Nat} {Q : Exit → Act → World → Prop} {a : Act} {w : World} {l : List Oper} (Z : World → Prop) (hm : P.follows .mixedOrders = true) (hB : Region.lexB .any l.toArray = true) (hC : Z w.drew)
    (h : wpQuiet P l.toArray (fun w' => ∃ n : In Z, w' = n.val) (fun a' => ∀ w', (∃ n : In Z, w' = n.val) → Q .normal a' w') l a) : (Code.region id l.toArray true).wp P Q a w :=
  wp_region_quiet (C := fun w' => ∃ n : In Z, w' = n.val) hm hB ⟨⟨_, hC⟩, rfl⟩ (by simpa using h)
theorem quiet_class {P : Program} {f : FuncId} {args : Array Value} {v : Value} {Z : World → Prop} (h : ∀ W, Z W → Calls P f args W fun e w' => e = .returned v ∧ Z w') (n : In Z) :
    Calls P f args n.val fun e w'' => e = .returned v ∧ ∃ m : In Z, w'' = m.val :=
  (h n.val n.prop).mono fun _ _ ⟨he, hz⟩ => ⟨he, ⟨_, hz⟩, rfl⟩
end Go.Proofs.YtcmllaeihnmkkaaDoor
namespace Go.Proofs.YtcmllaeihnmkkaaDoor
open Go Go.RowKit
attribute [local go_sem 10000] eq_cel

theorem CelAt.four {w : World} {g o : Nat} {r f b a : Int} (h : CelAt w g o ⟨r, f, b, a⟩) : w.cell? ⟨g, o, none⟩ = some (.int .i32 r) ∧ w.cell? ⟨g, o + 1, none⟩ = some (.int .u8 f) ∧ w.cell? ⟨g, o + 2, none⟩ = some (.int .u8 b) ∧ w.cell? ⟨g, o + 3, none⟩ = some (.int .u8 a) :=
  ⟨h 0 _ rfl, h 1 _ rfl, h 2 _ rfl, h 3 _ rfl⟩
theorem CelAt.four0 {w : World} {g : Nat} {r f b a : Int} (h : CelAt w g 0 ⟨r, f, b, a⟩) : w.cell? ⟨g, 0, none⟩ = some (.int .i32 r) ∧ w.cell? ⟨g, 1, none⟩ = some (.int .u8 f) ∧ w.cell? ⟨g, 2, none⟩ = some (.int .u8 b) ∧ w.cell? ⟨g, 3, none⟩ = some (.int .u8 a) :=
  ⟨h 0 _ rfl, h 1 _ rfl, h 2 _ rfl, h 3 _ rfl⟩
/-- In the class of the worlds that lie behind one. -/
theorem quiet_ext {P : Program} {w0 : World} {f : FuncId} {args : Array Value} {v : Value} (h : ∀ W, Ext w0 W → Calls P f args W fun e w' => e = .returned v ∧ Ext W w') (n : In (Ext w0)) :
    Calls P f args n.val fun e w'' => e = .returned v ∧ ∃ m : In (Ext w0), w'' = m.val :=
  quiet_class (Z := Ext w0) (fun W hW => (h W hW).mono fun _ _ ⟨he, hx⟩ => ⟨he, hW.trans hx⟩) n
theorem in_ext (w0 : World) : Nonempty (In (Ext w0)) := ⟨⟨_, Ext.refl w0⟩⟩
set_option maxHeartbeats 4000000 in
set_option maxRecDepth 100000 in
theorem whole_of (l : List Cel) (v : Value) (w : World) (hv : IsCells w v l) (hn : 0 < l.length) (hS : Spans w) : Calls Tryd.prog 72 #[v] w fun e w' => e = .returned (.int .i64 (wholeL l)) ∧ Ext w w' := by
  obtain ⟨A, c, rfl, hlc, _⟩ := hv.form
  obtain ⟨g, off, rfl⟩ := hv.addr hn
  cases l with
  | nil => simp at hn
  | cons x t =>
    have hat := hv.at' (i := 0) (x := x) rfl
    rw [Nat.zero_mul, Nat.add_zero] at hat
    obtain ⟨hok, hat⟩ := hat
    obtain ⟨r, f, b, a⟩ := x
    generalize hL : (Cel.mk r f b a :: t).length = L at hlc ⊢
    have H := Lib.hid (And.intro hv (And.intro hok (And.intro hS hL)))
    have hL1 : 0 < L := by rw [← hL]; simp
    clear hv hok hS hL hn
    obtain ⟨a0, a1, a2, a3⟩ := hat.four
    obtain ⟨K, hK⟩ : ∃ K, K = wholeL (⟨r, f, b, a⟩ :: t) := ⟨_, rfl⟩
    rw [← hK]
    rw [wholeL_cons] at hK
    unfold Cel.plain Cel.opens at hK
    have HK0 := Lib.hid hK; clear hK
    go_enter Tryd.func72, Tryd.ntmps72
    go_wp2_with fail
    refine (Check_of ⟨r, f, b, a⟩ _ H.out.2.1 (H.out.2.2.1.ext ((Ext.refl w).alloc _))).mono ?_
    rintro e w1 ⟨rfl, hx⟩
    obtain ⟨l0, l1, l2, l3⟩ := ((CelAt.new w ⟨r, f, b, a⟩).ext hx).four0
    have HC := Lib.hid ((CelAt.new w ⟨r, f, b, a⟩).ext hx)
    have H1 := Lib.hid (((Ext.refl w).alloc _).trans hx); clear hx
    have hK := HK0.out; clear HK0
    have TW : ∀ W, Calls Tryd.prog 110 #[.agg #[.int .i32 r, .int .u8 f, .int .u8 b, .int .u8 a]] W fun e w' => e = .returned (.agg #[.int .i32 0, .int .u8 f, .int .u8 b, .int .u8 (a % 64 + 128)]) ∧ Ext W w' := fun W => tail_of ⟨r, f, b, a⟩ W H.out.2.1
    have IT := fun W => isTail_of ⟨r, f, b, a⟩ W H.out.2.1
    have IW := fun W => isWide_of ⟨r, f, b, a⟩ W H.out.2.1
    have HF := Lib.hid (And.intro TW (And.intro IT IW)); clear TW IT IW
    have hq0 : Cel.check ⟨r, f, b, a⟩ = true → Cel.tl ⟨r, f, b, a⟩ = true → Cel.wide ⟨r, f, b, a⟩ = false := by
      intro h1 h2
      unfold Cel.check at h1
      rw [h2] at h1
      simp at h1
      exact h1.1
    have HQ := Lib.hid hq0; clear hq0
    generalize hq1 : Cel.check ⟨r, f, b, a⟩ = C at hK HQ ⊢
    generalize hq2 : Cel.tl ⟨r, f, b, a⟩ = T at hK HF HQ
    generalize hq3 : Cel.wide ⟨r, f, b, a⟩ = U at hK HF HQ
    have HK := Lib.hid hK; clear hK
    clear hq1 hq2 hq3 a0 a1 a2 a3
    cases C with
    | false =>
      go_wp2_with fail
      go_ret
      exact ⟨by rw [HK.out]; rfl, H1.out⟩
    | true =>
      go_wp2_with fail
      refine (HF.out.2.1 _).mono ?_
      rintro e w2 ⟨rfl, hx⟩
      obtain ⟨m0, m1, m2, m3⟩ := (HC.out.ext hx).four0
      have HD := Lib.hid (HC.out.ext hx)
      have H2 := Lib.hid (H1.out.trans hx); clear hx l0 l1 l2 l3
      cases T with
      | true =>
        go_wp2_with fail
        go_ret
        exact ⟨by rw [HK.out, (by simpa using HQ.out : U = false)]; rfl, H2.out⟩
      | false =>
        go_wp2_with fail
        refine (HF.out.2.2 _).mono ?_
        rintro e w3 ⟨rfl, hx⟩
        obtain ⟨l0, l1, l2, l3⟩ := (HD.out.ext hx).four0
        have HE := Lib.hid (HD.out.ext hx)
        have H3 := Lib.hid (H2.out.trans hx); clear hx m0 m1 m2 m3
        cases U with
        | false =>
          go_wp2_with fail
          go_ret
          exact ⟨by rw [HK.out]; rfl, H3.out⟩
        | true =>
          cases t with
          | nil =>
            have hL2 : decide ((1 : Int) < (L : Int)) = false := by have := H.out.2.2.2; simp at this; simp; omega
            go_wp2_with fail
            try simp only [List.append]
            have z0 : ∀ n : In (Ext w3), n.val.cell? ⟨w.heap.size, 0, none⟩ = some (.int .i32 r) := fun n => n.prop.cell l0
            have z1 : ∀ n : In (Ext w3), n.val.cell? ⟨w.heap.size, 1, none⟩ = some (.int .u8 f) := fun n => n.prop.cell l1
            have z2 : ∀ n : In (Ext w3), n.val.cell? ⟨w.heap.size, 2, none⟩ = some (.int .u8 b) := fun n => n.prop.cell l2
            have z3 : ∀ n : In (Ext w3), n.val.cell? ⟨w.heap.size, 3, none⟩ = some (.int .u8 a) := fun n => n.prop.cell l3
            have hne : Nonempty (In (Ext w3)) := in_ext w3
            refine wp_region_class (Ext w3) (by kernel_rfl) (by kernel_rfl) (Ext.refl w3).drew ?_
            clear l0 l1 l2 l3
            repeat (go_big_quiet_step (first
                | (go_at_call 110; exact quiet_ext (fun W _ => HF.out.1 W) _)))
            refine wpQuiet_nil ?_
            rintro _ ⟨n, rfl⟩
            have HN := Lib.hid (H3.out.trans n.prop)
            generalize n.val = w9 at HN ⊢
            clear z0 z1 z2 z3 hne
            go_wp2_with fail
            go_ret
            exact ⟨by rw [HK.out]; simp, HN.out⟩
          | cons y t =>
            have hL2 : decide ((1 : Int) < (L : Int)) = true := by have := H.out.2.2.2; simp at this; simp; omega
            have hL3 : 1 < L := by simp at hL2; omega
            have hat1 := (H.out.1.at' (i := 1) (x := y) rfl).2
            obtain ⟨r', f', b', a'⟩ := y
            rw [Nat.one_mul] at hat1
            have H4 := Lib.hid (hat1.ext H3.out); clear hat1
            go_wp2_with fail
            try simp only [List.append]
            obtain ⟨k0, k1, k2, k3⟩ := H4.out.four
            have z0 : ∀ n : In (Ext w3), n.val.cell? ⟨w.heap.size, 0, none⟩ = some (.int .i32 r) := fun n => n.prop.cell l0
            have z1 : ∀ n : In (Ext w3), n.val.cell? ⟨w.heap.size, 1, none⟩ = some (.int .u8 f) := fun n => n.prop.cell l1
            have z2 : ∀ n : In (Ext w3), n.val.cell? ⟨w.heap.size, 2, none⟩ = some (.int .u8 b) := fun n => n.prop.cell l2
            have z3 : ∀ n : In (Ext w3), n.val.cell? ⟨w.heap.size, 3, none⟩ = some (.int .u8 a) := fun n => n.prop.cell l3
            have y0 : ∀ n : In (Ext w3), n.val.cell? ⟨g, off + 4, none⟩ = some (.int .i32 r') := fun n => n.prop.cell k0
            have y1 : ∀ n : In (Ext w3), n.val.cell? ⟨g, off + 4 + 1, none⟩ = some (.int .u8 f') := fun n => n.prop.cell k1
            have y2 : ∀ n : In (Ext w3), n.val.cell? ⟨g, off + 4 + 2, none⟩ = some (.int .u8 b') := fun n => n.prop.cell k2
            have y3 : ∀ n : In (Ext w3), n.val.cell? ⟨g, off + 4 + 3, none⟩ = some (.int .u8 a') := fun n => n.prop.cell k3
            have hne : Nonempty (In (Ext w3)) := in_ext w3
            refine wp_region_class (Ext w3) (by kernel_rfl) (by kernel_rfl) (Ext.refl w3).drew ?_
            clear l0 l1 l2 l3 k0 k1 k2 k3
            repeat (go_big_quiet_step (first
                | (go_at_call 110; exact quiet_ext (fun W _ => HF.out.1 W) _)))
            refine wpQuiet_nil ?_
            rintro _ ⟨n, rfl⟩
            have HN := Lib.hid (H3.out.trans n.prop)
            generalize n.val = w9 at HN ⊢
            clear z0 z1 z2 z3 y0 y1 y2 y3 hne
            generalize hE : celEq _ _ = E
            have HE2 := Lib.hid hE; clear hE
            cases E with
            | true =>
              have e1 := celEq_true.1 HE2.out
              have HE3 := Lib.hid e1; clear e1
              go_wp2_with fail
              go_ret
              exact ⟨by rw [HK.out, HE3.out]; simp [Cel.tail], HN.out⟩
            | false =>
              have e1 := celEq_false.1 HE2.out
              have HE3 := Lib.hid e1; clear e1
              go_wp2_with fail
              go_ret
              exact ⟨by rw [HK.out, if_neg (by simp), if_neg (by simpa [Cel.tail] using HE3.out)]; rfl, HN.out⟩
end Go.Proofs.YtcmllaeihnmkkaaDoor
namespace Go.Proofs.YtcmllaeihnmkkaaDoor
open Go Go.RowKit

theorem make_one {r : Int} (p : Cel) (h : widthL r = 1) : makeL r p = [⟨r, p.f, p.b, p.a % 64⟩] := by unfold makeL; rw [if_pos h]
theorem make_two {r : Int} (p : Cel) (h : widthL r = 2) : makeL r p = [⟨r, p.f, p.b, p.a % 64 + 64⟩, Cel.tail ⟨r, p.f, p.b, p.a % 64 + 64⟩] := by unfold makeL; rw [if_neg (by omega), if_pos h]
theorem make_none {r : Int} (p : Cel) (h : ¬ widthL r = 1) (h2 : ¬ widthL r = 2) : makeL r p = [] := by unfold makeL; rw [if_neg h, if_neg h2]
theorem make_tail (r f b a : Int) : Cel.tail ⟨r, f, b, a % 64 + 64⟩ = ⟨0, f, b, a % 64 + 128⟩ := by
  unfold Cel.tail
  simp only [Cel.mk.injEq, true_and]
  omega
theorem own_two (w : World) (x y : Cel) : OwnC (w.alloc (.cells #[.int .i32 x.r, .int .u8 x.f, .int .u8 x.b, .int .u8 x.a, .int .i32 y.r, .int .u8 y.f, .int .u8 y.b, .int .u8 y.a] 57)) w.heap.size (.slice (some ⟨w.heap.size, 0, none⟩) 2 2) [x, y] := OwnC.new w [x, y] (by unfold maxLen; simp)
theorem own_one_at (w : World) (x : Cel) (k : Nat) (hk : k = w.heap.size) : OwnC (w.alloc (.cells #[.int .i32 x.r, .int .u8 x.f, .int .u8 x.b, .int .u8 x.a] 57)) k (.slice (some ⟨k, 0, none⟩) 1 1) [x] := by subst hk; exact OwnC.new w [x] (by unfold maxLen; simp)
theorem own_one (w : World) (x : Cel) : OwnC (w.alloc (.cells #[.int .i32 x.r, .int .u8 x.f, .int .u8 x.b, .int .u8 x.a] 57)) w.heap.size (.slice (some ⟨w.heap.size, 0, none⟩) 1 1) [x] := OwnC.new w [x] (by unfold maxLen; simp)
set_option maxHeartbeats 4000000 in
set_option maxRecDepth 100000 in
theorem RefMake_of (r : Int) (p : Cel) (w : World) (hr : isI32 r) (hp : p.ok) : Calls Tryd.prog 51 #[.int .i32 r, p.val] w fun e w' => ∃ v', e = .returned v' ∧ OwnC w' w.heap.size v' (makeL r p) ∧ Ext w w' := by
  obtain ⟨pr, f, b, a⟩ := p
  have h1 := hp.2.2.2
  unfold isU8 at h1
  simp only at h1
  have e0 : a.tmod 64 = a % 64 := Int.tmod_eq_emod_of_nonneg h1.1
  have e1 : (a % 64 + 64) % 256 = a % 64 + 64 := by omega
  have hok1 : Cel.ok ⟨r, f, b, a % 64⟩ := ⟨hr, hp.2.1, hp.2.2.1, by unfold isU8; simp only; omega⟩
  have hok2 : Cel.ok ⟨r, f, b, a % 64 + 64⟩ := ⟨hr, hp.2.1, hp.2.2.1, by unfold isU8; simp only; omega⟩
  have H := Lib.hid (And.intro hr (And.intro hp (And.intro trivial (And.intro hok1 hok2)))); clear hr hp hok1 hok2
  obtain ⟨L, hL⟩ : ∃ L, L = makeL r ⟨pr, f, b, a⟩ := ⟨_, rfl⟩
  rw [← hL]
  have HL := Lib.hid hL; clear hL
  unfold Cel.val
  go_enter Tryd.func51, Tryd.ntmps51
  go_wp2_with fail
  refine (RefWidth_is r _ H.out.1).mono ?_
  rintro e w0 ⟨rfl, rfl⟩
  generalize hV : widthL r = V
  have HV := Lib.hid hV; clear hV
  have hb1 : Blk ((w.alloc (.cells #[.int .i32 pr, .int .u8 f, .int .u8 b, .int .u8 a] 57)).alloc (.cells #[.int .i32 r, .int .u8 f, .int .u8 b, .int .u8 (a % 64)] 57)) (w.heap.size + 1) 57 #[.int .i32 r, .int .u8 f, .int .u8 b, .int .u8 (a % 64)] := heap_two _ _ _
  have hx1 : Ext w ((w.alloc (.cells #[.int .i32 pr, .int .u8 f, .int .u8 b, .int .u8 a] 57)).alloc (.cells #[.int .i32 r, .int .u8 f, .int .u8 b, .int .u8 (a % 64)] 57)) := ((Ext.refl w).alloc _).alloc _
  have HB1 := Lib.hid (And.intro hb1 hx1); clear hb1 hx1
  by_cases v1 : V = 1
  · subst v1
    go_wp2_with fail
    go_ret
    refine ⟨_, rfl, ?_, HB1.out.2.alloc _⟩
    rw [HL.out, make_one _ HV.out]
    exact (own_one_at _ ⟨r, f, b, a % 64⟩ _ (by simp)).low (by omega)
  · have g1 : (V == 1) = false := by simpa using v1
    by_cases v2 : V = 2
    · subst v2
      go_wp2_with fail
      have hb2 : Blk ((w.alloc (.cells #[.int .i32 pr, .int .u8 f, .int .u8 b, .int .u8 a] 57)).alloc (.cells #[.int .i32 r, .int .u8 f, .int .u8 b, .int .u8 (a % 64 + 64)] 57)) (w.heap.size + 1) 57 #[.int .i32 r, .int .u8 f, .int .u8 b, .int .u8 (a % 64 + 64)] := heap_two _ _ _
      have hx2 : Ext w ((w.alloc (.cells #[.int .i32 pr, .int .u8 f, .int .u8 b, .int .u8 a] 57)).alloc (.cells #[.int .i32 r, .int .u8 f, .int .u8 b, .int .u8 (a % 64 + 64)] 57)) := ((Ext.refl w).alloc _).alloc _
      generalize ((w.alloc (.cells #[.int .i32 pr, .int .u8 f, .int .u8 b, .int .u8 a] 57)).alloc (.cells #[.int .i32 r, .int .u8 f, .int .u8 b, .int .u8 (a % 64 + 64)] 57)) = w2 at hb2 hx2 ⊢
      have HB2 := Lib.hid (And.intro hb2 hx2); clear hb2 hx2
      have k0 : w2.cell? ⟨w.heap.size + 1, 0, none⟩ = some (.int .i32 r) := HB2.out.1.cell 0
      have k1 : w2.cell? ⟨w.heap.size + 1, 1, none⟩ = some (.int .u8 f) := HB2.out.1.cell 1
      have k2 : w2.cell? ⟨w.heap.size + 1, 2, none⟩ = some (.int .u8 b) := HB2.out.1.cell 2
      have k3 : w2.cell? ⟨w.heap.size + 1, 3, none⟩ = some (.int .u8 (a % 64 + 64)) := HB2.out.1.cell 3
      have FT : ∀ W, Calls Tryd.prog 62 #[.agg #[.int .i32 r, .int .u8 f, .int .u8 b, .int .u8 (a % 64 + 64)]] W fun e w' => e = .returned (.agg #[.int .i32 0, .int .u8 f, .int .u8 b, .int .u8 (a % 64 + 128)]) ∧ Ext W w' := fun W => by
        have := RefTail_of ⟨r, f, b, a % 64 + 64⟩ W H.out.2.2.2.2
        rw [make_tail] at this
        exact this
      have HFT := Lib.hid FT; clear FT
      go_region_with (go_at_call 62; refine (HFT.out _).mono ?_; rintro e w3 ⟨rfl, hx3⟩; have HX3 := Lib.hid (HB2.out.2.drew.trans hx3); have p0 := hx3.cell (w := w2.drew) k0; have p1 := hx3.cell (w := w2.drew) k1; have p2 := hx3.cell (w := w2.drew) k2; have p3 := hx3.cell (w := w2.drew) k3; clear hx3)
      all_goals
        go_wp2_with fail
        go_ret
        refine ⟨_, rfl, ?_, HX3.out.alloc _⟩
        rw [HL.out, make_two _ HV.out, make_tail]
        exact (own_two w3 ⟨r, f, b, a % 64 + 64⟩ ⟨0, f, b, a % 64 + 128⟩).low HX3.out.size
    · have g2 : (V == 2) = false := by simpa using v2
      go_wp2_with fail
      go_ret
      refine ⟨_, rfl, ?_, HB1.out.2⟩
      rw [HL.out, make_none _ (by rw [HV.out]; exact v1) (by rw [HV.out]; exact v2)]
      exact OwnC.nil _ _
set_option maxHeartbeats 4000000 in
set_option maxRecDepth 100000 in
theorem both_of (c : Cel) (w : World) (hc : c.ok) : Calls Tryd.prog 55 #[c.val] w fun e w' => ∃ v', e = .returned v' ∧ OwnC w' w.heap.size v' (if c.wide then [c, c.tail] else [c]) ∧ Ext w w' := by
  obtain ⟨r, f, b, a⟩ := c
  have hW := fun W => isWide_of ⟨r, f, b, a⟩ W hc
  have H := Lib.hid (And.intro hc hW); clear hc hW
  generalize hU : Cel.wide ⟨r, f, b, a⟩ = U at H ⊢
  clear hU
  have FT : ∀ W, Calls Tryd.prog 110 #[.agg #[.int .i32 r, .int .u8 f, .int .u8 b, .int .u8 a]] W fun e w' => e = .returned (.agg #[.int .i32 0, .int .u8 f, .int .u8 b, .int .u8 (a % 64 + 128)]) ∧ Ext W w' := fun W => tail_of ⟨r, f, b, a⟩ W H.out.1
  have HFT := Lib.hid FT; clear FT
  unfold Cel.val
  go_enter Tryd.func55, Tryd.ntmps55
  go_wp2_with fail
  refine (H.out.2 _).mono ?_
  rintro e w1 ⟨rfl, hx⟩
  obtain ⟨k0, k1, k2, k3⟩ := ((CelAt.new w ⟨r, f, b, a⟩).ext hx).four0
  have HX := Lib.hid (((Ext.refl w).alloc _).trans hx); clear hx
  cases U with
  | false =>
    go_wp2_with fail
    go_ret
    exact ⟨_, rfl, (own_one w1 ⟨r, f, b, a⟩).low HX.out.size, HX.out.alloc _⟩
  | true =>
    go_wp2_with fail
    go_region_with (go_at_call 110; refine (HFT.out _).mono ?_; rintro e w3 ⟨rfl, hx3⟩; have HX3 := Lib.hid (HX.out.drew.trans hx3); have p0 := hx3.cell (w := w1.drew) k0; have p1 := hx3.cell (w := w1.drew) k1; have p2 := hx3.cell (w := w1.drew) k2; have p3 := hx3.cell (w := w1.drew) k3; clear hx3)
    all_goals
      go_wp2_with fail
      go_ret
      exact ⟨_, rfl, (own_two w3 ⟨r, f, b, a⟩ ⟨0, f, b, a % 64 + 128⟩).low HX3.out.size, HX3.out.alloc _⟩
end Go.Proofs.YtcmllaeihnmkkaaDoor
namespace Go.Proofs.YtcmllaeihnmkkaaDoor
open Go Go.RowKit

/-- A run as it stands: how often less 1, the cell, the place behind it, the code. -/
structure RunAt where
  k : Int
  c : Cel
  p : Nat
  e : Int
def runAt (s : ByteArray) (p : Nat) (e : Int) : RunAt :=
  let a := numF s p e 0 4095
  let b := numF s a.2.1 a.2.2 0 1114111
  let f := numF s b.2.1 b.2.2 0 255
  let g := numF s f.2.1 f.2.2 0 255
  let h := numF s g.2.1 g.2.2 0 255
  ⟨a.1, ⟨b.1, f.1, g.1, h.1⟩, h.2.1, h.2.2⟩
theorem runAt_ok (s : ByteArray) (p : Nat) (e : Int) (hp : p ≤ s.size) (he : okC e) : (runAt s p e).p ≤ s.size ∧ okC (runAt s p e).e ∧ 0 ≤ (runAt s p e).k ∧ (runAt s p e).k ≤ 4095 ∧ (runAt s p e).c.ok := by
  have i1 := numF_ok s p e 0 4095 hp he
  have r1 := numF_range s p e 4095 (by omega)
  have i2 := numF_ok s _ _ 0 1114111 i1.1 i1.2
  have r2 := numF_range s (numF s p e 0 4095).2.1 (numF s p e 0 4095).2.2 1114111 (by omega)
  have i3 := numF_ok s _ _ 0 255 i2.1 i2.2
  have r3 : ∀ q d, isU8 (numF s q d 0 255).1 := fun q d => by have := numF_range s q d 255 (by omega); unfold isU8; omega
  have i4 := numF_ok s _ _ 0 255 i3.1 i3.2
  have i5 := numF_ok s _ _ 0 255 i4.1 i4.2
  refine ⟨i5.1, i5.2, r1.1, r1.2, ?_, r3 _ _, r3 _ _, r3 _ _⟩
  unfold isI32
  show -2147483648 ≤ (numF s (numF s p e 0 4095).2.1 (numF s p e 0 4095).2.2 0 1114111).1 ∧ (numF s (numF s p e 0 4095).2.1 (numF s p e 0 4095).2.2 0 1114111).1 ≤ 2147483647
  omega
theorem readRun_at (W : World) (g : Nat) (s : ByteArray) (p : Nat) (c : Int) (hs : s.size ≤ 1000000) (hp : p ≤ s.size) (hc : okC c) (h : RowAt W g s p c) :
    Calls Tryd.prog 54 #[.pointer (some ⟨g, 0, none⟩)] W fun e w' => e = .returned (.tuple #[.int .i64 (1 + (runAt s p c).k), .agg #[.int .i32 (runAt s p c).c.r, .int .u8 (runAt s p c).c.f, .int .u8 (runAt s p c).c.b, .int .u8 (runAt s p c).c.a]]) ∧ RowAt w' g s (runAt s p c).p (runAt s p c).e ∧ Only g W w' :=
  readRun_all W g s p c hs hp hc h _ _ _ _ _ _ _ _ _ _ _ _ _ _ _ rfl rfl rfl rfl rfl
/-- The cells of a run's one. -/
def bothL (c : Cel) : List Cel := if c.wide then [c, c.tail] else [c]
theorem bothL_len (c : Cel) : (bothL c).length = c.step := by unfold bothL Cel.step; split <;> rfl
theorem bothL_ok {c : Cel} (h : c.ok) : ∀ x, x ∈ bothL c → x.ok := by
  intro x hx
  unfold bothL at hx
  split at hx
  · rcases List.mem_cons.1 hx with rfl | hx
    · exact h
    · rw [List.mem_singleton.1 hx]; exact Cel.ok_tail h
  · rw [List.mem_singleton.1 hx]; exact h
/-- So many times. -/
def timesL (n : Nat) (l : List Cel) : List Cel := (List.replicate n l).flatten
theorem timesL_zero (l : List Cel) : timesL 0 l = [] := rfl
theorem timesL_succ (n : Nat) (l : List Cel) : timesL (n + 1) l = timesL n l ++ l := by
  unfold timesL
  rw [List.replicate_succ', List.flatten_append]; simp
theorem timesL_len (n : Nat) (l : List Cel) : (timesL n l).length = n * l.length := by
  induction n with
  | zero => simp [timesL_zero]
  | succ n ih => rw [timesL_succ, List.length_append, ih, Nat.add_mul, Nat.one_mul]
theorem timesL_mem {n : Nat} {l : List Cel} {x : Cel} (h : x ∈ timesL n l) : x ∈ l := by
  induction n with
  | zero => rw [timesL_zero] at h; cases h
  | succ n ih =>
    rw [timesL_succ] at h
    rcases List.mem_append.1 h with h | h
    · exact ih h
    · exact h
/-- May a run not stand here? -/
def badRun (n : Nat) (out : List Cel) (ah : Cel) (k : Int) (c : Cel) : Bool := !c.check || c.tl || decide (c = ah) || decide ((n : Int) < out.length + (k + 1) * c.step)
/-- What is read: the row, where the row of bytes then stands, and its code. -/
def readGo (s : ByteArray) (n : Nat) : Nat → List Cel → Cel → Nat → List Cel × Nat × Int
  | 0, out, _, p => (out, p, 0)
  | fu + 1, out, ah, p =>
    if out.length < n then
      if (runAt s p 0).e = 0 then
        if badRun n out ah (runAt s p 0).k (runAt s p 0).c then ([], (runAt s p 0).p, 10)
        else readGo s n fu (out ++ timesL ((runAt s p 0).k + 1).toNat (bothL (runAt s p 0).c)) (runAt s p 0).c (runAt s p 0).p
      else ([], (runAt s p 0).p, (runAt s p 0).e)
    else (out, p, 0)
theorem OwnC.only {w w' : World} {base d : Nat} {v : Value} {l : List Cel} (h : OwnC w base v l) (hx : Only d w w') (hd : d < base) : OwnC w' base v l := own_kept4 h fun g hb hg => hx.block g (by omega) hg
def Cel.zero : Cel := ⟨0, 0, 0, 0⟩
/-- cell.Read of a row that has not failed. -/
def readC (s : ByteArray) (n : Int) : List Cel × Nat × Int := if n < 0 ∨ 4096 < n then ([], 0, 1) else readGo s n.toNat n.toNat [] Cel.zero 0
theorem zero_check : Cel.zero.check = false := by decide
/-- A round of the reading. -/
theorem readGo_done (s : ByteArray) (n fu : Nat) (out : List Cel) (ah : Cel) (p : Nat) (h : ¬ out.length < n) : readGo s n fu out ah p = (out, p, 0) := by
  cases fu with
  | zero => rfl
  | succ fu => unfold readGo; rw [if_neg h]
theorem readGo_fail (s : ByteArray) (n fu : Nat) (out : List Cel) (ah : Cel) (p : Nat) (h : out.length < n) (hf : n ≤ out.length + fu) (he : ¬ (runAt s p 0).e = 0) : readGo s n fu out ah p = ([], (runAt s p 0).p, (runAt s p 0).e) := by
  cases fu with
  | zero => omega
  | succ fu => unfold readGo; rw [if_pos h, if_neg he]
theorem readGo_bad (s : ByteArray) (n fu : Nat) (out : List Cel) (ah : Cel) (p : Nat) (h : out.length < n) (hf : n ≤ out.length + fu) (he : (runAt s p 0).e = 0) (hb : badRun n out ah (runAt s p 0).k (runAt s p 0).c = true) : readGo s n fu out ah p = ([], (runAt s p 0).p, 10) := by
  cases fu with
  | zero => omega
  | succ fu => unfold readGo; rw [if_pos h, if_pos he, if_pos hb]
theorem readGo_step (s : ByteArray) (n fu : Nat) (out : List Cel) (ah : Cel) (p : Nat) (h : out.length < n) (he : (runAt s p 0).e = 0) (hb : badRun n out ah (runAt s p 0).k (runAt s p 0).c = false) :
    readGo s n (fu + 1) out ah p = readGo s n fu (out ++ timesL ((runAt s p 0).k + 1).toNat (bothL (runAt s p 0).c)) (runAt s p 0).c (runAt s p 0).p := by
  conv => lhs; unfold readGo
  rw [if_pos h, if_pos he, hb]
  rfl
end Go.Proofs.YtcmllaeihnmkkaaDoor
