/- How many cells the character has that a row begins with: cell.whole. -/
import Derived.Test.YtckdchkegbdiaaaDoorCelRow
import Derived.Test.YtckdchkegbdiaaaDoorClass
namespace Go.Proofs.YtckdchkegbdiaaaDoor
open Go Go.RowKit
attribute [local go_sem 10000] eq_cel

theorem CelAt.four {w : World} {g o : Nat} {r f b a : Int} (h : CelAt w g o ⟨r, f, b, a⟩) : w.cell? ⟨g, o, none⟩ = some (.int .i32 r) ∧ w.cell? ⟨g, o + 1, none⟩ = some (.int .u8 f) ∧ w.cell? ⟨g, o + 2, none⟩ = some (.int .u8 b) ∧ w.cell? ⟨g, o + 3, none⟩ = some (.int .u8 a) :=
  ⟨h 0 _ rfl, h 1 _ rfl, h 2 _ rfl, h 3 _ rfl⟩
theorem CelAt.four0 {w : World} {g : Nat} {r f b a : Int} (h : CelAt w g 0 ⟨r, f, b, a⟩) : w.cell? ⟨g, 0, none⟩ = some (.int .i32 r) ∧ w.cell? ⟨g, 1, none⟩ = some (.int .u8 f) ∧ w.cell? ⟨g, 2, none⟩ = some (.int .u8 b) ∧ w.cell? ⟨g, 3, none⟩ = some (.int .u8 a) :=
  ⟨h 0 _ rfl, h 1 _ rfl, h 2 _ rfl, h 3 _ rfl⟩
/-- In the class of the worlds that lie behind one. -/
theorem quiet_ext {P : Program} {w0 : World} {f : FuncId} {args : Array Value} {v : Value} (h : ∀ W, Ext w0 W → Calls P f args W fun e w' => e = .returned v ∧ Ext W w') (n : In (Ext w0)) :
    Calls P f args n.val fun e w'' => e = .returned v ∧ ∃ m : In (Ext w0), w'' = m.val :=
  quiet_class (Z := Ext w0) (fun W hW => (h W hW).mono fun _ _ ⟨he, hx⟩ => ⟨he, hW.trans hx⟩) n
theorem in_ext (w0 : World) : Nonempty (In (Ext w0)) := ⟨⟨_, Ext.refl w0⟩⟩
set_option maxHeartbeats 4000000 in
set_option maxRecDepth 100000 in
theorem whole_of (l : List Cel) (v : Value) (w : World) (hv : IsCells w v l) (hn : 0 < l.length) (hS : Spans w) : Calls Tryd.prog 60 #[v] w fun e w' => e = .returned (.int .i64 (wholeL l)) ∧ Ext w w' := by
  obtain ⟨A, c, rfl, hlc, _⟩ := hv.form
  obtain ⟨g, off, rfl⟩ := hv.addr hn
  cases l with
  | nil => simp at hn
  | cons x t =>
    have hat := hv.at' (i := 0) (x := x) rfl
    rw [Nat.zero_mul, Nat.add_zero] at hat
    obtain ⟨hok, hat⟩ := hat
    obtain ⟨r, f, b, a⟩ := x
    generalize hL : (Cel.mk r f b a :: t).length = L at hlc ⊢
    have H := Lib.hid (And.intro hv (And.intro hok (And.intro hS hL)))
    have hL1 : 0 < L := by rw [← hL]; simp
    clear hv hok hS hL hn
    obtain ⟨a0, a1, a2, a3⟩ := hat.four
    obtain ⟨K, hK⟩ : ∃ K, K = wholeL (⟨r, f, b, a⟩ :: t) := ⟨_, rfl⟩
    rw [← hK]
    rw [wholeL_cons] at hK
    unfold Cel.plain Cel.opens at hK
    have HK0 := Lib.hid hK; clear hK
    go_enter Tryd.func60, Tryd.ntmps60
    go_wp2_with fail
    refine (Check_of ⟨r, f, b, a⟩ _ H.out.2.1 (H.out.2.2.1.ext ((Ext.refl w).alloc _))).mono ?_
    rintro e w1 ⟨rfl, hx⟩
    obtain ⟨l0, l1, l2, l3⟩ := ((CelAt.new w ⟨r, f, b, a⟩).ext hx).four0
    have HC := Lib.hid ((CelAt.new w ⟨r, f, b, a⟩).ext hx)
    have H1 := Lib.hid (((Ext.refl w).alloc _).trans hx); clear hx
    have hK := HK0.out; clear HK0
    have TW : ∀ W, Calls Tryd.prog 36 #[.agg #[.int .i32 r, .int .u8 f, .int .u8 b, .int .u8 a]] W fun e w' => e = .returned (.agg #[.int .i32 0, .int .u8 f, .int .u8 b, .int .u8 (a % 64 + 128)]) ∧ Ext W w' := fun W => tail_of ⟨r, f, b, a⟩ W H.out.2.1
    have IT := fun W => isTail_of ⟨r, f, b, a⟩ W H.out.2.1
    have IW := fun W => isWide_of ⟨r, f, b, a⟩ W H.out.2.1
    have HF := Lib.hid (And.intro TW (And.intro IT IW)); clear TW IT IW
    have hq0 : Cel.check ⟨r, f, b, a⟩ = true → Cel.tl ⟨r, f, b, a⟩ = true → Cel.wide ⟨r, f, b, a⟩ = false := by
      intro h1 h2
      unfold Cel.check at h1
      rw [h2] at h1
      simp at h1
      exact h1.1
    have HQ := Lib.hid hq0; clear hq0
    generalize hq1 : Cel.check ⟨r, f, b, a⟩ = C at hK HQ ⊢
    generalize hq2 : Cel.tl ⟨r, f, b, a⟩ = T at hK HF HQ
    generalize hq3 : Cel.wide ⟨r, f, b, a⟩ = U at hK HF HQ
    have HK := Lib.hid hK; clear hK
    clear hq1 hq2 hq3 a0 a1 a2 a3
    cases C with
    | false =>
      go_wp2_with fail
      go_ret
      exact ⟨by rw [HK.out]; rfl, H1.out⟩
    | true =>
      go_wp2_with fail
      refine (HF.out.2.1 _).mono ?_
      rintro e w2 ⟨rfl, hx⟩
      obtain ⟨m0, m1, m2, m3⟩ := (HC.out.ext hx).four0
      have HD := Lib.hid (HC.out.ext hx)
      have H2 := Lib.hid (H1.out.trans hx); clear hx l0 l1 l2 l3
      cases T with
      | true =>
        go_wp2_with fail
        go_ret
        exact ⟨by rw [HK.out, (by simpa using HQ.out : U = false)]; rfl, H2.out⟩
      | false =>
        go_wp2_with fail
        refine (HF.out.2.2 _).mono ?_
        rintro e w3 ⟨rfl, hx⟩
        obtain ⟨l0, l1, l2, l3⟩ := (HD.out.ext hx).four0
        have HE := Lib.hid (HD.out.ext hx)
        have H3 := Lib.hid (H2.out.trans hx); clear hx m0 m1 m2 m3
        cases U with
        | false =>
          go_wp2_with fail
          go_ret
          exact ⟨by rw [HK.out]; rfl, H3.out⟩
        | true =>
          cases t with
          | nil =>
            have hL2 : decide ((1 : Int) < (L : Int)) = false := by have := H.out.2.2.2; simp at this; simp; omega
            go_wp2_with fail
            try simp only [List.append]
            have z0 : ∀ n : In (Ext w3), n.val.cell? ⟨w.heap.size, 0, none⟩ = some (.int .i32 r) := fun n => n.prop.cell l0
            have z1 : ∀ n : In (Ext w3), n.val.cell? ⟨w.heap.size, 1, none⟩ = some (.int .u8 f) := fun n => n.prop.cell l1
            have z2 : ∀ n : In (Ext w3), n.val.cell? ⟨w.heap.size, 2, none⟩ = some (.int .u8 b) := fun n => n.prop.cell l2
            have z3 : ∀ n : In (Ext w3), n.val.cell? ⟨w.heap.size, 3, none⟩ = some (.int .u8 a) := fun n => n.prop.cell l3
            have hne : Nonempty (In (Ext w3)) := in_ext w3
            refine wp_region_class (Ext w3) (by kernel_rfl) (by kernel_rfl) (Ext.refl w3).drew ?_
            clear l0 l1 l2 l3
            repeat (go_big_quiet_step (first
                | (go_at_call 36; exact quiet_ext (fun W _ => HF.out.1 W) _)))
            refine wpQuiet_nil ?_
            rintro _ ⟨n, rfl⟩
            have HN := Lib.hid (H3.out.trans n.prop)
            generalize n.val = w9 at HN ⊢
            clear z0 z1 z2 z3 hne
            go_wp2_with fail
            go_ret
            exact ⟨by rw [HK.out]; simp, HN.out⟩
          | cons y t =>
            have hL2 : decide ((1 : Int) < (L : Int)) = true := by have := H.out.2.2.2; simp at this; simp; omega
            have hL3 : 1 < L := by simp at hL2; omega
            have hat1 := (H.out.1.at' (i := 1) (x := y) rfl).2
            obtain ⟨r', f', b', a'⟩ := y
            rw [Nat.one_mul] at hat1
            have H4 := Lib.hid (hat1.ext H3.out); clear hat1
            go_wp2_with fail
            try simp only [List.append]
            obtain ⟨k0, k1, k2, k3⟩ := H4.out.four
            have z0 : ∀ n : In (Ext w3), n.val.cell? ⟨w.heap.size, 0, none⟩ = some (.int .i32 r) := fun n => n.prop.cell l0
            have z1 : ∀ n : In (Ext w3), n.val.cell? ⟨w.heap.size, 1, none⟩ = some (.int .u8 f) := fun n => n.prop.cell l1
            have z2 : ∀ n : In (Ext w3), n.val.cell? ⟨w.heap.size, 2, none⟩ = some (.int .u8 b) := fun n => n.prop.cell l2
            have z3 : ∀ n : In (Ext w3), n.val.cell? ⟨w.heap.size, 3, none⟩ = some (.int .u8 a) := fun n => n.prop.cell l3
            have y0 : ∀ n : In (Ext w3), n.val.cell? ⟨g, off + 4, none⟩ = some (.int .i32 r') := fun n => n.prop.cell k0
            have y1 : ∀ n : In (Ext w3), n.val.cell? ⟨g, off + 4 + 1, none⟩ = some (.int .u8 f') := fun n => n.prop.cell k1
            have y2 : ∀ n : In (Ext w3), n.val.cell? ⟨g, off + 4 + 2, none⟩ = some (.int .u8 b') := fun n => n.prop.cell k2
            have y3 : ∀ n : In (Ext w3), n.val.cell? ⟨g, off + 4 + 3, none⟩ = some (.int .u8 a') := fun n => n.prop.cell k3
            have hne : Nonempty (In (Ext w3)) := in_ext w3
            refine wp_region_class (Ext w3) (by kernel_rfl) (by kernel_rfl) (Ext.refl w3).drew ?_
            clear l0 l1 l2 l3 k0 k1 k2 k3
            repeat (go_big_quiet_step (first
                | (go_at_call 36; exact quiet_ext (fun W _ => HF.out.1 W) _)))
            refine wpQuiet_nil ?_
            rintro _ ⟨n, rfl⟩
            have HN := Lib.hid (H3.out.trans n.prop)
            generalize n.val = w9 at HN ⊢
            clear z0 z1 z2 z3 y0 y1 y2 y3 hne
            generalize hE : celEq _ _ = E
            have HE2 := Lib.hid hE; clear hE
            cases E with
            | true =>
              have e1 := celEq_true.1 HE2.out
              have HE3 := Lib.hid e1; clear e1
              go_wp2_with fail
              go_ret
              exact ⟨by rw [HK.out, HE3.out]; simp [Cel.tail], HN.out⟩
            | false =>
              have e1 := celEq_false.1 HE2.out
              have HE3 := Lib.hid e1; clear e1
              go_wp2_with fail
              go_ret
              exact ⟨by rw [HK.out, if_neg (by simp), if_neg (by simpa [Cel.tail] using HE3.out)]; rfl, HN.out⟩
end Go.Proofs.YtckdchkegbdiaaaDoor
