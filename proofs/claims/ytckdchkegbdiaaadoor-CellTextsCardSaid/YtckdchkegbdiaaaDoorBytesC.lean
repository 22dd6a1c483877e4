/- A right row as bytes: cell.Bytes. -/
import Derived.Test.YtckdchkegbdiaaaDoorRunsIt
import Derived.Test.YtckdchkegbdiaaaDoorBuildC
namespace Go.Proofs.YtckdchkegbdiaaaDoor
open Go Go.RowKit Go.Shelf
attribute [local go_sem] Oper.semAt_some

theorem byte_put (l : List (Nat × Cel)) (i : Nat) (c : Cel) : runsB (l ++ [(i, c)]) = runsB l ++ putN [(i : Int) - 1, c.r, c.f, c.b, c.a] := by rw [runsB_append, runsB_one]; rfl
theorem runsB_len : ∀ (l : List (Nat × Cel)), (∀ x, x ∈ l → x.2.ok ∧ 1 ≤ x.1 ∧ x.1 ≤ 1000000) → (runsB l).length ≤ 50 * l.length
  | [], _ => by simp [runsB]
  | p :: l, h => by
    rw [runsB_cons, List.length_append, List.length_cons]
    have h1 := runsB_len l (fun x hx => h x (List.mem_cons_of_mem _ hx))
    obtain ⟨⟨h2, h3, h4, h5⟩, h6, h7⟩ := h p (List.mem_cons_self ..)
    have h8 : (runB p).length ≤ 50 := putN_len [(p.1 : Int) - 1, p.2.r, p.2.f, p.2.b, p.2.a] (fun z hz => by
      have h9 : z = (p.1 : Int) - 1 ∨ z = p.2.r ∨ z = p.2.f ∨ z = p.2.b ∨ z = p.2.a := by simpa using hz
      unfold isI32 at h2
      unfold isU8 at h3 h4 h5
      unfold isI64; omega)
    omega
set_option maxHeartbeats 4000000 in
set_option maxRecDepth 100000 in
theorem BytesC_in (n : Nat) (hn : 8 ≤ n) (l : List Cel) (v : Value) (w : World) (hv : IsCells w v l) (hS : Spans w) (hm : l.length ≤ 1000) :
    CallsIn Fence.wide n Tryd.prog 28 #[v] w fun e w' => e = .returned (.string ⟨(bytesL l).toArray⟩) ∧ Ext w w' := by
  obtain ⟨A, c, rfl, hlc, hA⟩ := hv.form
  have H := Lib.hid (And.intro hv (And.intro hS hm)); clear hv hS hA
  refine callsIn_of_wp_marks Tryd.func28 rfl trivial ?_ rfl
  simp only [Tryd.ntmps28, List.size_toArray, List.length_cons, List.length_nil, Nat.reduceAdd, Nat.reduceSub, Array.replicate_succ, Array.replicate_zero, List.push_toArray, List.append_toArray, List.nil_append, List.cons_append]
  gi_wp2_with fail
  refine ⟨trivial, fun _ => by omega, (callsIn_wide.2 (Right_of l _ w H.out.1 H.out.2.1 (Nat.le_trans H.out.2.2 (by decide)))).mono ?_⟩
  rintro e w2 ⟨rfl, hx⟩
  have HX := Lib.hid hx; clear hx
  generalize hR : rightL l = R
  have HR := Lib.hid hR; clear hR
  cases R with
  | false =>
    have hb : bytesL l = [] := by unfold bytesL; rw [HR.out]; rfl
    have HB := Lib.hid hb; clear hb
    gi_wp2
    refine ⟨_, results_tmp rfl _ _ _, ?_⟩
    exact ⟨by rw [HB.out]; rfl, HX.out⟩
  | true =>
    have hb : bytesL l = runsB (runsL l) := by unfold bytesL; rw [HR.out]; rfl
    have HB := Lib.hid hb; clear hb
    gi_wp2_with fail
    refine ⟨trivial, fun _ => by omega, (callsIn_wide.2 (runs_of _ _ _ _)).mono ?_⟩
    rintro e w' ⟨rfl, rfl⟩
    gi_wp2
    have HZ := Lib.hid (Ext.trans HX.out (((Ext.refl w2).alloc (.cells #[.pointer none, .slice none 0 0] 81)).alloc (.cells #[.slice A l.length c] 22)))
    have hB0 := IsB.ext ((Ext.refl _).alloc (.cells #[.slice A l.length c] 22)) (IsB.fresh w2)
    have hx0 : Ext w2 ((w2.alloc (.cells #[.pointer none, .slice none 0 0] 81)).alloc (.cells #[.slice A l.length c] 22)) := ((Ext.refl w2).alloc _).alloc _
    have hbox : ((w2.alloc (.cells #[.pointer none, .slice none 0 0] 81)).alloc (.cells #[.slice A l.length c] 22)).heap[w2.heap.size + 1]? = some (.cells #[.slice A l.length c] 22 (0, 0)) := heap_two _ _ _
    have hsz : ((w2.alloc (.cells #[.pointer none, .slice none 0 0] 81)).alloc (.cells #[.slice A l.length c] 22)).heap.size = w2.heap.size + 2 := by simp
    generalize ((w2.alloc (.cells #[.pointer none, .slice none 0 0] 81)).alloc (.cells #[.slice A l.length c] 22)) = w3 at hB0 hx0 hbox hsz ⊢
    generalize hbb : w2.heap.size = bb at hB0 hbox hsz ⊢
    have HBB := Lib.hid hbb; clear hbb
    have hput : ∀ (W : World) (k : Nat) (o o' : Obj), Ext w2 W → w3.heap.size ≤ k → W.heap[k]? = some o → o.isCells = false → Ext w2 (W.putObj k o') := fun W k o o' h hk ho hc =>
      Below.grown h (grownBy_putObj' W k o') h.size (fun j e => by cases e; rw [HBB.out]; omega)
    refine wpIn_range_on rfl (by omega) (gf := 77) (lb := #[.pointer (some ⟨bb + 1, 0, none⟩)]) rfl trivial (enters_of Tryd.func77 (by kernel_rfl) rfl)
      runV (fun _ => rfl) (runsL l) (fun U V => V.heap[bb + 1]? = U.heap[bb + 1]?) (fun _ _ _ h k => k.trans h) (fun W k o' hk => World.putObj_heap_other (by omega))
      (fun pre W => IsB bb bb (runsB pre) W ∧ Ext w2 W ∧ ∃ u, W.heap[bb + 1]? = some (.cells #[u] 22 (0, 0)))
      (fun pre x a' W => ∃ Bx, bb + 2 ≤ Bx ∧ a' = { tmps := #[.slice A l.length c, undef, .string ⟨#[]⟩, .pointer (some ⟨bb, 0, none⟩), .int .i64 x.1, .pointer (some ⟨Bx, 0, none⟩), .slice A l.length c, .bool true, .bool false, .slice A l.length c, .func (.func 77) #[] #[.pointer (some ⟨bb + 1, 0, none⟩)], .int .i64 x.1, x.2.val, undef, undef, undef, undef, undef, undef, undef, undef, undef, undef, undef, undef, undef, undef, undef, undef, undef, undef], defers := [] } ∧
        Blk W Bx 25 x.2.cells.toArray ∧ (IsB bb bb (runsB pre) W ∧ Ext w2 W ∧ ∃ u, W.heap[bb + 1]? = some (.cells #[u] 22 (0, 0))))
      ?hI ?hM ?h0 ?hseq ?hassign ?hbody ?hdone
    case hI => exact fun pre W k o o' h hk ho hc => ⟨h.1.put ho hc o', hput W k o o' h.2.1 hk ho hc, by obtain ⟨u, hu⟩ := h.2.2; exact ⟨u, (World.putObj_heap_other (by omega)).trans hu⟩⟩
    case hM =>
      rintro pre x a' W k o o' ⟨Bx, h1, h2, h3, h4, h5, h6⟩ hk ho hc
      refine ⟨Bx, h1, h2, ?_, h4.put ho hc o', hput W k o o' h5 hk ho hc, by obtain ⟨u, hu⟩ := h6; exact ⟨u, (World.putObj_heap_other (by omega)).trans hu⟩⟩
      refine (World.putObj_heap_other (fun e => ?_)).trans h3
      subst e
      have h3' : W.heap[Bx]? = _ := h3
      rw [ho] at h3'
      injection h3' with h3'
      subst h3'
      cases hc
    case h0 => exact fun o1 o2 => ⟨hB0.ext (((Ext.refl _).alloc _).alloc _), hx0.trans (((Ext.refl _).alloc _).alloc _), _, ((((Ext.refl w3).alloc o1).alloc o2).block _ (by omega)).trans hbox⟩
    case hseq =>
      intro ll R W hxW hR hY hI0 hR0
      refine (runs1_in (n - 1) (by omega) ll (bb + 1) w2 _ l (fun pre W => (IsB bb bb (runsB pre) W ∧ Ext w2 W ∧ ∃ u, W.heap[bb + 1]? = some (.cells #[u] 22 (0, 0))) ∧ R W) (H.out.1.ext HX.out) HR.out (by have := H.out.2.2; omega) (H.out.2.1.ext HX.out) ?_ ?_ (fun pre A h => h.1.2.1) (by rw [HBB.out]; omega) (fun pre x W1 h hr => (hY pre x W1 h.1 h.2 hr).mono fun e W' ⟨h1, h2, h3, h4⟩ => ⟨h1, ⟨h2, h3⟩, h4⟩) W ((hxW.block _ (Array.getElem?_eq_some_iff.1 hbox).1).trans hbox) ⟨hI0, hR0⟩).mono fun e W' ⟨h1, h2⟩ => ⟨h1, h2.1, h2.2⟩
      · exact fun pre U V h hx => ⟨⟨h.1.1.ext hx, h.1.2.1.trans hx, by obtain ⟨u, hu⟩ := h.1.2.2; exact ⟨u, (hx.block _ (Array.getElem?_eq_some_iff.1 hu).1).trans hu⟩⟩, hR _ _ h.2 (Held.ext hx)⟩
      · exact fun pre U u u' h hu => ⟨⟨h.1.1.set hu (by decide) (by decide) 0 u', h.1.2.1.setCell (p := ⟨bb + 1, 0, none⟩) (by show w2.heap.size ≤ bb + 1; rw [HBB.out]; omega) u', u', set_box hu u'⟩, hR _ _ h.2 (Held.only (Only.setCell (Only.refl (bb + 1) U) u') (by omega))⟩
    case hassign =>
      rintro ll pre x W ⟨h1, h2, u, hu⟩ hr
      obtain ⟨i, c'⟩ := x
      have h3 : bb + 2 ≤ W.heap.size := (Array.getElem?_eq_some_iff.1 hu).1
      dsimp only [runV, Cel.val]
      gi_wp2
      have hx4 := (Ext.refl W).alloc (.cells #[.int .i32 c'.r, .int .u8 c'.f, .int .u8 c'.b, .int .u8 c'.a] 25)
      exact ⟨Held.ext hx4, hx4.block _ (by omega), W.heap.size, h3, rfl, Go.heap_alloc_new _ _, h1.ext hx4, h2.trans hx4, u, (hx4.block _ (by omega)).trans hu⟩
    case hbody =>
      rintro ll pre x a' W ⟨Bx, hBx, rfl, hblk, h1, h2, h3⟩ ⟨rest, hr⟩
      obtain ⟨i, c'⟩ := x
      have hmem := runs_mem l.length l (Nat.le_refl _) (i, c') (by rw [hr]; simp)
      have hok := H.out.1.all _ hmem.1
      obtain ⟨r, f, b, a⟩ := c'
      have hl1 := H.out.2.2
      have hi1 := hmem.2.1
      have hi2 := hmem.2.2
      simp only at hi1 hi2
      have o1 := hok.1
      have o2 := hok.2.1
      have o3 := hok.2.2.1
      have o4 := hok.2.2.2
      unfold isI32 at o1
      unfold isU8 at o2 o3 o4
      simp only at o1 o2 o3 o4
      have k0 : W.cell? ⟨Bx, 0, none⟩ = some (.int .i32 r) := hblk.cell 0
      have k1 : W.cell? ⟨Bx, 1, none⟩ = some (.int .u8 f) := hblk.cell 1
      have k2 : W.cell? ⟨Bx, 2, none⟩ = some (.int .u8 b) := hblk.cell 2
      have k3 : W.cell? ⟨Bx, 3, none⟩ = some (.int .u8 a) := hblk.cell 3
      have HW := Lib.hid (And.intro h1 (And.intro h2 (And.intro h3 (And.intro hblk hmem)))); clear h1 h2 h3 hblk hmem hok
      dsimp only [Cel.val]
      gi_wp2_with fail
      refine ⟨trivial, fun _ => by omega, (CallsIn.inRound ll (callsIn_wide.2 (Put_ints [(i : Int) - 1, r, f, b, a] _ _ (ints_new W [(i : Int) - 1, r, f, b, a] 3 (fun z hz => by
        have h5 : z = (i : Int) - 1 ∨ z = r ∨ z = f ∨ z = b ∨ z = a := by simpa using hz
        unfold isI64; omega)) (by decide : [(1 : Int), 1, 1, 1, 1].length ≤ 1000)))).mono ?_⟩
      rintro e w5 ⟨rfl, hx5⟩
      have hx5' := ((Ext.refl W).alloc _).trans hx5
      have hpl : (putN [(i : Int) - 1, r, f, b, a]).length ≤ 50 := putN_len [(i : Int) - 1, r, f, b, a] (fun z hz => by
        have h5 : z = (i : Int) - 1 ∨ z = r ∨ z = f ∨ z = b ∨ z = a := by simpa using hz
        unfold isI64; omega)
      have hbp := byte_put pre i ⟨r, f, b, a⟩
      simp only at hbp
      have hrl := runsB_len (runsL l) (fun x hx => ⟨H.out.1.all _ (runs_mem l.length l (Nat.le_refl _) x hx).1, (runs_mem l.length l (Nat.le_refl _) x hx).2.1, by have := (runs_mem l.length l (Nat.le_refl _) x hx).2.2; omega⟩)
      have hrl2 := runs_len l.length l (Nat.le_refl _)
      rw [hr, runsB_append] at hrl
      rw [List.length_append] at hrl
      rw [hr] at hrl2
      generalize putN [(i : Int) - 1, r, f, b, a] = P at hpl hbp ⊢
      have HP := Lib.hid (And.intro hpl (And.intro hbp (And.intro hx5' (And.intro hrl hrl2)))); clear hpl hbp hx5' hrl hrl2 hx5 k0 k1 k2 k3
      gi_wp2_with fail
      refine ⟨trivial, fun _ => by omega, (CallsIn.inRound ll (callsIn_wide.2 (B_write bb bb (runsB pre) ⟨P.toArray⟩ w5 (HW.out.1.ext HP.out.2.2.1) ?hlen (Nat.le_of_lt (HW.out.1.ext HP.out.2.2.1).lt)))).mono ?_⟩
      case hlen =>
        have h6 := HP.out.1
        have h7 := HP.out.2.2.2.1
        have h8 := HP.out.2.2.2.2
        show (runsB pre).length + P.length ≤ _
        omega
      rintro e w6 ⟨rfl, h7, h8, h9⟩
      gi_wp2
      refine ⟨?_, ?_, ?_, ?_, ?_⟩
      · exact fun k o hk ho hc => h9 k o ((HP.out.2.2.1.block k (Array.getElem?_eq_some_iff.1 ho).1).trans ho) (fun e => by injection e; omega) (fun cs fz e => by subst e; cases hc)
      · obtain ⟨u, hu⟩ := HW.out.2.2.1
        rw [hu]
        exact h9 _ _ ((HP.out.2.2.1.block _ (Array.getElem?_eq_some_iff.1 hu).1).trans hu) (fun e => by injection e; omega) (fun cs fz e => by injection e with _ e2 _; revert e2; decide)
      · rw [HP.out.2.1]; exact h7
      · exact Below.trans (HW.out.2.1.trans HP.out.2.2.1) (by rw [HBB.out]; exact h8)
      · obtain ⟨u, hu⟩ := HW.out.2.2.1
        exact ⟨u, h9 _ _ ((HP.out.2.2.1.block _ (Array.getElem?_eq_some_iff.1 hu).1).trans hu) (fun e => by injection e; omega) (fun cs fz e => by injection e with _ e2 _; revert e2; decide)⟩
    case hdone =>
      rintro D W hD ⟨h1, h2, h3⟩ hK
      gi_wp2_with fail
      refine ⟨trivial, fun _ => by omega, (callsIn_wide.2 (B_string bb bb (runsB (runsL l)) W h1 (Nat.le_of_lt h1.lt))).mono ?_⟩
      rintro e w6 ⟨rfl, h7, h8⟩
      have hK6 := h8 D _ hK (fun e => by injection e; omega) (fun cs fz e => by cases e)
      have hx6 : Ext w2 w6 := Below.trans h2 (by rw [HBB.out]; exact h7)
      gi_wp2
      refine ⟨by simp, .inl ⟨_, _, rfl, run_takeDeferred hK6, ?_⟩⟩
      refine ⟨_, results_tmp rfl _ _ _, ?_⟩
      exact ⟨by rw [HB.out]; rfl, HX.out.trans (hput _ _ _ _ hx6 hD hK6 rfl)⟩
theorem BytesC_of (l : List Cel) (v : Value) (w : World) (hv : IsCells w v l) (hS : Spans w) (hm : l.length ≤ 1000) :
    Calls Tryd.prog 28 #[v] w fun e w' => e = .returned (.string ⟨(bytesL l).toArray⟩) ∧ Ext w w' := callsIn_wide.1 (BytesC_in 8 (Nat.le_refl _) l v w hv hS hm)
end Go.Proofs.YtckdchkegbdiaaaDoor
