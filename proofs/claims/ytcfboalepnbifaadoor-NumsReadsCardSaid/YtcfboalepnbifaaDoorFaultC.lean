/- errors.As(err, *api.Errno) at a fault: the first code. -/
import Derived.Test.YtcfboalepnbifaaDoorFaultB
import Derived.Test.YtcfboalepnbifaaDoorAsFacts
import Derived.Test.YtcfboalepnbifaaDoorClone
import Derived.Deep.LoopGhost
import Derived.Lib.Builder
namespace Go.Proofs.YtcfboalepnbifaaDoor
open Go Go.RowKit Go.Extern

theorem placed_Unwrap (u : TypeId) (x : Value) (p : Int) (b : Bool) (w : World) : Calls Tryd.prog 72 #[.agg #[.iface u x, .int .i64 p, .bool b]] w fun e w' => e = .returned (.iface u x) ∧ Ext w w' := by
  go_enter Tryd.func72, Tryd.ntmps72
  go_wp2
  go_ret
  exact ⟨rfl, (Ext.refl w).alloc _⟩
theorem worded_Unwrap (u : TypeId) (x : Value) (s : ByteArray) (b : Bool) (w : World) : Calls Tryd.prog 74 #[.agg #[.iface u x, .string s, .bool b]] w fun e w' => e = .returned (.iface u x) ∧ Ext w w' := by
  go_enter Tryd.func74, Tryd.ntmps74
  go_wp2
  go_ret
  exact ⟨rfl, (Ext.refl w).alloc _⟩
theorem row_key {w w' : World} {b off g : Nat} {news : List Value} {n : Nat} {cur : Array Value} {T : TypeId} {fr : Nat × Nat} (hl : news.length = n) (hn : ∀ (j : Nat) u, news[j]? = some u → w.cell? ⟨b, off + j, none⟩ = some u)
    (hg : w'.heap[g]? = some (.cells cur T fr)) (ht : cur.toList.take (news.length * 1) = news) (j : Nat) (y : Value) (hj : j < n) (hy : w.cell? ⟨b, off + j, none⟩ = some y) : w'.cell? ⟨g, 0 + j, none⟩ = some y := by
  have hjn : j < news.length := by omega
  have hnj : news[j]? = some news[j] := List.getElem?_eq_getElem hjn
  have hc := hn j _ hnj
  rw [hy] at hc
  have e1 : cur[j]? = news[j]? := by
    have e2 : (cur.toList.take (news.length * 1))[j]? = cur[j]? := by
      rw [List.getElem?_take, if_pos (by omega), Array.getElem?_toList]
    rw [← e2, ht]
  rw [Lib.cell_of_heap hg, Nat.zero_add, e1, hnj]
  exact hc.symm

set_option maxRecDepth 100000 in
theorem row_Unwrap2 (r b off cap : Nat) (ts : List Tr) (w : World) (h0 : w.cell? ⟨r, 0, none⟩ = some (.slice (some ⟨b, off, none⟩) ts.length cap)) (h1 : 1 ≤ ts.length) (hb : ts.length ≤ 1000000) (h : RepAll w b off ts) :
    Calls Tryd.prog 76 #[.pointer (some ⟨r, 0, none⟩)] w fun e w' => ∃ g cap', e = .returned (.slice (some ⟨g, 0, none⟩) ts.length cap') ∧ Ext w w' ∧ RepAll w' g 0 ts ∧ ∀ (j : Nat) y, j < ts.length → w.cell? ⟨b, off + j, none⟩ = some y → w'.cell? ⟨g, 0 + j, none⟩ = some y := by
  obtain ⟨news, hl, hn, h2⟩ := h.news
  have HN := Lib.hid hn
  have H2 := Lib.hid h2
  clear hn h2
  have hl' : ts.length = news.length := hl.symm
  rw [hl'] at h0
  have HL := Lib.hid hl
  clear hl hl'
  have H1 := Lib.hid h1
  clear h1
  have HR := Lib.hid h
  clear h
  go_enter Tryd.func76, Tryd.ntmps76
  go_wp2_with (go_at_call 77; refine (clone_errs _ _ _ _ _ (by have := HL.out; omega) HN.out H2.out).mono ?_)
  rintro e w' ⟨v, rfl, hx, hown⟩
  obtain ⟨hq, hv⟩ := hown
  clear hq
  rcases hv with ⟨hv0, hz⟩ | ⟨g, cap', cur, rfl, hg, hgk, hle, hmx, hcs, htk⟩
  · have := HL.out; have := H1.out; omega
  have HT := Lib.hid (And.intro hgk (And.intro htk hcs))
  clear hgk htk hcs
  go_wp2
  go_ret
  have key : ∀ (j : Nat) y, j < ts.length → w.cell? ⟨b, off + j, none⟩ = some y → w'.cell? ⟨g, 0 + j, none⟩ = some y := by
    intro j y hj hy
    exact row_key HL.out HN.out HT.out.1 HT.out.2.1 j y hj hy
  exact ⟨g, cap', by rw [HL.out]; rfl, hx, HR.out.copy hx key, key⟩
theorem row_Unwrap (r b off cap : Nat) (ts : List Tr) (w : World) (h0 : w.cell? ⟨r, 0, none⟩ = some (.slice (some ⟨b, off, none⟩) ts.length cap)) (h1 : 1 ≤ ts.length) (hb : ts.length ≤ 1000000) (h : RepAll w b off ts) :
    Calls Tryd.prog 76 #[.pointer (some ⟨r, 0, none⟩)] w fun e w' => ∃ g cap', e = .returned (.slice (some ⟨g, 0, none⟩) ts.length cap') ∧ Ext w w' ∧ RepAll w' g 0 ts :=
  (row_Unwrap2 r b off cap ts w h0 h1 hb h).mono fun _ _ ⟨g, c, h1, h2, h3, _⟩ => ⟨g, c, h1, h2, h3⟩

attribute [local go_sem] callValueOf callType callIsNil callKind callTElem callImplements callTypeOf callAssignableTo callElem callSet
attribute [local go_sem] ta_E_As ta_E_U1 ta_E_UN ta_P_As ta_P_U1 ta_P_UN ta_W_As ta_W_U1 ta_W_UN ta_R_As ta_R_U1 ta_R_UN unwrapP unwrapW unwrapR
attribute [local go_sem] typeOfE typeOfP typeOfW typeOfR assignEE assignPE assignWE assignRE valueOfE methodAssignableTo

set_option maxHeartbeats 4000000 in
set_option maxRecDepth 100000 in
theorem as_loop (n : Nat) (ih : ∀ (m : Nat) (t : Tr) (v : Value) (a ta : Addr) (old : Value) (w : World), m < n → t.sz ≤ m → Rep w t v → w.cell? a = some (.pointer (some ta)) → w.cell? ta = some old → w.frozen? ta = false →
      Calls Tryd.prog 47 #[v, .iface 71 (.pointer (some ta)), .agg #[.pointer (some ⟨1, 71, none⟩), .pointer (some a), .int .u64 150], .iface 105 (.agg #[.pointer (some ⟨1, 28, none⟩)])] w
        fun e w' => e = .returned (.bool true) ∧ ∃ w1, Ext w w1 ∧ w' = w1.setCell ta (.int .i64 t.codeOf))
    (t : Tr) (v : Value) (a ta : Addr) (old : Value) (w : World) (hn : t.sz ≤ n) (hr : Rep w t v) (ha : w.cell? a = some (.pointer (some ta))) (ht : w.cell? ta = some old) (hf : w.frozen? ta = false) :
      Calls Tryd.prog 47 #[v, .iface 71 (.pointer (some ta)), .agg #[.pointer (some ⟨1, 71, none⟩), .pointer (some a), .int .u64 150], .iface 105 (.agg #[.pointer (some ⟨1, 28, none⟩)])] w
        fun e w' => e = .returned (.bool true) ∧ ∃ w1, Ext w w1 ∧ w' = w1.setCell ta (.int .i64 t.codeOf) := by
  have IH := Lib.hid ih; clear ih
  go_enter Tryd.func47, Tryd.ntmps47
  go_wp2
  go_loopg [0] t.sz (fun k p wr => ∃ t' : Tr, Rep wr t' p ∧ t'.codeOf = t.codeOf ∧ t'.sz ≤ k ∧ t'.sz ≤ t.sz ∧ Ext (w.alloc (.cells #[.pointer (some ⟨1, 71, none⟩), .pointer (some a), .int .u64 150] 85)) wr)
  case atStart => exact ⟨t, hr.ext ((Ext.refl w).alloc _), rfl, Nat.le_refl _, Nat.le_refl _, Ext.refl _⟩
  case round =>
    obtain ⟨t', hr', hc, hk, hle, hx⟩ := hrel
    have hx0 : Ext w wr := Ext.trans ((Ext.refl w).alloc _) hx
    have hlt : w.heap.size < (w.alloc (.cells #[.pointer (some ⟨1, 71, none⟩), .pointer (some a), .int .u64 150] 85)).heap.size := by simp
    have b0 : wr.cell? ⟨w.heap.size, 0, none⟩ = some (.pointer (some ⟨1, 71, none⟩)) := hx.cell (by simp)
    have b1 : wr.cell? ⟨w.heap.size, 1, none⟩ = some (.pointer (some a)) := hx.cell (by simp)
    have b2 : wr.cell? ⟨w.heap.size, 2, none⟩ = some (.int .u64 150) := hx.cell (by simp)
    have ha' : wr.cell? a = some (.pointer (some ta)) := hx0.cell ha
    have ht' : wr.cell? ta = some old := hx0.cell ht
    have hf' : wr.frozen? ta = false := (hx0.frozen (lt_of_cell ht)).trans hf
    have HC := Lib.hid hc; clear hc
    have HK := Lib.hid (And.intro hk hle); clear hk hle
    clear hr ha ht hf
    cases t' with
    | code c =>
      obtain ⟨rfl, hc0, hc1, hc2⟩ := hr'
      have hlt' := lt_of_cell ht'
      have el := elemVT a ta wr ha'
      have st := setE ta ⟨wr.heap.size, 0, none⟩ c old (wr.alloc (.cells #[.int .i64 c] 28)) (by simp) (by rw [World.cell?_alloc_lt _ _ ta hlt']; exact ht') (by rw [World.frozen?_alloc_old _ _ ta (Nat.ne_of_lt hlt')]; exact hf')
      clear ha' ht' hf'
      go_wp2
      go_ret
      exact ⟨rfl, _, hx0.alloc _, by rw [← HC.out]; rfl⟩
    | place p t1 =>
      obtain ⟨u, x, rfl, _, h1⟩ := hr'
      clear ha' ht' hf'
      go_wp2_with (go_at_call 72; refine (placed_Unwrap _ _ _ _ _).mono ?_; rintro e w2 ⟨rfl, hx2⟩)
      go_roundg t1.sz
      case measure => have := HK.out.1; simp only [Tr.sz] at this; omega
      case rel => exact ⟨t1, h1.ext hx2, HC.out, Nat.le_refl _, by have := HK.out.2; simp only [Tr.sz] at this; omega, hx.trans hx2⟩
    | word s t1 =>
      obtain ⟨u, x, rfl, h1⟩ := hr'
      clear ha' ht' hf'
      go_wp2_with (go_at_call 74; refine (worded_Unwrap _ _ _ _ _).mono ?_; rintro e w2 ⟨rfl, hx2⟩)
      go_roundg t1.sz
      case measure => have := HK.out.1; simp only [Tr.sz] at this; omega
      case rel => exact ⟨t1, h1.ext hx2, HC.out, Nat.le_refl _, by have := HK.out.2; simp only [Tr.sz] at this; omega, hx.trans hx2⟩
    | row ts =>
      obtain ⟨r, b, off, cap, rfl, h0, h1, h2, h3, h4, hall⟩ := hr'
      have HA := Lib.hid (And.intro ha' (And.intro ht' hf')); clear ha' ht' hf'
      cases ts with
      | nil => simp at h2
      | cons t1 ts =>
      have H0 := Lib.hid (And.intro h0 (And.intro h1 (And.intro h3 hall))); clear h0 h1 h2 h3 h4 hall
      go_wp2_with (go_at_call 76; refine (row_Unwrap r b off cap (t1 :: ts) _ H0.out.1 (by simp) H0.out.2.2.1 H0.out.2.2.2).mono ?_; rintro e w2 ⟨g, cap', rfl, hx2, hall2⟩)
      have b0' := hx2.cell b0
      have b1' := hx2.cell b1
      have b2' := hx2.cell b2
      clear b0 b1 b2
      obtain ⟨⟨u, x, hcell, hrep⟩, hrest⟩ := hall2
      clear hrest
      have HR := Lib.hid hrep; clear hrep
      go_wp2
      refine wp_loop_rounds 1 ?_
      rw [rounds_succ]
      go_wp2_with (go_at_call 47; refine (IH.out t1.sz t1 _ a ta old w2 ?_ (Nat.le_refl _) HR.out (hx2.cell HA.out.1) (hx2.cell HA.out.2.1) ((hx2.frozen (lt_of_cell HA.out.2.1)).trans HA.out.2.2)).mono ?_)
      · have := HK.out.2; simp only [Tr.sz, szAll] at this; omega
      rintro e w3 ⟨rfl, w1, hx3, rfl⟩
      go_wp2
      go_ret
      exact ⟨rfl, w1, (hx0.trans hx2).trans hx3, by rw [← HC.out]; rfl⟩

/-- errors.as at a fault: true; the target holds the first code. -/
theorem as_rep : ∀ (n : Nat) (t : Tr) (v : Value) (a ta : Addr) (old : Value) (w : World), t.sz ≤ n → Rep w t v → w.cell? a = some (.pointer (some ta)) → w.cell? ta = some old → w.frozen? ta = false →
      Calls Tryd.prog 47 #[v, .iface 71 (.pointer (some ta)), .agg #[.pointer (some ⟨1, 71, none⟩), .pointer (some a), .int .u64 150], .iface 105 (.agg #[.pointer (some ⟨1, 28, none⟩)])] w
        fun e w' => e = .returned (.bool true) ∧ ∃ w1, Ext w w1 ∧ w' = w1.setCell ta (.int .i64 t.codeOf) := by
  intro n
  induction n using Nat.strongRecOn with
  | ind n ih =>
    intro t v a ta old w hn hr ha ht hf
    exact as_loop n (fun m t v a ta old w hm h1 h2 h3 h4 h5 => ih m hm t v a ta old w h1 h2 h3 h4 h5) t v a ta old w hn hr ha ht hf
end Go.Proofs.YtcfboalepnbifaaDoor
