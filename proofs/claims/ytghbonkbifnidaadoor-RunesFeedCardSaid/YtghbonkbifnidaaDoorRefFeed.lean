/- The document's decoder: (*lyceumref04.Decoder).Feed. -/
import Derived.Test.YtghbonkbifnidaaDoorRefDecode
namespace Go.Proofs.YtghbonkbifnidaaDoor
open Go Go.RowKit

/-- The document's decoder keeps S. -/
def RefDec (w : World) (g : Nat) (S : ByteArray) : Prop := Blk w g 39 #[.string S]
theorem refdec_set {w : World} {g : Nat} {S : ByteArray} (h : RefDec w g S) (T : ByteArray) : RefDec (w.setCell ⟨g, 0, none⟩ (.string T)) g T := Blk.set_ h 0 (.string T)
set_option maxHeartbeats 4000000 in
set_option maxRecDepth 100000 in
theorem RefFeed_any (g : Nat) (S0 s : ByteArray) (w : World) (h0 : S0.size ≤ 100) (hs : s.size ≤ 100000) (hd : RefDec w g S0) :
    Calls Tryd.prog 20 #[.pointer (some ⟨g, 0, none⟩), .string s] w fun e w' => ∃ v, e = .returned v ∧ OwnR w' w.heap.size v (DecSt.new.run (bts S0 ++ bts s)).1
      ∧ (∃ S, RefDec w' g S ∧ DecSt.new.run (bts S) = ([], (DecSt.new.run (bts S0 ++ bts s)).2)) ∧ Only g w w' := by
  obtain ⟨i0, hi0, hz0, hz1, hz2⟩ := info_parts infoRune
  have hg := hd.lt
  obtain ⟨X, hX⟩ : ∃ X, DecSt.new.run (bts S0 ++ bts s) = X := ⟨_, rfl⟩
  rw [hX]
  have hX' : DecSt.new.run (bts (S0 ++ s)) = X := by rw [bts_append]; exact hX
  have hsz : (S0 ++ s).size ≤ 1000000 := by rw [ByteArray.size_append]; omega
  have hlX : X.1.length ≤ 1000000 := by
    have h1 := len_run (bts (S0 ++ s)) .new
    rw [hX', bts_len] at h1
    simp only [DecSt.new] at h1
    omega
  clear hX
  have c0 : w.cell? ⟨g, 0, none⟩ = some (.string S0) := hd.cell 0
  have z0 : w.frozen? ⟨g, 0, none⟩ = false := hd.frozen 0
  have HD := Lib.hid (And.intro (refdec_set hd (S0 ++ s)) (And.intro hX' (And.intro ((Only.refl g w).setCell (i := 0) (.string (S0 ++ s))) hg))); clear hd hX' hg
  go_enter Tryd.func20, Tryd.ntmps20
  go_wp2
  generalize S0 ++ s = T at hsz HD ⊢
  go_loopg [5] T.size (fun k b wr => ∃ (S : ByteArray) (out : List Int), S.size = k ∧ S.size ≤ 1000000 ∧ Hid (out ++ (DecSt.new.run (bts S)).1 = X.1 ∧ (DecSt.new.run (bts S)).2 = X.2 ∧ OwnR wr w.heap.size b out ∧ RefDec wr g S ∧ Only g w wr))
  case atStart => exact ⟨T, [], rfl, hsz, by rw [HD.out.2.1]; rfl, by rw [HD.out.2.1], OwnR.nil _ _, HD.out.1, HD.out.2.2.1⟩
  case round =>
    clear c0 z0
    obtain ⟨S, out, rfl, hS, hinv⟩ := hrel
    obtain ⟨j1, j2, j3, j4, j5⟩ := hinv.out
    have d0 : wr.cell? ⟨g, 0, none⟩ = some (.string S) := j4.cell 0
    have HJ := Lib.hid (And.intro j3 (And.intro j4 j5)); clear j3 j4 j5 hinv
    by_cases hpos : 0 < S.size
    · have hE := list_some S hpos
      obtain ⟨n, r, o, hf, hn1, hn2, hr, _, hopen, htold⟩ := decL_at S hpos
      have hsd := size_drop S n
      have HF := Lib.hid (And.intro hf (And.intro hsd hr)); clear hf hsd hr
      go_wp2_with fail
      refine (RefFirst_any S _ hpos hS).mono ?_
      rintro e w2 ⟨rfl, hx2⟩
      rw [HF.out.1, show partV (n, r, o) = #[.int .i64 n, .int .i32 r, .bool o] from rfl]
      cases o with
      | true =>
        obtain ⟨rfl, rfl, k1, k2⟩ := hopen rfl
        clear htold
        have hout : out = X.1 := by rw [← j1, k1, List.append_nil]
        have HO := Lib.hid (And.intro hout (And.intro j2 k1)); clear hout j1 j2 k1 k2
        go_wp2
        go_ret
        have hxx := (hx2.alloc (.cells #[.int .i64 S.size, .int .i32 65533, .bool true] 50))
        refine ⟨_, rfl, HO.out.1 ▸ HJ.out.1.ext hxx, ⟨S, Blk.ext HJ.out.2.1 hxx, ?_⟩, HJ.out.2.2.ext hxx⟩
        rw [← HO.out.2.1, ← HO.out.2.2]
      | false =>
        have ht := htold rfl
        clear htold hopen
        rw [ht] at j1 j2
        have hlen : out.length ≤ 1000000 := by
          have h1 := congrArg List.length j1
          rw [List.length_append] at h1
          omega
        have hj1 : (out ++ [r]) ++ (DecSt.new.run (bts (S.extract n S.size))).1 = X.1 := by rw [bts_drop, ← j1]; simp
        have hj2 : (DecSt.new.run (bts (S.extract n S.size))).2 = X.2 := by rw [bts_drop]; exact j2
        have HT := Lib.hid (And.intro hj1 hj2); clear hj1 hj2 j1 j2 ht
        have HO := Lib.hid (HJ.out.1.ext ((((Ext.refl wr).trans hx2).alloc (.cells #[.int .i64 n, .int .i32 r, .bool false] 50)).alloc (.cells #[.int .i32 r] 21)))
        have HX := Lib.hid ((hx2.alloc (.cells #[.int .i64 n, .int .i32 r, .bool false] 50)).alloc (.cells #[.int .i32 r] 21))
        have hsz2 : w.heap.size ≤ w2.heap.size := Nat.le_trans HJ.out.2.2.size hx2.size
        have HS2 := Lib.hid hsz2; clear hsz2
        go_wp2_with (at_builtin; refine wpList_append_own_at _ rfl _ _ 22 rfl w.heap.size 21 i0 _ 1 4 Tryd.underlying22 hi0 hz0 hz1 hz2 rfl (by omega) u5 out.length (cellsR out) rfl HO.out ⟨w2.heap.size + 1, 0, none⟩ 1 1 [.int .i32 r] rfl rfl (cell_one_newR2 _ _ _ _) (fun y hy => by rw [List.mem_singleton.1 hy]; rfl) (by unfold maxLen; omega) (by omega) (by have := HS2.out; simp; omega) ?_)
        intro v' w' hown hgr _ _
        have HG := Lib.hid (And.intro (OwnR.more (m := [r]) hown) (only_grown (HJ.out.2.2.ext HX.out) HO.out hgr (Nat.le_refl _)))
        have c0 := grown_cell hgr HJ.out.1 (p := ⟨w2.heap.size, 0, none⟩) hx2.size (((Ext.refl _).alloc (.cells #[.int .i32 r] 21)).cell (Lib.cell_of_heap (Go.heap_alloc_new w2 (.cells #[.int .i64 n, .int .i32 r, .bool false] 50)) 0))
        have hB : RefDec w' g S := by
          have h1 : g < ((w2.alloc (.cells #[.int .i64 n, .int .i32 r, .bool false] 50)).alloc (.cells #[.int .i32 r] 21)).heap.size := Blk.lt (Blk.ext HJ.out.2.1 HX.out)
          have h2 := hgr.block g h1 (fun e => by have := (World.ownsRow.lt HO.out g e.symm).1; have := HD.out.2.2.2; omega)
          exact h2.trans (Blk.ext HJ.out.2.1 HX.out)
        have d1 : w'.cell? ⟨g, 0, none⟩ = some (.string S) := hB.cell 0
        have z1 : w'.frozen? ⟨g, 0, none⟩ = false := hB.frozen 0
        have HB := Lib.hid (And.intro (refdec_set hB (S.extract n S.size)) (And.intro (HG.out.2.setCell (i := 0) (.string (S.extract n S.size))) (HG.out.1.only ((Only.refl g w').setCell (i := 0) (.string (S.extract n S.size))) HD.out.2.2.2)))
        clear hown hgr hx2 hB d0
        go_wp2
        go_region
        go_wp2
        go_roundg (S.size - n)
        case measure => omega
        case rel =>
          refine ⟨S.extract n S.size, out ++ [r], HF.out.2.1, ?_, HT.out.1, HT.out.2, HB.out.2.2, HB.out.1, HB.out.2.1.drew⟩
          rw [HF.out.2.1]; omega
    · have hE := list_none S hpos
      have hnil : bts S = [] := List.eq_nil_of_length_eq_zero (by rw [bts_len]; omega)
      rw [hnil] at j1 j2
      have hout : out = X.1 := by rw [← j1, run_nil, List.append_nil]
      have HF := Lib.hid (And.intro hout (And.intro hnil j2)); clear hout hnil j1 j2
      go_wp2
      go_ret
      refine ⟨_, rfl, HF.out.1 ▸ HJ.out.1, ⟨S, HJ.out.2.1, ?_⟩, HJ.out.2.2⟩
      rw [HF.out.2.1, ← HF.out.2.2]
      rfl
end Go.Proofs.YtghbonkbifnidaaDoor
