/- The document's characters of a text: lyceumref04.Decode. -/
import Derived.Test.YtckdchkegbdiaaaDoorRefFirst
import Derived.Laws.Closers25b
namespace Go.Proofs.YtckdchkegbdiaaaDoor
open Go Go.RowKit

theorem bts_drop (s : ByteArray) (n : Nat) : bts (s.extract n s.size) = (bts s).drop n := by
  rw [bts_extract, List.take_of_length_le (by rw [bts_len]; omega)]
theorem size_drop (s : ByteArray) (n : Nat) : (s.extract n s.size).size = s.size - n := by rw [ByteArray.size_extract]; omega
theorem decL_at (s : ByteArray) (hs : 0 < s.size) : ∃ n r o, firstL (bts s) = (n, r, o) ∧ 1 ≤ n ∧ n ≤ s.size ∧ isRune r ∧ decL (bts s) = r :: decL ((bts s).drop n)
    ∧ (o = true → n = s.size ∧ r = 65533 ∧ (DecSt.new.run (bts s)).1 = [] ∧ (DecSt.new.run (bts s)).2.k ≠ 0)
    ∧ (o = false → DecSt.new.run (bts s) = (r :: (DecSt.new.run ((bts s).drop n)).1, (DecSt.new.run ((bts s).drop n)).2)) := by
  obtain ⟨n, r, o, h⟩ := firstL_eta (bts s)
  obtain ⟨b, t, hb⟩ : ∃ b t, bts s = b :: t := by
    cases hq : bts s with
    | nil => have := bts_len s; rw [hq] at this; simp at this; omega
    | cons b t => exact ⟨b, t, rfl⟩
  have hl := bts_len s
  rw [hb] at h hl ⊢
  obtain ⟨h1, h2, h3, h4⟩ := first_run b t h
  exact ⟨n, r, o, h, h1, by omega, (first_rune b t h).1, decL_first b t h, fun e => by obtain ⟨a1, a2⟩ := h3 e; exact ⟨by omega, a2⟩, h4⟩
theorem cell_one_newR (w : World) (v : Value) (t : TypeId) : ∀ j u, [v][j]? = some u → (w.alloc (.cells #[v] t)).cell? ((⟨w.heap.size, 0, none⟩ : Addr).add j) = some u := by
  intro j u h
  have hj : j = 0 := by
    have := (List.getElem?_eq_some_iff.1 h).1
    simp at this; omega
  subst hj
  rw [show (⟨w.heap.size, 0, none⟩ : Addr).add 0 = ⟨w.heap.size, 0, none⟩ from by unfold Addr.add; simp, Lib.cell_of_heap (Go.heap_alloc_new _ _)]
  simpa using h
theorem list_some (S : ByteArray) (h : 0 < S.size) : S.toList.isEmpty = false := by
  cases hq : S.toList with
  | nil =>
    have := (toList_nil_iff_emptyBytes S).1 hq
    rw [this] at h
    exact absurd h (by decide)
  | cons => rfl
theorem list_none (S : ByteArray) (h : ¬ 0 < S.size) : S.toList.isEmpty = true := by
  have h0 : S = ByteArray.empty := by
    apply ba_ext
    have : (bts S).length = 0 := by rw [bts_len]; omega
    rw [List.eq_nil_of_length_eq_zero this]; rfl
  rw [h0, (toList_nil_iff_emptyBytes _).2 rfl]
  rfl
theorem cell_one_newR2 (w : World) (o : Obj) (v : Value) (t : TypeId) : ∀ j u, [v][j]? = some u → ((w.alloc o).alloc (.cells #[v] t)).cell? ((⟨w.heap.size + 1, 0, none⟩ : Addr).add j) = some u := by
  have := cell_one_newR (w.alloc o) v t
  rw [show (w.alloc o).heap.size = w.heap.size + 1 from by simp] at this
  exact this
theorem grown_cell {w w' wr : World} {base : Nat} {v u : Value} {l : List Int} (hg : w.grownBy w' v.ownBlock) (ho : OwnR wr base v l) {p : Addr} (hp : wr.heap.size ≤ p.block) (hc : w.cell? p = some u) : w'.cell? p = some u :=
  World.grownBy.cell hg hc fun e => by have := (World.ownsRow.lt ho p.block e.symm).2; omega
set_option maxHeartbeats 4000000 in
set_option maxRecDepth 100000 in
theorem RefDecode_any (s : ByteArray) (w : World) (hb : s.size ≤ 1000000) :
    Calls Tryd.prog 34 #[.string s] w fun e w' => ∃ v, e = .returned v ∧ OwnR w' w.heap.size v (decL (bts s)) ∧ Ext w w' := by
  obtain ⟨i0, hi0, hz0, hz1, hz2⟩ := info_parts infoRune
  go_enter Tryd.func34, Tryd.ntmps34
  go_wp2
  go_loopg [0, 3] s.size (fun k a b wr => ∃ (S : ByteArray) (out : List Int), a = .string S ∧ S.size = k ∧ S.size ≤ 1000000 ∧ Hid (out ++ decL (bts S) = decL (bts s) ∧ OwnR wr w.heap.size b out ∧ Ext w wr))
  case atStart => exact ⟨s, [], rfl, rfl, hb, by simp, OwnR.nil _ _, Ext.refl w⟩
  case round =>
    obtain ⟨S, out, rfl, rfl, hS, hinv⟩ := hrel
    by_cases hpos : 0 < S.size
    · have hE := list_some S hpos
      obtain ⟨n, r, o, hf, hn1, hn2, hr, hd, _⟩ := decL_at S hpos
      have hlen : out.length ≤ 1000000 := by
        have h1 := congrArg List.length hinv.out.1
        rw [List.length_append] at h1
        have h2 := len_decL (bts s)
        rw [bts_len] at h2
        omega
      have hd' : (out ++ [r]) ++ decL (bts (S.extract n S.size)) = decL (bts s) := by
        rw [bts_drop, ← hinv.out.1, hd]; simp
      have hsd := size_drop S n
      have HD := Lib.hid (And.intro hd' (And.intro hsd hf)); clear hd hd' hsd hf
      go_wp2_with fail
      refine (RefFirst_any S _ hpos hS).mono ?_
      rintro e w2 ⟨rfl, hx2⟩
      rw [HD.out.2.2, show partV (n, r, o) = #[.int .i64 n, .int .i32 r, .bool o] from rfl]
      have HO := Lib.hid (hinv.out.2.1.ext ((((Ext.refl wr).trans hx2).alloc (.cells #[.int .i64 n, .int .i32 r, .bool o] 95)).alloc (.cells #[.int .i32 r] 21)))
      have HX := Lib.hid (((hinv.out.2.2.trans hx2).alloc (.cells #[.int .i64 n, .int .i32 r, .bool o] 95)).alloc (.cells #[.int .i32 r] 21))
      go_wp2_with (at_builtin; refine wpList_append_own_at _ rfl _ _ 57 rfl w.heap.size 21 i0 _ 1 4 Tryd.underlying57 hi0 hz0 hz1 hz2 rfl (by omega) u3 out.length (cellsR out) rfl HO.out ⟨w2.heap.size + 1, 0, none⟩ 1 1 [.int .i32 r] rfl rfl (cell_one_newR2 _ _ _ _) (fun y hy => by rw [List.mem_singleton.1 hy]; rfl) (by unfold maxLen; omega) (by omega) (by have := HX.out.size; exact this) ?_)
      intro v' w' hown hg _ _
      have HG := Lib.hid (And.intro (OwnR.more (m := [r]) hown) (ext_grown HX.out HO.out hg (Nat.le_refl _)))
      have c0 := grown_cell hg hinv.out.2.1 (p := ⟨w2.heap.size, 0, none⟩) hx2.size (((Ext.refl _).alloc (.cells #[.int .i32 r] 21)).cell (Lib.cell_of_heap (Go.heap_alloc_new w2 (.cells #[.int .i64 n, .int .i32 r, .bool o] 95)) 0))
      clear hown hg hx2
      go_wp2
      go_roundg (S.size - n)
      case measure => omega
      case rel =>
        refine ⟨S.extract n S.size, out ++ [r], rfl, HD.out.2.1, ?_, HD.out.1, HG.out.1, HG.out.2⟩
        rw [HD.out.2.1]; omega
    · have hE := list_none S hpos
      have hout : out = decL (bts s) := by
        rw [← hinv.out.1, show bts S = [] from List.eq_nil_of_length_eq_zero (by rw [bts_len]; omega), decL_nil, List.append_nil]
      have HF := Lib.hid hout; clear hout
      go_wp2
      go_ret
      exact ⟨_, rfl, HF.out ▸ hinv.out.2.1, hinv.out.2.2⟩
end Go.Proofs.YtckdchkegbdiaaaDoor
