/- The law RunesFeed, walked. -/
import Derived.Test.YtghbonkbifnidaaDoorRunesTell
import Derived.Test.YtghbonkbifnidaaDoorClass
import Derived.Test.YtghbonkbifnidaaDoorStrsArg
namespace Go.Proofs.YtghbonkbifnidaaDoor
open Go Go.RowKit

/-- Two decoders that keep the same. -/
structure Fed (w : World) (ga gb : Nat) (S : ByteArray) (st : DecSt) (wr : World) : Prop where
  a : Dec wr ga st
  b : RefDec wr gb S
  keeps : DecSt.new.run (bts S) = ([], st)
  ext : Ext w wr
theorem Fed.ok {w wr : World} {ga gb : Nat} {S : ByteArray} {st : DecSt} (h : Fed w ga gb S st wr) : st.ok := by
  have h1 := ok_run (bts S) ok_new
  rw [h.keeps] at h1
  exact h1
theorem Fed.size {w wr : World} {ga gb : Nat} {S : ByteArray} {st : DecSt} (h : Fed w ga gb S st wr) : S.size = st.k ∧ st.k ≤ 3 := by
  have h1 := keeps_run (bts S) .new (by rw [h.keeps])
  rw [h.keeps, bts_len] at h1
  have h2 := ok_k h.ok
  simp only [DecSt.new] at h1
  omega
theorem Fed.same {w wr w' : World} {ga gb : Nat} {S : ByteArray} {st : DecSt} (h : Fed w ga gb S st wr) (hx : Ext wr w') : Fed w ga gb S st w' :=
  ⟨Blk.ext h.a hx, Blk.ext h.b hx, h.keeps, h.ext.trans hx⟩
theorem fed_next {S : ByteArray} {st : DecSt} (h : DecSt.new.run (bts S) = ([], st)) (x : List UInt8) : DecSt.new.run (bts S ++ x) = st.run x := by
  rw [run_append, h]
  rfl
/-- The class of worlds of a round's tests. -/
def FeedZ (w0 : World) (ga gb : Nat) (S : ByteArray) (st : DecSt) (W : World) : Prop := Dec W ga st ∧ RefDec W gb S ∧ Ext w0 W
def FeedZ2 (w0 : World) (ga gb gf of : Nat) (S : ByteArray) (st : DecSt) (W : World) : Prop := FeedZ w0 ga gb S st W ∧ W.cell? ⟨gf, of, none⟩ = some (.int .i32 65533)
set_option maxHeartbeats 8000000 in
set_option maxRecDepth 100000 in
theorem runesFeed_true (ss : List ByteArray) (v : Value) (f : Int) (w : World) (hv : IsStrs w v ss) (_hm : ss.length ≤ maxLen) (hF : Firsts w) :
    Calls Tryd.prog 4 #[v, .int .u32 f] w fun e w' => e = .returned (.bool true) ∧ Ext w w' := by
  obtain ⟨A, c, rfl, hc, _⟩ := hv.form
  unfold maxLen at _hm
  obtain ⟨L, hL⟩ : ∃ L, L = ss.length := ⟨_, rfl⟩
  rw [← hL] at hv _hm hc ⊢
  have H := Lib.hid (And.intro hv (And.intro hF hL)); clear hv hF hL
  go_enter Tryd.func4, Tryd.ntmps4
  go_wp2_with fail
  refine (awake_true _ H.out.2.1).mono ?_
  rintro e w1 ⟨rfl, hx1⟩
  have hfed : Fed w w1.heap.size (w1.heap.size + 1) ⟨#[]⟩ .new ((w1.alloc (.cells #[.int .i64 0, .int .i64 0, .int .u8 0, .int .u8 0, .int .i32 0] 36)).alloc (.cells #[.string ⟨#[]⟩] 39)) :=
    ⟨Blk.ext (Go.heap_alloc_new w1 (.cells #[.int .i64 0, .int .i64 0, .int .u8 0, .int .u8 0, .int .i32 0] 36)) ((Ext.refl _).alloc _), Go.heap_alloc2_new w1 _ _, rfl, (hx1.alloc _).alloc _⟩
  have hsz : w.heap.size ≤ w1.heap.size := hx1.size
  have H1 := Lib.hid (And.intro hfed hsz); clear hfed hx1 hsz
  obtain ⟨ga, hga⟩ : ∃ ga, ga = w1.heap.size := ⟨_, rfl⟩
  go_wp2
  rw [← hga] at H1 ⊢
  have HG := Lib.hid hga; clear hga
  generalize (w1.alloc (.cells #[.int .i64 0, .int .i64 0, .int .u8 0, .int .u8 0, .int .i32 0] 36)).alloc (.cells #[.string ⟨#[]⟩] 39) = w2 at H1 ⊢
  go_loopg [8] L (fun k j wr => ∃ (i : Nat) (S : ByteArray) (st : DecSt), Hid (i + k = L) ∧ j = .int .i64 i ∧ Hid (Fed w ga (ga + 1) S st wr))
  case atStart => exact ⟨0, _, _, Nat.zero_add _, rfl, H1.out.1⟩
  case round =>
    obtain ⟨i, S, st, hi, rfl, hinv⟩ := hrel
    by_cases hlt : i < L
    · by_cases h20 : i < 20
      · obtain ⟨s0, hs0⟩ : ∃ s0, ss[i]? = some s0 := ⟨ss[i]'(by rw [← H.out.2.2]; exact hlt), List.getElem?_eq_getElem _⟩
        obtain ⟨g0, off0, rfl, ca⟩ := H.out.1.at hs0
        have da := hinv.out.ext.cell ca
        clear ca
        go_wp2_with fail
        refine (short_of s0 8 _ (by decide)).mono ?_
        rintro e w3 ⟨rfl, rfl⟩
        have hs8 := shortOf_le s0 8
        generalize shortOf s0 8 = s at hs8 ⊢
        clear da hs0
        have hszS := hinv.out.size
        have hbase : ga < w3.heap.size ∧ ga + 1 < w3.heap.size := ⟨hinv.out.a.lt, Blk.lt hinv.out.b⟩
        have HB := Lib.hid (And.intro hszS hbase); clear hszS hbase
        go_wp2_with fail
        refine (Feed_any _ ga st s hinv.out.a hinv.out.ok (H.out.2.1.ext hinv.out.ext) (by omega)).mono ?_
        rintro e w4 ⟨v4, rfl, ho4, hd4, hy4⟩
        have hB4 := Blk.only hinv.out.b hy4 (by omega)
        have H4 := Lib.hid (And.intro ho4 (And.intro hd4 (And.intro hB4 (And.intro hy4 (ext_only hinv.out.ext hy4 H1.out.2))))); clear ho4 hd4 hB4 hy4
        go_wp2_with fail
        refine (RefFeed_any (ga + 1) S s _ (by have := HB.out.1; omega) (by omega) H4.out.2.2.1).mono ?_
        rintro e w5 ⟨v5, rfl, ho5, ⟨S', hB5, hk5⟩, hy5⟩
        rw [fed_next hinv.out.keeps] at ho5 hk5
        have hlen : (st.run (bts s)).1.length ≤ 100 := by
          have h1 := run_lenO st (bts s) hinv.out.ok
          rw [bts_len] at h1
          omega
        obtain ⟨R, hR⟩ : ∃ R, st.run (bts s) = R := ⟨_, rfl⟩
        rw [hR] at ho5 hk5 hlen H4
        have hdec : Dec w5 ga R.2 := Blk.only H4.out.2.1 hy5 (by omega)
        have hown4 : OwnR w5 w3.heap.size v4 R.1 := H4.out.1.only hy5 HB.out.2.2
        have hi32 : ∀ n, n ∈ R.1 → isI32 n := by
          intro n hn
          have h1 := fed_next hinv.out.keeps (bts s)
          rw [hR] at h1
          have h2 := decL_i32 (bts (S ++ s)) n
          rw [bts_append] at h2
          unfold decL at h2
          rw [h1] at h2
          exact h2 (List.mem_append_left _ hn)
        have hx5 : Ext w w5 := ext_only H4.out.2.2.2.2 hy5 (by have := H1.out.2; omega)
        have H5 := Lib.hid (And.intro (hown4.isRunes hi32) (And.intro (ho5.isRunes hi32) (show Fed w ga (ga + 1) S' R.2 w5 from ⟨hdec, hB5, hk5, hx5⟩)))
        clear hown4 ho5 hi32 hdec hB5 hk5 hx5 hy5 hR
        go_wp2_with fail
        refine (Same_eq _ v4 v5 _ H5.out.1 H5.out.2.1 (by omega)).mono ?_
        rintro e w6 ⟨rfl, hx6⟩
        have H6 := Lib.hid (H5.out.2.2.same hx6); clear hx6
        obtain ⟨st', hst'⟩ : ∃ st', R.2 = st' := ⟨_, rfl⟩
        rw [hst'] at H6
        have hsz := H6.out.size
        have gZ : FeedZ w6 ga (ga + 1) S' st' w6.drew := ⟨H6.out.a, H6.out.b, (Ext.refl w6).drew⟩
        have hcall : ∀ W, FeedZ w6 ga (ga + 1) S' st' W → Calls Tryd.prog 21 #[.pointer (some ⟨ga, 0, none⟩)] W fun e w' => e = .returned (.int .i64 st'.k) ∧ FeedZ w6 ga (ga + 1) S' st' w' :=
          fun W hW => (Pending_any W ga st' hW.1).mono fun e w' ⟨he, hw⟩ => ⟨he, hw ▸ hW⟩
        have hsk := hsz.1
        obtain ⟨q, hq⟩ : ∃ q, st'.k = q := ⟨_, rfl⟩
        rw [hq] at hcall hsk
        have FC := Lib.hid hcall
        have HQ := Lib.hid (And.intro hq hsz); clear hcall hsz hq hst' H4 H5
        go_wp2_with fail
        have z1 : ∀ n : In (FeedZ w6 ga (ga + 1) S' st'), n.val.cell? ⟨ga + 1, 0, none⟩ = some (.string S') := fun n => n.prop.2.1.cell 0
        have hne : Nonempty (In (FeedZ w6 ga (ga + 1) S' st')) := ⟨⟨_, gZ⟩⟩
        try simp only [List.append]
        refine wp_region_class (FeedZ w6 ga (ga + 1) S' st') (by kernel_rfl) (by kernel_rfl) gZ ?_
        repeat (go_big_quiet_step (first | (go_at_call 21; exact quiet_class FC.out _)))
        refine wpQuiet_nil ?_
        rintro _ ⟨m, rfl⟩
        have hm7 := m.prop
        generalize m.val = w7 at hm7 ⊢
        have H7 := Lib.hid (H6.out.same hm7.2.2)
        clear hm7 z1 hne gZ FC H6
        go_wp2_with fail
        · refine (Flush_any w7 ga st' H7.out.a H7.out.ok).mono ?_
          rintro e w8 ⟨v8, rfl, ho8, hd8, hy8⟩
          have hB8 : RefDec w8 (ga + 1) S' := Blk.only H7.out.b hy8 (by omega)
          have hx8 : Ext w w8 := ext_only H7.out.ext hy8 H1.out.2
          have H8 := Lib.hid (And.intro hd8 (And.intro hB8 hx8))
          clear hd8 hB8 hx8 hy8
          by_cases hq0 : q = 0
          · have hfl : st'.flush = [] := flush_none (by rw [HQ.out.1]; exact hq0)
            rw [hfl] at ho8
            obtain ⟨Af, cf, rfl, hAf⟩ := ho8.form
            have hE := list_none S' (by omega)
            have gZ : FeedZ w8 ga (ga + 1) S' .new w8.drew := ⟨H8.out.1, H8.out.2.1, (Ext.refl w8).drew⟩
            have hcall : ∀ W, FeedZ w8 ga (ga + 1) S' .new W → Calls Tryd.prog 21 #[.pointer (some ⟨ga, 0, none⟩)] W fun e w' => e = .returned (.int .i64 0) ∧ FeedZ w8 ga (ga + 1) S' .new w' :=
              fun W hW => (Pending_any W ga .new hW.1).mono fun e w' ⟨he, hw⟩ => ⟨he, hw ▸ hW⟩
            have FC := Lib.hid hcall
            clear hcall ho8 hfl
            rw [show ([] : List Int).length = 0 from rfl]
            go_wp2_with fail
            have z1 : ∀ n : In (FeedZ w8 ga (ga + 1) S' .new), n.val.cell? ⟨ga + 1, 0, none⟩ = some (.string S') := fun n => n.prop.2.1.cell 0
            have z2 : True := trivial
            have hne : Nonempty (In (FeedZ w8 ga (ga + 1) S' .new)) := ⟨⟨_, gZ⟩⟩
            try simp only [List.append]
            refine wp_region_class (FeedZ w8 ga (ga + 1) S' .new) (by kernel_rfl) (by kernel_rfl) gZ ?_
            repeat (go_big_quiet_step (first | (go_at_call 21; exact quiet_class FC.out _)))
            refine wpQuiet_nil ?_
            rintro _ ⟨m, rfl⟩
            have hm9 := m.prop
            generalize m.val = w9 at hm9 ⊢
            have hx9 := (H8.out.2.2.trans hm9.2.2)
            have c0 : w9.cell? ⟨ga + 1, 0, none⟩ = some (.string S') := hm9.2.1.cell 0
            have f0 : w9.frozen? ⟨ga + 1, 0, none⟩ = false := hm9.2.1.frozen 0
            have hnext : Fed w ga (ga + 1) ⟨#[]⟩ .new (w9.setCell ⟨ga + 1, 0, none⟩ (.string ⟨#[]⟩)) :=
              ⟨Blk.only hm9.1 ((Only.refl (ga + 1) w9).setCell (i := 0) (.string ⟨#[]⟩)) (by omega), refdec_set hm9.2.1 ⟨#[]⟩, rfl, hx9.setCell (by have := H1.out.2; show w.heap.size ≤ ga + 1; omega) _⟩
            have H9 := Lib.hid hnext
            clear hm9 z1 z2 hne gZ FC hnext hx9
            go_wp2_with fail
            go_roundg (gk - 1)
            case measure => have := hi.out; omega
            case rel =>
              refine ⟨i + 1, _, _, ?_, by go_num, H9.out⟩
              show i + 1 + (gk - 1) = L
              have := hi.out; omega
          · have hfl : st'.flush = [65533] := flush_kept (by rw [HQ.out.1]; exact hq0)
            rw [hfl] at ho8
            have h8 := ho8.isRunes (fun n hn => by obtain rfl := List.mem_singleton.1 hn; exact isI32_rune isRune_fffd)
            obtain ⟨Af, cf, rfl, hcf, _⟩ := h8.form
            obtain ⟨_, gf, of, rfl, hc8⟩ := h8.at (i := 0) (m := 65533) rfl
            simp only [Nat.add_zero] at hc8
            have hE := list_some S' (by omega)
            clear h8
            have gZ : FeedZ2 w8 ga (ga + 1) gf of S' .new w8.drew := ⟨⟨H8.out.1, H8.out.2.1, (Ext.refl w8).drew⟩, hc8⟩
            have hcall : ∀ W, FeedZ2 w8 ga (ga + 1) gf of S' .new W → Calls Tryd.prog 21 #[.pointer (some ⟨ga, 0, none⟩)] W fun e w' => e = .returned (.int .i64 0) ∧ FeedZ2 w8 ga (ga + 1) gf of S' .new w' :=
              fun W hW => (Pending_any W ga .new hW.1.1).mono fun e w' ⟨he, hw⟩ => ⟨he, hw ▸ hW⟩
            have FC := Lib.hid hcall
            clear hcall ho8 hfl
            simp only [List.length_cons, List.length_nil, Nat.zero_add] at hcf ⊢
            go_wp2_with fail
            have z1 : ∀ n : In (FeedZ2 w8 ga (ga + 1) gf of S' .new), n.val.cell? ⟨ga + 1, 0, none⟩ = some (.string S') := fun n => n.prop.1.2.1.cell 0
            have z2 : ∀ n : In (FeedZ2 w8 ga (ga + 1) gf of S' .new), n.val.cell? ⟨gf, of, none⟩ = some (.int .i32 65533) := fun n => n.prop.2
            clear hc8
            have hne : Nonempty (In (FeedZ2 w8 ga (ga + 1) gf of S' .new)) := ⟨⟨_, gZ⟩⟩
            try simp only [List.append]
            refine wp_region_class (FeedZ2 w8 ga (ga + 1) gf of S' .new) (by kernel_rfl) (by kernel_rfl) gZ ?_
            repeat (go_big_quiet_step (first | (go_at_call 21; exact quiet_class FC.out _)))
            refine wpQuiet_nil ?_
            rintro _ ⟨m, rfl⟩
            have hm9 := m.prop
            generalize m.val = w9 at hm9 ⊢
            have hx9 := (H8.out.2.2.trans hm9.1.2.2)
            have c0 : w9.cell? ⟨ga + 1, 0, none⟩ = some (.string S') := hm9.1.2.1.cell 0
            have f0 : w9.frozen? ⟨ga + 1, 0, none⟩ = false := hm9.1.2.1.frozen 0
            have hnext : Fed w ga (ga + 1) ⟨#[]⟩ .new (w9.setCell ⟨ga + 1, 0, none⟩ (.string ⟨#[]⟩)) :=
              ⟨Blk.only hm9.1.1 ((Only.refl (ga + 1) w9).setCell (i := 0) (.string ⟨#[]⟩)) (by omega), refdec_set hm9.1.2.1 ⟨#[]⟩, rfl, hx9.setCell (by have := H1.out.2; show w.heap.size ≤ ga + 1; omega) _⟩
            have H9 := Lib.hid hnext
            clear hm9 z1 z2 hne gZ FC hnext hx9
            go_wp2_with fail
            go_roundg (gk - 1)
            case measure => have := hi.out; omega
            case rel =>
              refine ⟨i + 1, _, _, ?_, by go_num, H9.out⟩
              show i + 1 + (gk - 1) = L
              have := hi.out; omega
        · go_roundg (gk - 1)
          case measure => have := hi.out; omega
          case rel =>
            refine ⟨i + 1, _, _, ?_, by go_num, H7.out⟩
            show i + 1 + (gk - 1) = L
            have := hi.out; omega
      · go_wp2
        go_ret
        exact ⟨rfl, hinv.out.ext⟩
    · go_wp2
      go_ret
      exact ⟨rfl, hinv.out.ext⟩
end Go.Proofs.YtghbonkbifnidaaDoor
