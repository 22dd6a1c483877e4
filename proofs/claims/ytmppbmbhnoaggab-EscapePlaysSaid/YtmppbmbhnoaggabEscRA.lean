/- The document's parser in memory; its escape. -/
import Derived.Test.YtmppbmbhnoaggabEscG
import Derived.Test.YtmppbmbhnoaggabEscRefMath
namespace Go.Proofs.Ytmppbmbhnoaggab
open Go Go.RowKit

def rparV (t : RPar) : Array Value := (Value.int .i64 t.inn :: (actC t.a ++ [.bool t.any])).toArray
/-- The document's parser lies in block g. -/
def RefPar (w : World) (g : Nat) (t : RPar) : Prop := Blk w g 33 (rparV t)
theorem RefPar.ext {w w' : World} {g : Nat} {t : RPar} (h : RefPar w g t) (hx : Ext w w') : RefPar w' g t := Blk.ext h hx
theorem RefPar.only {w w' : World} {g b : Nat} {t : RPar} (h : RefPar w g t) (hx : Only b w w') (hne : g ≠ b) : RefPar w' g t := Blk.only h hx hne
theorem RefPar.lt {w : World} {g : Nat} {t : RPar} (h : RefPar w g t) : g < w.heap.size := Blk.lt h
/-- An act alone that is handed back. -/
theorem ret_act1 {fn : Func} {p : Tmp} (hr : fn.results = #[.cell p 31]) {Q : Ending → World → Prop} {a : Act} {w : World} {G : Nat} {cs : Array Value} (hd : a.defers = []) (hp : a.tmps.getD p undef = .pointer (some ⟨G, 0, none⟩))
    (hb : Blk w G 31 cs) (hz : cs.size = 13) (hq : Q (.returned (.agg cs)) w) : bodyPost Try.prog fn Q .ret a w := by
  obtain ⟨tm, df⟩ := a
  simp only at hd hp
  subst hd
  exact bodyPost_ret (results_cell_row hr _ _ G 31 cs (0, 0) _ hp hb Try.underlying31 rfl (by rw [hz]; exact infoAct13)) rfl hq
theorem blk_at {w wX : World} (hs : wX.heap.size = w.heap.size) (cs : Array Value) : Blk (wX.alloc (.cells cs 31)) w.heap.size 31 cs := by
  have : Blk (wX.alloc (.cells cs 31)) wX.heap.size 31 cs := Go.heap_alloc_new _ _
  rwa [hs] at this
theorem ref_end {w wX : World} {g : Nat} {t : RPar} (hp : RefPar wX g t) (ho : Only g w wX) (cs : Array Value) : RefPar (wX.alloc (.cells cs 31)) g t ∧ Only g w (wX.alloc (.cells cs 31)) :=
  ⟨hp.ext ((Ext.refl _).alloc _), ho.ext ((Ext.refl _).alloc _)⟩
theorem size_set (w : World) (p : Addr) (v : Value) : (w.setCell p v).heap.size = w.heap.size := by simp [World.setCell]
/-- What a walk wants to know of the document's parser. -/
structure RFacts (w : World) (g : Nat) (i k r p m : Int) (n : Nat) (n0 n1 n2 n3 n4 n5 n6 n7 : Int) (b : Bool) : Prop where
  c0 : w.cell? ⟨g, 0, none⟩ = some (.int .i64 i)
  c1 : w.cell? ⟨g, 1, none⟩ = some (.int .i64 k)
  c2 : w.cell? ⟨g, 2, none⟩ = some (.int .i32 r)
  c3 : w.cell? ⟨g, 3, none⟩ = some (.int .u8 p)
  c4 : w.cell? ⟨g, 4, none⟩ = some (.int .u8 m)
  c5 : w.cell? ⟨g, 5, none⟩ = some (.int .i64 n)
  c6 : w.cell? ⟨g, 6, none⟩ = some (.int .i64 n0)
  c7 : w.cell? ⟨g, 7, none⟩ = some (.int .i64 n1)
  c8 : w.cell? ⟨g, 8, none⟩ = some (.int .i64 n2)
  c9 : w.cell? ⟨g, 9, none⟩ = some (.int .i64 n3)
  ca : w.cell? ⟨g, 10, none⟩ = some (.int .i64 n4)
  cb : w.cell? ⟨g, 11, none⟩ = some (.int .i64 n5)
  cc : w.cell? ⟨g, 12, none⟩ = some (.int .i64 n6)
  cd : w.cell? ⟨g, 13, none⟩ = some (.int .i64 n7)
  ce : w.cell? ⟨g, 14, none⟩ = some (.bool b)
theorem RefPar.facts {w : World} {g : Nat} {i k r p m : Int} {n : Nat} {n0 n1 n2 n3 n4 n5 n6 n7 : Int} {b : Bool} (h : RefPar w g ⟨i, ⟨k, r, p, m, n, [n0, n1, n2, n3, n4, n5, n6, n7]⟩, b⟩) : RFacts w g i k r p m n n0 n1 n2 n3 n4 n5 n6 n7 b :=
  ⟨h.cell 0, h.cell 1, h.cell 2, h.cell 3, h.cell 4, h.cell 5, h.cell 6, h.cell 7, h.cell 8, h.cell 9, h.cell 10, h.cell 11, h.cell 12, h.cell 13, h.cell 14⟩
set_option maxHeartbeats 2000000 in
set_option maxRecDepth 100000 in
theorem REscape_of (w : World) (g : Nat) (i kd rr pp m n0 n1 n2 n3 n4 n5 n6 n7 r : Int) (n : Nat) (b : Bool) (h : RefPar w g ⟨i, ⟨kd, rr, pp, m, n, [n0, n1, n2, n3, n4, n5, n6, n7]⟩, b⟩) (hr : 32 ≤ r) (hr2 : r ≤ 1114111) (hm : 0 ≤ m ∧ m ≤ 255) :
    Calls Try.prog 20 #[.pointer (some ⟨g, 0, none⟩), .int .i32 r] w fun e w' => e = .returned (actV (refEscE ⟨i, ⟨kd, rr, pp, m, n, [n0, n1, n2, n3, n4, n5, n6, n7]⟩, b⟩ r).2)
      ∧ RefPar w' g (refEscE ⟨i, ⟨kd, rr, pp, m, n, [n0, n1, n2, n3, n4, n5, n6, n7]⟩, b⟩ r).1 ∧ Only g w w' := by
  have c4 := h.facts.c4
  have z0 := Blk.frozen h 0
  have z4 := Blk.frozen h 4
  have hlt := h.lt
  have c0 := h.facts.c0
  have H := Lib.hid h; clear h
  unfold refEscE
  simp only
  by_cases k1 : r ≤ 47
  · rw [if_pos k1]
    have hw : r % 256 = r := by omega
    by_cases km : m = 0
    · subst km
      rw [if_pos rfl]
      have HP : RefPar (w.setCell ⟨g, 4, none⟩ (.int .u8 r)) g ⟨i, ⟨kd, rr, pp, r, n, [n0, n1, n2, n3, n4, n5, n6, n7]⟩, b⟩ := Blk.set_ H.out 4 _
      have HQ := Lib.hid HP; clear HP
      go_enter Try.func20, Try.ntmps20
      go_wp2
      exact ret_act1 rfl rfl rfl (blk_at (size_set _ _ _) _) rfl ⟨rfl, ref_end HQ.out ((Only.refl g w).setCell _) _⟩
    · rw [if_neg km]
      have hmb : (m == 0) = false := by simpa using km
      have HP : RefPar (w.setCell ⟨g, 4, none⟩ (.int .u8 255)) g ⟨i, ⟨kd, rr, pp, 255, n, [n0, n1, n2, n3, n4, n5, n6, n7]⟩, b⟩ := Blk.set_ H.out 4 _
      have HQ := Lib.hid HP; clear HP
      go_enter Try.func20, Try.ntmps20
      go_wp2
      exact ret_act1 rfl rfl rfl (blk_at (size_set _ _ _) _) rfl ⟨rfl, ref_end HQ.out ((Only.refl g w).setCell _) _⟩
  · rw [if_neg k1]
    have HS : ∀ k : Int, RefPar (w.setCell ⟨g, 0, none⟩ (.int .i64 k)) g ⟨k, ⟨kd, rr, pp, m, n, [n0, n1, n2, n3, n4, n5, n6, n7]⟩, b⟩ := fun k => Blk.set_ H.out 0 _
    have HQ := Lib.hid HS; clear HS
    by_cases km : m = 0
    · subst km
      by_cases k2 : r = 91
      · rw [if_pos ⟨rfl, k2⟩]
        subst k2
        go_enter Try.func20, Try.ntmps20
        go_wp2
        exact ret_act1 rfl rfl rfl (blk_at (size_set _ _ _) _) rfl ⟨rfl, ref_end (HQ.out 2) ((Only.refl g w).setCell _) _⟩
      · rw [if_neg (fun c => k2 c.2)]
        have e91 : (r == 91) = false := by simpa using k2
        by_cases k3 : r = 80 ∨ r = 88 ∨ 93 ≤ r ∧ r ≤ 95
        · rw [if_pos ⟨rfl, k3⟩]
          have k4 : r = 80 ∨ r = 88 ∨ r = 93 ∨ r = 94 ∨ r = 95 := by omega
          clear k3 k2 e91
          rcases k4 with rfl | rfl | rfl | rfl | rfl
          all_goals
            go_enter Try.func20, Try.ntmps20
            go_wp2
            exact ret_act1 rfl rfl rfl (blk_at (size_set _ _ _) _) rfl ⟨rfl, ref_end (HQ.out 4) ((Only.refl g w).setCell _) _⟩
        · rw [if_neg (fun c => k3 c.2)]
          have e80 : (r == 80) = false := by simp; omega
          have e88 : (r == 88) = false := by simp; omega
          have e93 : r < 93 ∨ 95 < r := by omega
          by_cases k5 : 126 < r
          · rw [if_pos (Or.inl k5)]
            clear k3 e93
            go_enter Try.func20, Try.ntmps20
            go_wp2
            exact ret_act1 rfl rfl rfl (blk_at (size_set _ _ _) _) rfl ⟨rfl, ref_end (HQ.out 0) ((Only.refl g w).setCell _) _⟩
          · rw [if_neg (by omega)]
            clear k3
            rcases e93 with e93 | e93
            all_goals
              go_enter Try.func20, Try.ntmps20
              go_wp2
              exact ret_act1 rfl rfl rfl (blk_at (size_set _ _ _) _) rfl ⟨rfl, ref_end (HQ.out 0) ((Only.refl g w).setCell _) _⟩
    · rw [if_neg (fun c => km c.1), if_neg (fun c => km c.1)]
      have hmb : (m == 0) = false := by simpa using km
      by_cases k5 : 126 < r
      · rw [if_pos (Or.inl k5)]
        go_enter Try.func20, Try.ntmps20
        go_wp2
        exact ret_act1 rfl rfl rfl (blk_at (size_set _ _ _) _) rfl ⟨rfl, ref_end (HQ.out 0) ((Only.refl g w).setCell _) _⟩
      · by_cases k6 : m = 255
        · rw [if_pos (Or.inr k6)]
          subst k6
          go_enter Try.func20, Try.ntmps20
          go_wp2
          exact ret_act1 rfl rfl rfl (blk_at (size_set _ _ _) _) rfl ⟨rfl, ref_end (HQ.out 0) ((Only.refl g w).setCell _) _⟩
        · rw [if_neg (by omega)]
          have hm255 : (m == 255) = false := by simpa using k6
          go_enter Try.func20, Try.ntmps20
          go_wp2
          exact ret_act1 rfl rfl rfl (blk_at (size_set _ _ _) _) rfl ⟨rfl, ref_end (HQ.out 0) ((Only.refl g w).setCell _) _⟩
end Go.Proofs.Ytmppbmbhnoaggab
