/- A number of an act; rows that are built of characters. -/
import Derived.Test.YtmppbmbhnoaggabEscI
import Derived.Test.YtmppbmbhnoaggabEscNumMath
import Derived.Test.YtmppbmbhnoaggabAppRune
namespace Go.Proofs.Ytmppbmbhnoaggab
open Go Go.RowKit

/-- Two rows of eight are the same. -/
theorem eq_nums_same (a0 a1 a2 a3 a4 a5 a6 a7 : Int) (w : World) :
    (Op.equalIn 10000 26 (.agg #[.int .i64 a0, .int .i64 a1, .int .i64 a2, .int .i64 a3, .int .i64 a4, .int .i64 a5, .int .i64 a6, .int .i64 a7])
      (.agg #[.int .i64 a0, .int .i64 a1, .int .i64 a2, .int .i64 a3, .int .i64 a4, .int .i64 a5, .int .i64 a6, .int .i64 a7])).run Try.prog w = .ok true w := by
  rw [show (10000 : Nat) = 9998 + 2 from rfl, eq_nums]
  simp
theorem blk_actAt (w : World) (g : Nat) (a : ActV) (h : Blk w g 31 (actC a).toArray) : ActAt w g 0 a := fun j u hu => by
  rw [Nat.zero_add, Blk.cell h j]; simpa using hu
theorem ActAt.num {w : World} {g : Nat} {a : ActV} (h : ActAt w g 0 a) {k : Nat} {z : Int} (hz : a.ns[k]? = some z) : w.cell? ⟨g, 5 + k, none⟩ = some (.int .i64 z) := by
  have := h (5 + k) (.int .i64 z) (by
    unfold actC
    rw [show 5 + k = k + 1 + 1 + 1 + 1 + 1 by omega]
    simp only [List.getElem?_cons_succ, List.getElem?_map, hz, Option.map_some])
  rwa [Nat.zero_add] at this
def numE (a : ActV) (i least : Int) : Int := if 0 ≤ i ∧ i < a.n then max (a.ns.getD i.toNat 0) least else least
set_option maxHeartbeats 2000000 in
set_option maxRecDepth 100000 in
theorem Num_of (kd rr pp mm : Int) (nn : Nat) (n0 n1 n2 n3 n4 n5 n6 n7 : Int) (i least : Int) (w : World) (hn : nn ≤ 8) :
    Calls Try.prog 17 #[.agg #[.int .i64 kd, .int .i32 rr, .int .u8 pp, .int .u8 mm, .int .i64 nn, .int .i64 n0, .int .i64 n1, .int .i64 n2, .int .i64 n3, .int .i64 n4, .int .i64 n5, .int .i64 n6, .int .i64 n7], .int .i64 i, .int .i64 least] w
      fun e w' => e = .returned (.int .i64 (numE ⟨kd, rr, pp, mm, nn, [n0, n1, n2, n3, n4, n5, n6, n7]⟩ i least)) ∧ Ext w w' := by
  have hA := blk_actAt (w.alloc (.cells #[.int .i64 kd, .int .i32 rr, .int .u8 pp, .int .u8 mm, .int .i64 nn, .int .i64 n0, .int .i64 n1, .int .i64 n2, .int .i64 n3, .int .i64 n4, .int .i64 n5, .int .i64 n6, .int .i64 n7] 31)) w.heap.size ⟨kd, rr, pp, mm, nn, [n0, n1, n2, n3, n4, n5, n6, n7]⟩ (Go.heap_alloc_new _ _)
  have hnI : (nn : Int) ≤ 8 := by omega
  unfold numE
  by_cases h0 : 0 ≤ i
  · obtain ⟨k, rfl⟩ : ∃ k : Nat, i = (k : Int) := ⟨i.toNat, by omega⟩
    simp only [Int.toNat_natCast]
    by_cases h1 : k < nn
    · rw [if_pos ⟨h0, by show (k : Int) < (nn : Int); omega⟩]
      have h1I : (k : Int) < (nn : Int) := by omega
      obtain ⟨z, hz⟩ : ∃ z, [n0, n1, n2, n3, n4, n5, n6, n7][k]? = some z := ⟨[n0, n1, n2, n3, n4, n5, n6, n7][k]'(by simp; omega), List.getElem?_eq_getElem _⟩
      have hd := hA.num hz
      have hk8 : k < 8 := by omega
      rw [List.getD_eq_getElem?_getD, hz]
      simp only [Option.getD_some]
      have harr : (#[.int .i64 kd, .int .i32 rr, .int .u8 pp, .int .u8 mm, .int .i64 nn, .int .i64 n0, .int .i64 n1, .int .i64 n2, .int .i64 n3, .int .i64 n4, .int .i64 n5, .int .i64 n6, .int .i64 n7] : Array Value)[5 + k]? = some (.int .i64 z) := by
        have hb : Blk (w.alloc (.cells #[.int .i64 kd, .int .i32 rr, .int .u8 pp, .int .u8 mm, .int .i64 nn, .int .i64 n0, .int .i64 n1, .int .i64 n2, .int .i64 n3, .int .i64 n4, .int .i64 n5, .int .i64 n6, .int .i64 n7] 31)) w.heap.size 31 _ := Go.heap_alloc_new _ _
        rw [Blk.cell hb] at hd; exact hd
      have HZ := Lib.hid (And.intro hz hA); clear hz hA
      by_cases hl : z < least
      · rw [show max z least = least by omega]
        go_enter Try.func17, Try.ntmps17
        go_wp2
        go_ret
        exact ⟨rfl, (Ext.refl w).alloc _⟩
      · rw [show max z least = z by omega]
        go_enter Try.func17, Try.ntmps17
        go_wp2
        all_goals
          go_ret
          exact ⟨by first | rfl | (have : z = least := by omega); rw [this], (Ext.refl w).alloc _⟩
    · rw [if_neg (by intro h; have : (k : Int) < (nn : Int) := h.2; omega)]
      have h1I : (nn : Int) ≤ (k : Int) := by omega
      clear hA
      go_enter Try.func17, Try.ntmps17
      go_wp2
      all_goals
        go_ret
        exact ⟨rfl, (Ext.refl w).alloc _⟩
  · rw [if_neg (fun h => h0 h.1)]
    clear hA
    go_enter Try.func17, Try.ntmps17
    go_wp2
    go_ret
    exact ⟨rfl, (Ext.refl w).alloc _⟩
/-- A row that is laid whole is the call's own. -/
theorem own_lit (W : World) (l : List Int) (n : Nat) (hn : l.length = n) (hm : n ≤ maxLen) (cs : Array Value) (hcs : cs = (cellsR l).toArray) : OwnR (W.alloc (.cells cs 21)) W.heap.size (.slice (some ⟨W.heap.size, 0, none⟩) n n) l := by
  subst hn hcs
  refine ⟨by rw [cellsR_len, Nat.mul_one], .inr ⟨W.heap.size, l.length, (cellsR l).toArray, rfl, Nat.le_refl _, Go.heap_alloc_new _ _, Nat.le_refl _, hm, by simp [cellsR_len], ?_⟩⟩
  rw [Nat.mul_one, ← cellsR_len, List.take_length]
theorem blk_grown {W w' : World} {g base : Nat} {t : TypeId} {cs : Array Value} {v : Value} {l : List Int} (h : Blk W g t cs) (ho : OwnR W base v l) (hg : W.grownBy w' v.ownBlock) (hgb : g < base) : Blk w' g t cs :=
  (hg.block g h.lt (fun e => by have := (World.ownsRow.lt ho g e.symm).1; omega)).trans h
def numsV (ns : List Int) : Array Value := (ns.map fun x => Value.int .i64 x).toArray
/-- A row under way, beside what is wanted. -/
structure InSt (W : World) (ns l : List Int) (v : Value) (wr : World) : Prop where
  own : OwnR wr (W.heap.size + 1) v l
  want : Blk wr W.heap.size 26 (numsV ns)
  ext : Ext W wr
theorem InSt.app {W w w' : World} {ns l : List Int} {v v' : Value} {r : Int} (h : InSt W ns l v w) (k : Appended (W.heap.size + 1) v (w.alloc (.cells #[.int .i32 r] 21)) (l ++ [r]) v' w') : InSt W ns (l ++ [r]) v' w' :=
  ⟨k.own, blk_grown (Blk.ext h.want ((Ext.refl w).alloc _)) (h.own.ext ((Ext.refl w).alloc _)) k.grown (by omega), ext_grown (h.ext.alloc _) (h.own.ext ((Ext.refl w).alloc _)) k.grown (by omega)⟩
theorem InSt.gt {W w : World} {ns l : List Int} {v : Value} (h : InSt W ns l v w) : W.heap.size + 1 ≤ w.heap.size := Blk.lt h.want
end Go.Proofs.Ytmppbmbhnoaggab
