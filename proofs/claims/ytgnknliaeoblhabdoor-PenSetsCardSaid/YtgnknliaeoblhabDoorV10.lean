/- What stands first, the document's: lyceumref04.first. · The document's characters of a text: lyceumref04.Decode. -/
import Derived.Test.YtgnknliaeoblhabDoorV9
import Derived.Laws.Closers25b
namespace Go.Proofs.YtgnknliaeoblhabDoor
open Go Go.RowKit

theorem infoPart : (Tryd.prog.info? 48).map (·.size) = some 3 := by kernel_rfl
def partZ : Array Value := #[.int .i64 0, .int .i32 0, .bool false]
def partV (p : Nat × Int × Bool) : Array Value := #[.int .i64 p.1, .int .i32 p.2.1, .bool p.2.2]
theorem part_set {w : World} {R : Nat} (h : Blk w R 48 partZ) (a b c : Value) :
    Blk (((w.setCell ⟨R, 0, none⟩ a).setCell ⟨R, 1, none⟩ b).setCell ⟨R, 2, none⟩ c) R 48 #[a, b, c] :=
  ((h.set_ 0 a).set_ 1 b).set_ 2 c
theorem part_ret {w : World} {R : Nat} {cs : Array Value} (tmps : Array Value) (h : Blk w R 48 cs) (hz : cs.size = 3) (hp : tmps.getD 2 undef = .pointer (some ⟨R, 0, none⟩)) :
    (results Tryd.f15 tmps).run Tryd.prog w = .ok (.agg cs) w :=
  results_cell_row rfl tmps w R 48 cs (0, 0) _ hp h Tryd.underlying48 rfl (by rw [hz]; exact infoPart)
theorem ext_part {w0 w : World} {R : Nat} (h : Ext w0 w) (hR : w0.heap.size ≤ R) (a b c : Value) : Ext w0 (((w.setCell ⟨R, 0, none⟩ a).setCell ⟨R, 1, none⟩ b).setCell ⟨R, 2, none⟩ c) :=
  ((h.setCell hR a).setCell hR b).setCell hR c
theorem firstL_at (s : ByteArray) (hs : 0 < s.size) : firstL (bts s) = if s[0].toNat < 128 then (1, (s[0].toNat : Int), false) else if (lead s[0].toNat).1 = 0 then (1, 65533, false)
      else cont (lead s[0].toNat).1 (lead s[0].toNat).2.1 (lead s[0].toNat).2.2 (s[0].toNat % (128 / 2 ^ (lead s[0].toNat).1)) 1 ((bts s).drop 1) := by
  have h : bts s = s[0] :: (bts s).drop 1 := by
    have h1 := List.drop_eq_getElem_cons (l := bts s) (i := 0) (by rw [bts_len]; exact hs)
    rw [List.drop_zero] at h1
    exact h1
  rw [h]
  rfl
theorem cont_at (s : ByteArray) (l lo hi r i : Nat) (h : i < s.size) : cont (l + 1) lo hi r i ((bts s).drop i) = if lo ≤ s[i].toNat ∧ s[i].toNat ≤ hi then cont l 128 191 (r * 64 + s[i].toNat % 64) (i + 1) ((bts s).drop (i + 1)) else (i, 65533, false) := by
  rw [List.drop_eq_getElem_cons (by rw [bts_len]; exact h)]
  rfl
theorem cont_end (s : ByteArray) (l lo hi r i : Nat) (h : s.size ≤ i) : cont (l + 1) lo hi r i ((bts s).drop i) = (i, 65533, true) := by
  rw [List.drop_of_length_le (by rw [bts_len]; exact h)]
  rfl

set_option maxHeartbeats 4000000 in
set_option maxRecDepth 100000 in
theorem first_small (s : ByteArray) (w : World) (hs : 0 < s.size) (h : s[0].toNat < 128) :
    Calls Tryd.prog 15 #[.string s] w fun e w' => e = .returned (.agg (partV (firstL (bts s)))) ∧ Ext w w' := by
  obtain ⟨y, hy⟩ : ∃ y, s[0].toNat = y := ⟨_, rfl⟩
  have hy8 : y < 256 := by rw [← hy]; exact s[0].toNat_lt
  have hP := firstL_at s hs
  rw [hy] at hP
  rw [hy] at h
  rw [if_pos h] at hP
  have HF := Lib.hid (fol_small h)
  have HR := Lib.hid hP; clear hP
  go_enter Tryd.func15, Tryd.ntmps15
  go_wp2_with fail
  refine (follows_any (y : Int) _ (by omega) (by omega)).mono ?_
  rintro e w2 ⟨rfl, hx2⟩
  rw [show (y : Int).toNat = y from by omega, HF.out]
  have HB := Lib.hid (And.intro (Blk.ext (g := w.heap.size) (t := 48) (cs := partZ) (Go.heap_alloc_new w _) hx2) (((Ext.refl w).alloc _).trans hx2))
  have HB := Lib.hid (And.intro (HB.out.1.ext ((Ext.refl _).alloc (.cells #[.int .i64 0, .int .i64 128, .int .i64 191] 43))) (HB.out.2.alloc (.cells #[.int .i64 0, .int .i64 128, .int .i64 191] 43)))
  have HC : Hid (Blk (w2.alloc (.cells #[.int .i64 0, .int .i64 128, .int .i64 191] 43)) w2.heap.size 43 #[.int .i64 0, .int .i64 128, .int .i64 191]) := Lib.hid (Go.heap_alloc_new w2 _)
  clear hx2
  have q0 : (w2.alloc (.cells #[.int .i64 0, .int .i64 128, .int .i64 191] 43)).cell? ⟨w.heap.size, 0, none⟩ = some (.int .i64 0) := HB.out.1.cell 0
  have z0 : (w2.alloc (.cells #[.int .i64 0, .int .i64 128, .int .i64 191] 43)).frozen? ⟨w.heap.size, 0, none⟩ = false := HB.out.1.frozen 0
  have q1 : (w2.alloc (.cells #[.int .i64 0, .int .i64 128, .int .i64 191] 43)).cell? ⟨w.heap.size, 1, none⟩ = some (.int .i32 0) := HB.out.1.cell 1
  have z1 : (w2.alloc (.cells #[.int .i64 0, .int .i64 128, .int .i64 191] 43)).frozen? ⟨w.heap.size, 1, none⟩ = false := HB.out.1.frozen 1
  have q2 : (w2.alloc (.cells #[.int .i64 0, .int .i64 128, .int .i64 191] 43)).cell? ⟨w.heap.size, 2, none⟩ = some (.bool false) := HB.out.1.cell 2
  have z2 : (w2.alloc (.cells #[.int .i64 0, .int .i64 128, .int .i64 191] 43)).frozen? ⟨w.heap.size, 2, none⟩ = false := HB.out.1.frozen 2
  go_wp2
  try simp only [Exit.inBlock, Exit.then]
  refine bodyPost_ret (part_ret _ (part_set HB.out.1 _ _ _) rfl rfl) rfl ?_
  refine ⟨by rw [HR.out]; rfl, ext_part HB.out.2 (Nat.le_refl _) _ _ _⟩
set_option maxHeartbeats 4000000 in
set_option maxRecDepth 100000 in
theorem first_none (s : ByteArray) (w : World) (hs : 0 < s.size) (h : ¬ s[0].toNat < 128) (h2 : (lead s[0].toNat).1 = 0) :
    Calls Tryd.prog 15 #[.string s] w fun e w' => e = .returned (.agg (partV (firstL (bts s)))) ∧ Ext w w' := by
  obtain ⟨y, hy⟩ : ∃ y, s[0].toNat = y := ⟨_, rfl⟩
  have hy8 : y < 256 := by rw [← hy]; exact s[0].toNat_lt
  have hP := firstL_at s hs
  rw [hy] at hP
  rw [hy] at h h2
  rw [if_neg h, if_pos h2] at hP
  have HF := Lib.hid (fol_none h h2)
  clear h2
  have HR := Lib.hid hP; clear hP
  go_enter Tryd.func15, Tryd.ntmps15
  go_wp2_with fail
  refine (follows_any (y : Int) _ (by omega) (by omega)).mono ?_
  rintro e w2 ⟨rfl, hx2⟩
  rw [show (y : Int).toNat = y from by omega, HF.out]
  have HB := Lib.hid (And.intro (Blk.ext (g := w.heap.size) (t := 48) (cs := partZ) (Go.heap_alloc_new w _) hx2) (((Ext.refl w).alloc _).trans hx2))
  have HB := Lib.hid (And.intro (HB.out.1.ext ((Ext.refl _).alloc (.cells #[.int .i64 (-1), .int .i64 0, .int .i64 0] 43))) (HB.out.2.alloc (.cells #[.int .i64 (-1), .int .i64 0, .int .i64 0] 43)))
  have HC : Hid (Blk (w2.alloc (.cells #[.int .i64 (-1), .int .i64 0, .int .i64 0] 43)) w2.heap.size 43 #[.int .i64 (-1), .int .i64 0, .int .i64 0]) := Lib.hid (Go.heap_alloc_new w2 _)
  clear hx2
  have q0 : (w2.alloc (.cells #[.int .i64 (-1), .int .i64 0, .int .i64 0] 43)).cell? ⟨w.heap.size, 0, none⟩ = some (.int .i64 0) := HB.out.1.cell 0
  have z0 : (w2.alloc (.cells #[.int .i64 (-1), .int .i64 0, .int .i64 0] 43)).frozen? ⟨w.heap.size, 0, none⟩ = false := HB.out.1.frozen 0
  have q1 : (w2.alloc (.cells #[.int .i64 (-1), .int .i64 0, .int .i64 0] 43)).cell? ⟨w.heap.size, 1, none⟩ = some (.int .i32 0) := HB.out.1.cell 1
  have z1 : (w2.alloc (.cells #[.int .i64 (-1), .int .i64 0, .int .i64 0] 43)).frozen? ⟨w.heap.size, 1, none⟩ = false := HB.out.1.frozen 1
  have q2 : (w2.alloc (.cells #[.int .i64 (-1), .int .i64 0, .int .i64 0] 43)).cell? ⟨w.heap.size, 2, none⟩ = some (.bool false) := HB.out.1.cell 2
  have z2 : (w2.alloc (.cells #[.int .i64 (-1), .int .i64 0, .int .i64 0] 43)).frozen? ⟨w.heap.size, 2, none⟩ = false := HB.out.1.frozen 2
  go_wp2
  try simp only [Exit.inBlock, Exit.then]
  refine bodyPost_ret (part_ret _ (part_set HB.out.1 _ _ _) rfl rfl) rfl ?_
  refine ⟨by rw [HR.out]; rfl, ext_part HB.out.2 (Nat.le_refl _) _ _ _⟩
set_option maxHeartbeats 4000000 in
set_option maxRecDepth 100000 in
theorem first_lead1 (s : ByteArray) (w : World) (hs : 0 < s.size) (hb : s.size ≤ 1000000) (lo0 hi0 : Nat) (h : ¬ s[0].toNat < 128) (h2 : lead s[0].toNat = (1, lo0, hi0)) (h3 : 128 ≤ lo0) (h4 : hi0 ≤ 191) (h5 : 192 ≤ s[0].toNat) (h6 : s[0].toNat < 224) :
    Calls Tryd.prog 15 #[.string s] w fun e w' => e = .returned (.agg (partV (firstL (bts s)))) ∧ Ext w w' := by
  obtain ⟨y, hy⟩ : ∃ y, s[0].toNat = y := ⟨_, rfl⟩
  have hy8 : y < 256 := by rw [← hy]; exact s[0].toNat_lt
  have hP := firstL_at s hs
  rw [hy] at hP
  rw [hy] at h h2 h5 h6
  rw [if_neg h, if_neg (by rw [h2]; simp), h2] at hP
  dsimp only at hP
  have HF := Lib.hid (fol_lead h h2 (by omega))
  clear h2
  have HR := Lib.hid hP; clear hP
  go_enter Tryd.func15, Tryd.ntmps15
  go_wp2_with fail
  refine (follows_any (y : Int) _ (by omega) (by omega)).mono ?_
  rintro e w2 ⟨rfl, hx2⟩
  rw [show (y : Int).toNat = y from by omega, HF.out]
  have HB := Lib.hid (And.intro (Blk.ext (g := w.heap.size) (t := 48) (cs := partZ) (Go.heap_alloc_new w _) hx2) (((Ext.refl w).alloc _).trans hx2))
  have HB := Lib.hid (And.intro (HB.out.1.ext ((Ext.refl _).alloc (.cells #[.int .i64 1, .int .i64 (lo0 : Int), .int .i64 (hi0 : Int)] 43))) (HB.out.2.alloc (.cells #[.int .i64 1, .int .i64 (lo0 : Int), .int .i64 (hi0 : Int)] 43)))
  have HC : Hid (Blk (w2.alloc (.cells #[.int .i64 1, .int .i64 (lo0 : Int), .int .i64 (hi0 : Int)] 43)) w2.heap.size 43 #[.int .i64 1, .int .i64 (lo0 : Int), .int .i64 (hi0 : Int)]) := Lib.hid (Go.heap_alloc_new w2 _)
  clear hx2
  obtain ⟨⟨N, R, o⟩, hPe⟩ : ∃ P, firstL (bts s) = P := ⟨_, rfl⟩
  have HK := Lib.hid (HR.out.symm.trans hPe)
  clear HR
  have HR := Lib.hid hPe
  clear hPe
  have HX := Lib.hid (show (y : Int) - 192 = ((y % (128 / 2 ^ 1) : Nat) : Int) by omega)
  go_wp2_with fail
  go_loopg [4, 5] 1 (fun k r i wr => ∃ (a j lo hi : Nat), r = .int .i64 a ∧ i = .int .i64 j ∧ Hid (j + k = 2 ∧ 1 ≤ j) ∧ Hid (cont k lo hi a j ((bts s).drop j) = (N, R, o) ∧ (j = 1 → lo = lo0 ∧ hi = hi0 ∧ a < 64) ∧ (j ≠ 1 → lo = 128 ∧ hi = 191) ∧ (j = 2 → a < 4096) ∧ (j = 3 → a < 262144) ∧ (j = 4 → a < 16777216) ∧ j ≤ s.size) ∧ wr = (w2.alloc (.cells #[.int .i64 1, .int .i64 (lo0 : Int), .int .i64 (hi0 : Int)] 43)))
  case atStart =>
    refine ⟨y % (128 / 2 ^ 1), 1, lo0, hi0, by rw [HX.out], rfl, ⟨by omega, by omega⟩, ⟨HK.out, fun _ => ⟨rfl, rfl, ?_⟩, (fun e => absurd rfl e), (fun e => by cases e), (fun e => by cases e), (fun e => by cases e), hs⟩, rfl⟩
    have := HX.out
    omega
  case round =>
    obtain ⟨a, j, lo, hi, rfl, rfl, hj, hinv, rfl⟩ := hrel
    generalize hW : (w2.alloc (.cells #[.int .i64 1, .int .i64 (lo0 : Int), .int .i64 (hi0 : Int)] 43)) = W at HB HC ⊢
    have HW := Lib.hid hW; clear hW
    have c0 : W.cell? ⟨w2.heap.size, 0, none⟩ = some (.int .i64 1) := HC.out.cell 0
    have c1 : W.cell? ⟨w2.heap.size, 1, none⟩ = some (.int .i64 (lo0 : Int)) := HC.out.cell 1
    have c2 : W.cell? ⟨w2.heap.size, 2, none⟩ = some (.int .i64 (hi0 : Int)) := HC.out.cell 2
    have q0 : W.cell? ⟨w.heap.size, 0, none⟩ = some (.int .i64 0) := HB.out.1.cell 0
    have z0 : W.frozen? ⟨w.heap.size, 0, none⟩ = false := HB.out.1.frozen 0
    have q1 : W.cell? ⟨w.heap.size, 1, none⟩ = some (.int .i32 0) := HB.out.1.cell 1
    have z1 : W.frozen? ⟨w.heap.size, 1, none⟩ = false := HB.out.1.frozen 1
    have q2 : W.cell? ⟨w.heap.size, 2, none⟩ = some (.bool false) := HB.out.1.cell 2
    have z2 : W.frozen? ⟨w.heap.size, 2, none⟩ = false := HB.out.1.frozen 2
    obtain ⟨hj1, hj2⟩ := hj.out
    obtain ⟨i1, i2, i3, i4, i5, i6, i7⟩ := hinv.out
    have HJ := Lib.hid (And.intro hj1 hj2)
    have HA := Lib.hid (And.intro i4 (And.intro i5 i6))
    clear i4 i5 i6 hinv hj
    have hal : a < 16777216 ∧ (j ≤ 3 → a < 262144) := by
      have h1 := HJ.out
      have h2 := HA.out
      have : j = 1 ∨ j = 2 ∨ j = 3 ∨ j = 4 := by omega
      rcases this with e | e | e | e
      · have := (i2 e).2.2; omega
      · have := h2.1 e; omega
      · have := h2.2.1 e; omega
      · have := h2.2.2 e; omega
    by_cases hk : gk = 0
    · subst hk
      obtain rfl : j = 2 := by omega
      have e1 : ((2 : Nat), (a : Int), false) = (N, R, o) := i1
      have E1 := Lib.hid (HR.out.trans e1.symm); clear e1 i1 i2 i3 c1 c2 hj1 hj2
      have ha := hal.1
      clear hal
      go_wp2
      try simp only [Exit.inBlock, Exit.then]
      refine bodyPost_ret (part_ret _ (part_set HB.out.1 _ _ _) rfl rfl) rfl ?_
      refine ⟨by rw [E1.out]; rfl, ext_part HB.out.2 (Nat.le_refl _) _ _ _⟩
    · obtain ⟨k, rfl⟩ : ∃ k, gk = k + 1 := ⟨gk - 1, by omega⟩
      clear hk
      have hjl : j ≤ 1 := by omega
      by_cases hlt : j < s.size
      · obtain ⟨x, hx⟩ : ∃ x, s[j].toNat = x := ⟨_, rfl⟩
        have hx8 : x < 256 := by rw [← hx]; exact s[j].toNat_lt
        have hst := cont_at s k lo hi a j hlt
        rw [i1, hx] at hst
        clear i1
        have haj := hal.2 (by omega)
        have HL := Lib.hid (And.intro hal (And.intro i7 hlt))
        clear hal i7
        by_cases h1j : j = 1
        · subst h1j
          obtain ⟨rfl, rfl, ha64⟩ := i2 rfl
          clear i2 i3
          by_cases hr : lo ≤ x ∧ x ≤ hi
          · obtain ⟨g1, g2⟩ := hr
            rw [if_pos ⟨g1, g2⟩] at hst
            have HS := Lib.hid hst; clear hst
            go_wp2
            go_roundg k
            case measure => omega
            case rel =>
              refine ⟨a * 64 + x % 64, 2, 128, 191, ?_, by go_num, ⟨?_, by omega⟩, ⟨HS.out.symm, (fun e => by cases e), (fun _ => ⟨rfl, rfl⟩), (fun _ => by omega), (fun e => by cases e), (fun e => by cases e), by have := HL.out.2.2; omega⟩, HW.out.symm⟩
              · go_num
              · have := HJ.out.1; omega
          · rw [if_neg hr] at hst
            have E1 := Lib.hid (HR.out.trans hst); clear hst
            by_cases g1 : lo ≤ x
            · have g2 : hi < x := by omega
              clear hr
              go_wp2
              try simp only [Exit.inBlock, Exit.then]
              refine bodyPost_ret (part_ret _ (part_set HB.out.1 _ _ _) rfl rfl) rfl ?_
              refine ⟨by rw [E1.out]; rfl, ext_part HB.out.2 (Nat.le_refl _) _ _ _⟩
            · have g2 : x < lo := by omega
              clear hr g1
              go_wp2
              try simp only [Exit.inBlock, Exit.then]
              refine bodyPost_ret (part_ret _ (part_set HB.out.1 _ _ _) rfl rfl) rfl ?_
              refine ⟨by rw [E1.out]; rfl, ext_part HB.out.2 (Nat.le_refl _) _ _ _⟩
        · obtain ⟨rfl, rfl⟩ := i3 h1j
          clear i2 i3 c1 c2
          have hj1b : ((j : Int) == 1) = false := by simp; omega
          have HJ1 := Lib.hid h1j; clear h1j
          by_cases hr : 128 ≤ x ∧ x ≤ 191
          · obtain ⟨g1, g2⟩ := hr
            rw [if_pos ⟨g1, g2⟩] at hst
            have HS := Lib.hid hst; clear hst
            go_wp2
            go_roundg k
            case measure => omega
            case rel =>
              have hHA := HA.out
              have hHL := HL.out
              refine ⟨a * 64 + x % 64, j + 1, 128, 191, ?_, by go_num, ⟨?_, by omega⟩, ⟨HS.out.symm, (fun e => by have := HJ.out.2; omega), (fun _ => ⟨rfl, rfl⟩), (fun e => by have := HJ1.out; omega), (fun e => by have := hHA.1 (by omega); omega), (fun e => by have := hHA.2.1 (by omega); omega), by have := hHL.2.2; omega⟩, HW.out.symm⟩
              · go_num
              · have := HJ.out.1; omega
          · rw [if_neg hr] at hst
            have E1 := Lib.hid (HR.out.trans hst); clear hst
            by_cases g1 : 128 ≤ x
            · have g2 : 191 < x := by omega
              clear hr
              go_wp2
              try simp only [Exit.inBlock, Exit.then]
              refine bodyPost_ret (part_ret _ (part_set HB.out.1 _ _ _) rfl rfl) rfl ?_
              refine ⟨by rw [E1.out]; rfl, ext_part HB.out.2 (Nat.le_refl _) _ _ _⟩
            · have g2 : x < 128 := by omega
              clear hr g1
              go_wp2
              try simp only [Exit.inBlock, Exit.then]
              refine bodyPost_ret (part_ret _ (part_set HB.out.1 _ _ _) rfl rfl) rfl ?_
              refine ⟨by rw [E1.out]; rfl, ext_part HB.out.2 (Nat.le_refl _) _ _ _⟩
      · have hst := cont_end s k lo hi a j (by omega)
        rw [i1] at hst
        have E1 := Lib.hid (HR.out.trans hst); clear hst i1 i2 i3 c1 c2 hal
        go_wp2
        try simp only [Exit.inBlock, Exit.then]
        refine bodyPost_ret (part_ret _ (part_set HB.out.1 _ _ _) rfl rfl) rfl ?_
        refine ⟨by rw [E1.out]; rfl, ext_part HB.out.2 (Nat.le_refl _) _ _ _⟩
set_option maxHeartbeats 4000000 in
set_option maxRecDepth 100000 in
theorem first_lead2 (s : ByteArray) (w : World) (hs : 0 < s.size) (hb : s.size ≤ 1000000) (lo0 hi0 : Nat) (h : ¬ s[0].toNat < 128) (h2 : lead s[0].toNat = (2, lo0, hi0)) (h3 : 128 ≤ lo0) (h4 : hi0 ≤ 191) (h5 : 224 ≤ s[0].toNat) (h6 : s[0].toNat < 240) :
    Calls Tryd.prog 15 #[.string s] w fun e w' => e = .returned (.agg (partV (firstL (bts s)))) ∧ Ext w w' := by
  obtain ⟨y, hy⟩ : ∃ y, s[0].toNat = y := ⟨_, rfl⟩
  have hy8 : y < 256 := by rw [← hy]; exact s[0].toNat_lt
  have hP := firstL_at s hs
  rw [hy] at hP
  rw [hy] at h h2 h5 h6
  rw [if_neg h, if_neg (by rw [h2]; simp), h2] at hP
  dsimp only at hP
  have HF := Lib.hid (fol_lead h h2 (by omega))
  clear h2
  have HR := Lib.hid hP; clear hP
  go_enter Tryd.func15, Tryd.ntmps15
  go_wp2_with fail
  refine (follows_any (y : Int) _ (by omega) (by omega)).mono ?_
  rintro e w2 ⟨rfl, hx2⟩
  rw [show (y : Int).toNat = y from by omega, HF.out]
  have HB := Lib.hid (And.intro (Blk.ext (g := w.heap.size) (t := 48) (cs := partZ) (Go.heap_alloc_new w _) hx2) (((Ext.refl w).alloc _).trans hx2))
  have HB := Lib.hid (And.intro (HB.out.1.ext ((Ext.refl _).alloc (.cells #[.int .i64 2, .int .i64 (lo0 : Int), .int .i64 (hi0 : Int)] 43))) (HB.out.2.alloc (.cells #[.int .i64 2, .int .i64 (lo0 : Int), .int .i64 (hi0 : Int)] 43)))
  have HC : Hid (Blk (w2.alloc (.cells #[.int .i64 2, .int .i64 (lo0 : Int), .int .i64 (hi0 : Int)] 43)) w2.heap.size 43 #[.int .i64 2, .int .i64 (lo0 : Int), .int .i64 (hi0 : Int)]) := Lib.hid (Go.heap_alloc_new w2 _)
  clear hx2
  obtain ⟨⟨N, R, o⟩, hPe⟩ : ∃ P, firstL (bts s) = P := ⟨_, rfl⟩
  have HK := Lib.hid (HR.out.symm.trans hPe)
  clear HR
  have HR := Lib.hid hPe
  clear hPe
  have HX := Lib.hid (show (y : Int) - 224 = ((y % (128 / 2 ^ 2) : Nat) : Int) by omega)
  go_wp2_with fail
  go_loopg [4, 5] 2 (fun k r i wr => ∃ (a j lo hi : Nat), r = .int .i64 a ∧ i = .int .i64 j ∧ Hid (j + k = 3 ∧ 1 ≤ j) ∧ Hid (cont k lo hi a j ((bts s).drop j) = (N, R, o) ∧ (j = 1 → lo = lo0 ∧ hi = hi0 ∧ a < 64) ∧ (j ≠ 1 → lo = 128 ∧ hi = 191) ∧ (j = 2 → a < 4096) ∧ (j = 3 → a < 262144) ∧ (j = 4 → a < 16777216) ∧ j ≤ s.size) ∧ wr = (w2.alloc (.cells #[.int .i64 2, .int .i64 (lo0 : Int), .int .i64 (hi0 : Int)] 43)))
  case atStart =>
    refine ⟨y % (128 / 2 ^ 2), 1, lo0, hi0, by rw [HX.out], rfl, ⟨by omega, by omega⟩, ⟨HK.out, fun _ => ⟨rfl, rfl, ?_⟩, (fun e => absurd rfl e), (fun e => by cases e), (fun e => by cases e), (fun e => by cases e), hs⟩, rfl⟩
    have := HX.out
    omega
  case round =>
    obtain ⟨a, j, lo, hi, rfl, rfl, hj, hinv, rfl⟩ := hrel
    generalize hW : (w2.alloc (.cells #[.int .i64 2, .int .i64 (lo0 : Int), .int .i64 (hi0 : Int)] 43)) = W at HB HC ⊢
    have HW := Lib.hid hW; clear hW
    have c0 : W.cell? ⟨w2.heap.size, 0, none⟩ = some (.int .i64 2) := HC.out.cell 0
    have c1 : W.cell? ⟨w2.heap.size, 1, none⟩ = some (.int .i64 (lo0 : Int)) := HC.out.cell 1
    have c2 : W.cell? ⟨w2.heap.size, 2, none⟩ = some (.int .i64 (hi0 : Int)) := HC.out.cell 2
    have q0 : W.cell? ⟨w.heap.size, 0, none⟩ = some (.int .i64 0) := HB.out.1.cell 0
    have z0 : W.frozen? ⟨w.heap.size, 0, none⟩ = false := HB.out.1.frozen 0
    have q1 : W.cell? ⟨w.heap.size, 1, none⟩ = some (.int .i32 0) := HB.out.1.cell 1
    have z1 : W.frozen? ⟨w.heap.size, 1, none⟩ = false := HB.out.1.frozen 1
    have q2 : W.cell? ⟨w.heap.size, 2, none⟩ = some (.bool false) := HB.out.1.cell 2
    have z2 : W.frozen? ⟨w.heap.size, 2, none⟩ = false := HB.out.1.frozen 2
    obtain ⟨hj1, hj2⟩ := hj.out
    obtain ⟨i1, i2, i3, i4, i5, i6, i7⟩ := hinv.out
    have HJ := Lib.hid (And.intro hj1 hj2)
    have HA := Lib.hid (And.intro i4 (And.intro i5 i6))
    clear i4 i5 i6 hinv hj
    have hal : a < 16777216 ∧ (j ≤ 3 → a < 262144) := by
      have h1 := HJ.out
      have h2 := HA.out
      have : j = 1 ∨ j = 2 ∨ j = 3 ∨ j = 4 := by omega
      rcases this with e | e | e | e
      · have := (i2 e).2.2; omega
      · have := h2.1 e; omega
      · have := h2.2.1 e; omega
      · have := h2.2.2 e; omega
    by_cases hk : gk = 0
    · subst hk
      obtain rfl : j = 3 := by omega
      have e1 : ((3 : Nat), (a : Int), false) = (N, R, o) := i1
      have E1 := Lib.hid (HR.out.trans e1.symm); clear e1 i1 i2 i3 c1 c2 hj1 hj2
      have ha := hal.1
      clear hal
      go_wp2
      try simp only [Exit.inBlock, Exit.then]
      refine bodyPost_ret (part_ret _ (part_set HB.out.1 _ _ _) rfl rfl) rfl ?_
      refine ⟨by rw [E1.out]; rfl, ext_part HB.out.2 (Nat.le_refl _) _ _ _⟩
    · obtain ⟨k, rfl⟩ : ∃ k, gk = k + 1 := ⟨gk - 1, by omega⟩
      clear hk
      have hjl : j ≤ 2 := by omega
      by_cases hlt : j < s.size
      · obtain ⟨x, hx⟩ : ∃ x, s[j].toNat = x := ⟨_, rfl⟩
        have hx8 : x < 256 := by rw [← hx]; exact s[j].toNat_lt
        have hst := cont_at s k lo hi a j hlt
        rw [i1, hx] at hst
        clear i1
        have haj := hal.2 (by omega)
        have HL := Lib.hid (And.intro hal (And.intro i7 hlt))
        clear hal i7
        by_cases h1j : j = 1
        · subst h1j
          obtain ⟨rfl, rfl, ha64⟩ := i2 rfl
          clear i2 i3
          by_cases hr : lo ≤ x ∧ x ≤ hi
          · obtain ⟨g1, g2⟩ := hr
            rw [if_pos ⟨g1, g2⟩] at hst
            have HS := Lib.hid hst; clear hst
            go_wp2
            go_roundg k
            case measure => omega
            case rel =>
              refine ⟨a * 64 + x % 64, 2, 128, 191, ?_, by go_num, ⟨?_, by omega⟩, ⟨HS.out.symm, (fun e => by cases e), (fun _ => ⟨rfl, rfl⟩), (fun _ => by omega), (fun e => by cases e), (fun e => by cases e), by have := HL.out.2.2; omega⟩, HW.out.symm⟩
              · go_num
              · have := HJ.out.1; omega
          · rw [if_neg hr] at hst
            have E1 := Lib.hid (HR.out.trans hst); clear hst
            by_cases g1 : lo ≤ x
            · have g2 : hi < x := by omega
              clear hr
              go_wp2
              try simp only [Exit.inBlock, Exit.then]
              refine bodyPost_ret (part_ret _ (part_set HB.out.1 _ _ _) rfl rfl) rfl ?_
              refine ⟨by rw [E1.out]; rfl, ext_part HB.out.2 (Nat.le_refl _) _ _ _⟩
            · have g2 : x < lo := by omega
              clear hr g1
              go_wp2
              try simp only [Exit.inBlock, Exit.then]
              refine bodyPost_ret (part_ret _ (part_set HB.out.1 _ _ _) rfl rfl) rfl ?_
              refine ⟨by rw [E1.out]; rfl, ext_part HB.out.2 (Nat.le_refl _) _ _ _⟩
        · obtain ⟨rfl, rfl⟩ := i3 h1j
          clear i2 i3 c1 c2
          have hj1b : ((j : Int) == 1) = false := by simp; omega
          have HJ1 := Lib.hid h1j; clear h1j
          by_cases hr : 128 ≤ x ∧ x ≤ 191
          · obtain ⟨g1, g2⟩ := hr
            rw [if_pos ⟨g1, g2⟩] at hst
            have HS := Lib.hid hst; clear hst
            go_wp2
            go_roundg k
            case measure => omega
            case rel =>
              have hHA := HA.out
              have hHL := HL.out
              refine ⟨a * 64 + x % 64, j + 1, 128, 191, ?_, by go_num, ⟨?_, by omega⟩, ⟨HS.out.symm, (fun e => by have := HJ.out.2; omega), (fun _ => ⟨rfl, rfl⟩), (fun e => by have := HJ1.out; omega), (fun e => by have := hHA.1 (by omega); omega), (fun e => by have := hHA.2.1 (by omega); omega), by have := hHL.2.2; omega⟩, HW.out.symm⟩
              · go_num
              · have := HJ.out.1; omega
          · rw [if_neg hr] at hst
            have E1 := Lib.hid (HR.out.trans hst); clear hst
            by_cases g1 : 128 ≤ x
            · have g2 : 191 < x := by omega
              clear hr
              go_wp2
              try simp only [Exit.inBlock, Exit.then]
              refine bodyPost_ret (part_ret _ (part_set HB.out.1 _ _ _) rfl rfl) rfl ?_
              refine ⟨by rw [E1.out]; rfl, ext_part HB.out.2 (Nat.le_refl _) _ _ _⟩
            · have g2 : x < 128 := by omega
              clear hr g1
              go_wp2
              try simp only [Exit.inBlock, Exit.then]
              refine bodyPost_ret (part_ret _ (part_set HB.out.1 _ _ _) rfl rfl) rfl ?_
              refine ⟨by rw [E1.out]; rfl, ext_part HB.out.2 (Nat.le_refl _) _ _ _⟩
      · have hst := cont_end s k lo hi a j (by omega)
        rw [i1] at hst
        have E1 := Lib.hid (HR.out.trans hst); clear hst i1 i2 i3 c1 c2 hal
        go_wp2
        try simp only [Exit.inBlock, Exit.then]
        refine bodyPost_ret (part_ret _ (part_set HB.out.1 _ _ _) rfl rfl) rfl ?_
        refine ⟨by rw [E1.out]; rfl, ext_part HB.out.2 (Nat.le_refl _) _ _ _⟩
set_option maxHeartbeats 4000000 in
set_option maxRecDepth 100000 in
theorem first_lead3 (s : ByteArray) (w : World) (hs : 0 < s.size) (hb : s.size ≤ 1000000) (lo0 hi0 : Nat) (h : ¬ s[0].toNat < 128) (h2 : lead s[0].toNat = (3, lo0, hi0)) (h3 : 128 ≤ lo0) (h4 : hi0 ≤ 191) (h5 : 240 ≤ s[0].toNat) (h6 : s[0].toNat < 248) :
    Calls Tryd.prog 15 #[.string s] w fun e w' => e = .returned (.agg (partV (firstL (bts s)))) ∧ Ext w w' := by
  obtain ⟨y, hy⟩ : ∃ y, s[0].toNat = y := ⟨_, rfl⟩
  have hy8 : y < 256 := by rw [← hy]; exact s[0].toNat_lt
  have hP := firstL_at s hs
  rw [hy] at hP
  rw [hy] at h h2 h5 h6
  rw [if_neg h, if_neg (by rw [h2]; simp), h2] at hP
  dsimp only at hP
  have HF := Lib.hid (fol_lead h h2 (by omega))
  clear h2
  have HR := Lib.hid hP; clear hP
  go_enter Tryd.func15, Tryd.ntmps15
  go_wp2_with fail
  refine (follows_any (y : Int) _ (by omega) (by omega)).mono ?_
  rintro e w2 ⟨rfl, hx2⟩
  rw [show (y : Int).toNat = y from by omega, HF.out]
  have HB := Lib.hid (And.intro (Blk.ext (g := w.heap.size) (t := 48) (cs := partZ) (Go.heap_alloc_new w _) hx2) (((Ext.refl w).alloc _).trans hx2))
  have HB := Lib.hid (And.intro (HB.out.1.ext ((Ext.refl _).alloc (.cells #[.int .i64 3, .int .i64 (lo0 : Int), .int .i64 (hi0 : Int)] 43))) (HB.out.2.alloc (.cells #[.int .i64 3, .int .i64 (lo0 : Int), .int .i64 (hi0 : Int)] 43)))
  have HC : Hid (Blk (w2.alloc (.cells #[.int .i64 3, .int .i64 (lo0 : Int), .int .i64 (hi0 : Int)] 43)) w2.heap.size 43 #[.int .i64 3, .int .i64 (lo0 : Int), .int .i64 (hi0 : Int)]) := Lib.hid (Go.heap_alloc_new w2 _)
  clear hx2
  obtain ⟨⟨N, R, o⟩, hPe⟩ : ∃ P, firstL (bts s) = P := ⟨_, rfl⟩
  have HK := Lib.hid (HR.out.symm.trans hPe)
  clear HR
  have HR := Lib.hid hPe
  clear hPe
  have HX := Lib.hid (show (y : Int) - 240 = ((y % (128 / 2 ^ 3) : Nat) : Int) by omega)
  go_wp2_with fail
  go_loopg [4, 5] 3 (fun k r i wr => ∃ (a j lo hi : Nat), r = .int .i64 a ∧ i = .int .i64 j ∧ Hid (j + k = 4 ∧ 1 ≤ j) ∧ Hid (cont k lo hi a j ((bts s).drop j) = (N, R, o) ∧ (j = 1 → lo = lo0 ∧ hi = hi0 ∧ a < 64) ∧ (j ≠ 1 → lo = 128 ∧ hi = 191) ∧ (j = 2 → a < 4096) ∧ (j = 3 → a < 262144) ∧ (j = 4 → a < 16777216) ∧ j ≤ s.size) ∧ wr = (w2.alloc (.cells #[.int .i64 3, .int .i64 (lo0 : Int), .int .i64 (hi0 : Int)] 43)))
  case atStart =>
    refine ⟨y % (128 / 2 ^ 3), 1, lo0, hi0, by rw [HX.out], rfl, ⟨by omega, by omega⟩, ⟨HK.out, fun _ => ⟨rfl, rfl, ?_⟩, (fun e => absurd rfl e), (fun e => by cases e), (fun e => by cases e), (fun e => by cases e), hs⟩, rfl⟩
    have := HX.out
    omega
  case round =>
    obtain ⟨a, j, lo, hi, rfl, rfl, hj, hinv, rfl⟩ := hrel
    generalize hW : (w2.alloc (.cells #[.int .i64 3, .int .i64 (lo0 : Int), .int .i64 (hi0 : Int)] 43)) = W at HB HC ⊢
    have HW := Lib.hid hW; clear hW
    have c0 : W.cell? ⟨w2.heap.size, 0, none⟩ = some (.int .i64 3) := HC.out.cell 0
    have c1 : W.cell? ⟨w2.heap.size, 1, none⟩ = some (.int .i64 (lo0 : Int)) := HC.out.cell 1
    have c2 : W.cell? ⟨w2.heap.size, 2, none⟩ = some (.int .i64 (hi0 : Int)) := HC.out.cell 2
    have q0 : W.cell? ⟨w.heap.size, 0, none⟩ = some (.int .i64 0) := HB.out.1.cell 0
    have z0 : W.frozen? ⟨w.heap.size, 0, none⟩ = false := HB.out.1.frozen 0
    have q1 : W.cell? ⟨w.heap.size, 1, none⟩ = some (.int .i32 0) := HB.out.1.cell 1
    have z1 : W.frozen? ⟨w.heap.size, 1, none⟩ = false := HB.out.1.frozen 1
    have q2 : W.cell? ⟨w.heap.size, 2, none⟩ = some (.bool false) := HB.out.1.cell 2
    have z2 : W.frozen? ⟨w.heap.size, 2, none⟩ = false := HB.out.1.frozen 2
    obtain ⟨hj1, hj2⟩ := hj.out
    obtain ⟨i1, i2, i3, i4, i5, i6, i7⟩ := hinv.out
    have HJ := Lib.hid (And.intro hj1 hj2)
    have HA := Lib.hid (And.intro i4 (And.intro i5 i6))
    clear i4 i5 i6 hinv hj
    have hal : a < 16777216 ∧ (j ≤ 3 → a < 262144) := by
      have h1 := HJ.out
      have h2 := HA.out
      have : j = 1 ∨ j = 2 ∨ j = 3 ∨ j = 4 := by omega
      rcases this with e | e | e | e
      · have := (i2 e).2.2; omega
      · have := h2.1 e; omega
      · have := h2.2.1 e; omega
      · have := h2.2.2 e; omega
    by_cases hk : gk = 0
    · subst hk
      obtain rfl : j = 4 := by omega
      have e1 : ((4 : Nat), (a : Int), false) = (N, R, o) := i1
      have E1 := Lib.hid (HR.out.trans e1.symm); clear e1 i1 i2 i3 c1 c2 hj1 hj2
      have ha := hal.1
      clear hal
      go_wp2
      try simp only [Exit.inBlock, Exit.then]
      refine bodyPost_ret (part_ret _ (part_set HB.out.1 _ _ _) rfl rfl) rfl ?_
      refine ⟨by rw [E1.out]; rfl, ext_part HB.out.2 (Nat.le_refl _) _ _ _⟩
    · obtain ⟨k, rfl⟩ : ∃ k, gk = k + 1 := ⟨gk - 1, by omega⟩
      clear hk
      have hjl : j ≤ 3 := by omega
      by_cases hlt : j < s.size
      · obtain ⟨x, hx⟩ : ∃ x, s[j].toNat = x := ⟨_, rfl⟩
        have hx8 : x < 256 := by rw [← hx]; exact s[j].toNat_lt
        have hst := cont_at s k lo hi a j hlt
        rw [i1, hx] at hst
        clear i1
        have haj := hal.2 (by omega)
        have HL := Lib.hid (And.intro hal (And.intro i7 hlt))
        clear hal i7
        by_cases h1j : j = 1
        · subst h1j
          obtain ⟨rfl, rfl, ha64⟩ := i2 rfl
          clear i2 i3
          by_cases hr : lo ≤ x ∧ x ≤ hi
          · obtain ⟨g1, g2⟩ := hr
            rw [if_pos ⟨g1, g2⟩] at hst
            have HS := Lib.hid hst; clear hst
            go_wp2
            go_roundg k
            case measure => omega
            case rel =>
              refine ⟨a * 64 + x % 64, 2, 128, 191, ?_, by go_num, ⟨?_, by omega⟩, ⟨HS.out.symm, (fun e => by cases e), (fun _ => ⟨rfl, rfl⟩), (fun _ => by omega), (fun e => by cases e), (fun e => by cases e), by have := HL.out.2.2; omega⟩, HW.out.symm⟩
              · go_num
              · have := HJ.out.1; omega
          · rw [if_neg hr] at hst
            have E1 := Lib.hid (HR.out.trans hst); clear hst
            by_cases g1 : lo ≤ x
            · have g2 : hi < x := by omega
              clear hr
              go_wp2
              try simp only [Exit.inBlock, Exit.then]
              refine bodyPost_ret (part_ret _ (part_set HB.out.1 _ _ _) rfl rfl) rfl ?_
              refine ⟨by rw [E1.out]; rfl, ext_part HB.out.2 (Nat.le_refl _) _ _ _⟩
            · have g2 : x < lo := by omega
              clear hr g1
              go_wp2
              try simp only [Exit.inBlock, Exit.then]
              refine bodyPost_ret (part_ret _ (part_set HB.out.1 _ _ _) rfl rfl) rfl ?_
              refine ⟨by rw [E1.out]; rfl, ext_part HB.out.2 (Nat.le_refl _) _ _ _⟩
        · obtain ⟨rfl, rfl⟩ := i3 h1j
          clear i2 i3 c1 c2
          have hj1b : ((j : Int) == 1) = false := by simp; omega
          have HJ1 := Lib.hid h1j; clear h1j
          by_cases hr : 128 ≤ x ∧ x ≤ 191
          · obtain ⟨g1, g2⟩ := hr
            rw [if_pos ⟨g1, g2⟩] at hst
            have HS := Lib.hid hst; clear hst
            go_wp2
            go_roundg k
            case measure => omega
            case rel =>
              have hHA := HA.out
              have hHL := HL.out
              refine ⟨a * 64 + x % 64, j + 1, 128, 191, ?_, by go_num, ⟨?_, by omega⟩, ⟨HS.out.symm, (fun e => by have := HJ.out.2; omega), (fun _ => ⟨rfl, rfl⟩), (fun e => by have := HJ1.out; omega), (fun e => by have := hHA.1 (by omega); omega), (fun e => by have := hHA.2.1 (by omega); omega), by have := hHL.2.2; omega⟩, HW.out.symm⟩
              · go_num
              · have := HJ.out.1; omega
          · rw [if_neg hr] at hst
            have E1 := Lib.hid (HR.out.trans hst); clear hst
            by_cases g1 : 128 ≤ x
            · have g2 : 191 < x := by omega
              clear hr
              go_wp2
              try simp only [Exit.inBlock, Exit.then]
              refine bodyPost_ret (part_ret _ (part_set HB.out.1 _ _ _) rfl rfl) rfl ?_
              refine ⟨by rw [E1.out]; rfl, ext_part HB.out.2 (Nat.le_refl _) _ _ _⟩
            · have g2 : x < 128 := by omega
              clear hr g1
              go_wp2
              try simp only [Exit.inBlock, Exit.then]
              refine bodyPost_ret (part_ret _ (part_set HB.out.1 _ _ _) rfl rfl) rfl ?_
              refine ⟨by rw [E1.out]; rfl, ext_part HB.out.2 (Nat.le_refl _) _ _ _⟩
      · have hst := cont_end s k lo hi a j (by omega)
        rw [i1] at hst
        have E1 := Lib.hid (HR.out.trans hst); clear hst i1 i2 i3 c1 c2 hal
        go_wp2
        try simp only [Exit.inBlock, Exit.then]
        refine bodyPost_ret (part_ret _ (part_set HB.out.1 _ _ _) rfl rfl) rfl ?_
        refine ⟨by rw [E1.out]; rfl, ext_part HB.out.2 (Nat.le_refl _) _ _ _⟩
theorem RefFirst_any (s : ByteArray) (w : World) (hs : 0 < s.size) (hb : s.size ≤ 1000000) :
    Calls Tryd.prog 15 #[.string s] w fun e w' => e = .returned (.agg (partV (firstL (bts s)))) ∧ Ext w w' := by
  by_cases h : s[0].toNat < 128
  · exact first_small s w hs h
  · rcases lead_cases s[0].toNat with h2 | ⟨e1, e2, e3, e4, e5⟩ | ⟨e1, e2, e3, e4, e5⟩ | ⟨e1, e2, e3, e4, e5⟩
    · exact first_none s w hs h (by rw [h2])
    · exact first_lead1 s w hs hb (lead s[0].toNat).2.1 (lead s[0].toNat).2.2 h (Prod.ext e1 rfl) e2 e3 (by omega) (by omega)
    · exact first_lead2 s w hs hb (lead s[0].toNat).2.1 (lead s[0].toNat).2.2 h (Prod.ext e1 rfl) e2 e3 (by omega) (by omega)
    · exact first_lead3 s w hs hb (lead s[0].toNat).2.1 (lead s[0].toNat).2.2 h (Prod.ext e1 rfl) e2 e3 (by omega) (by omega)
end Go.Proofs.YtgnknliaeoblhabDoor
namespace Go.Proofs.YtgnknliaeoblhabDoor
open Go Go.RowKit

theorem bts_drop (s : ByteArray) (n : Nat) : bts (s.extract n s.size) = (bts s).drop n := by
  rw [bts_extract, List.take_of_length_le (by rw [bts_len]; omega)]
theorem size_drop (s : ByteArray) (n : Nat) : (s.extract n s.size).size = s.size - n := by rw [ByteArray.size_extract]; omega
theorem decL_at (s : ByteArray) (hs : 0 < s.size) : ∃ n r o, firstL (bts s) = (n, r, o) ∧ 1 ≤ n ∧ n ≤ s.size ∧ isRune r ∧ decL (bts s) = r :: decL ((bts s).drop n)
    ∧ (o = true → n = s.size ∧ r = 65533 ∧ (DecSt.new.run (bts s)).1 = [] ∧ (DecSt.new.run (bts s)).2.k ≠ 0)
    ∧ (o = false → DecSt.new.run (bts s) = (r :: (DecSt.new.run ((bts s).drop n)).1, (DecSt.new.run ((bts s).drop n)).2)) := by
  obtain ⟨n, r, o, h⟩ := firstL_eta (bts s)
  obtain ⟨b, t, hb⟩ : ∃ b t, bts s = b :: t := by
    cases hq : bts s with
    | nil => have := bts_len s; rw [hq] at this; simp at this; omega
    | cons b t => exact ⟨b, t, rfl⟩
  have hl := bts_len s
  rw [hb] at h hl ⊢
  obtain ⟨h1, h2, h3, h4⟩ := first_run b t h
  exact ⟨n, r, o, h, h1, by omega, (first_rune b t h).1, decL_first b t h, fun e => by obtain ⟨a1, a2⟩ := h3 e; exact ⟨by omega, a2⟩, h4⟩
theorem cell_one_newR (w : World) (v : Value) (t : TypeId) : ∀ j u, [v][j]? = some u → (w.alloc (.cells #[v] t)).cell? ((⟨w.heap.size, 0, none⟩ : Addr).add j) = some u := by
  intro j u h
  have hj : j = 0 := by
    have := (List.getElem?_eq_some_iff.1 h).1
    simp at this; omega
  subst hj
  rw [show (⟨w.heap.size, 0, none⟩ : Addr).add 0 = ⟨w.heap.size, 0, none⟩ from by unfold Addr.add; simp, Lib.cell_of_heap (Go.heap_alloc_new _ _)]
  simpa using h
theorem list_some (S : ByteArray) (h : 0 < S.size) : S.toList.isEmpty = false := by
  cases hq : S.toList with
  | nil =>
    have := (toList_nil_iff_emptyBytes S).1 hq
    rw [this] at h
    exact absurd h (by decide)
  | cons => rfl
theorem list_none (S : ByteArray) (h : ¬ 0 < S.size) : S.toList.isEmpty = true := by
  have h0 : S = ByteArray.empty := by
    apply ba_ext
    have : (bts S).length = 0 := by rw [bts_len]; omega
    rw [List.eq_nil_of_length_eq_zero this]; rfl
  rw [h0, (toList_nil_iff_emptyBytes _).2 rfl]
  rfl
theorem cell_one_newR2 (w : World) (o : Obj) (v : Value) (t : TypeId) : ∀ j u, [v][j]? = some u → ((w.alloc o).alloc (.cells #[v] t)).cell? ((⟨w.heap.size + 1, 0, none⟩ : Addr).add j) = some u := by
  have := cell_one_newR (w.alloc o) v t
  rw [show (w.alloc o).heap.size = w.heap.size + 1 from by simp] at this
  exact this
theorem grown_cell {w w' wr : World} {base : Nat} {v u : Value} {l : List Int} (hg : w.grownBy w' v.ownBlock) (ho : OwnR wr base v l) {p : Addr} (hp : wr.heap.size ≤ p.block) (hc : w.cell? p = some u) : w'.cell? p = some u :=
  World.grownBy.cell hg hc fun e => by have := (World.ownsRow.lt ho p.block e.symm).2; omega
set_option maxHeartbeats 4000000 in
set_option maxRecDepth 100000 in
theorem RefDecode_any (s : ByteArray) (w : World) (hb : s.size ≤ 1000000) :
    Calls Tryd.prog 9 #[.string s] w fun e w' => ∃ v, e = .returned v ∧ OwnR w' w.heap.size v (decL (bts s)) ∧ Ext w w' := by
  obtain ⟨i0, hi0, hz0, hz1, hz2⟩ := info_parts infoRune
  go_enter Tryd.func9, Tryd.ntmps9
  go_wp2
  go_loopg [0, 3] s.size (fun k a b wr => ∃ (S : ByteArray) (out : List Int), a = .string S ∧ S.size = k ∧ S.size ≤ 1000000 ∧ Hid (out ++ decL (bts S) = decL (bts s) ∧ OwnR wr w.heap.size b out ∧ Ext w wr))
  case atStart => exact ⟨s, [], rfl, rfl, hb, by simp, OwnR.nil _ _, Ext.refl w⟩
  case round =>
    obtain ⟨S, out, rfl, rfl, hS, hinv⟩ := hrel
    by_cases hpos : 0 < S.size
    · have hE := list_some S hpos
      obtain ⟨n, r, o, hf, hn1, hn2, hr, hd, _⟩ := decL_at S hpos
      have hlen : out.length ≤ 1000000 := by
        have h1 := congrArg List.length hinv.out.1
        rw [List.length_append] at h1
        have h2 := len_decL (bts s)
        rw [bts_len] at h2
        omega
      have hd' : (out ++ [r]) ++ decL (bts (S.extract n S.size)) = decL (bts s) := by
        rw [bts_drop, ← hinv.out.1, hd]; simp
      have hsd := size_drop S n
      have HD := Lib.hid (And.intro hd' (And.intro hsd hf)); clear hd hd' hsd hf
      go_wp2_with fail
      refine (RefFirst_any S _ hpos hS).mono ?_
      rintro e w2 ⟨rfl, hx2⟩
      rw [HD.out.2.2, show partV (n, r, o) = #[.int .i64 n, .int .i32 r, .bool o] from rfl]
      have HO := Lib.hid (hinv.out.2.1.ext ((((Ext.refl wr).trans hx2).alloc (.cells #[.int .i64 n, .int .i32 r, .bool o] 48)).alloc (.cells #[.int .i32 r] 21)))
      have HX := Lib.hid (((hinv.out.2.2.trans hx2).alloc (.cells #[.int .i64 n, .int .i32 r, .bool o] 48)).alloc (.cells #[.int .i32 r] 21))
      go_wp2_with (at_builtin; refine wpList_append_own_at _ rfl _ _ 33 rfl w.heap.size 21 i0 _ 1 4 Tryd.underlying33 hi0 hz0 hz1 hz2 rfl (by omega) u3 out.length (cellsR out) rfl HO.out ⟨w2.heap.size + 1, 0, none⟩ 1 1 [.int .i32 r] rfl rfl (cell_one_newR2 _ _ _ _) (fun y hy => by rw [List.mem_singleton.1 hy]; rfl) (by unfold maxLen; omega) (by omega) (by have := HX.out.size; exact this) ?_)
      intro v' w' hown hg _ _
      have HG := Lib.hid (And.intro (OwnR.more (m := [r]) hown) (ext_grown HX.out HO.out hg (Nat.le_refl _)))
      have c0 := grown_cell hg hinv.out.2.1 (p := ⟨w2.heap.size, 0, none⟩) hx2.size (((Ext.refl _).alloc (.cells #[.int .i32 r] 21)).cell (Lib.cell_of_heap (Go.heap_alloc_new w2 (.cells #[.int .i64 n, .int .i32 r, .bool o] 48)) 0))
      clear hown hg hx2
      go_wp2
      go_roundg (S.size - n)
      case measure => omega
      case rel =>
        refine ⟨S.extract n S.size, out ++ [r], rfl, HD.out.2.1, ?_, HD.out.1, HG.out.1, HG.out.2⟩
        rw [HD.out.2.1]; omega
    · have hE := list_none S hpos
      have hout : out = decL (bts s) := by
        rw [← hinv.out.1, show bts S = [] from List.eq_nil_of_length_eq_zero (by rw [bts_len]; omega), decL_nil, List.append_nil]
      have HF := Lib.hid hout; clear hout
      go_wp2
      go_ret
      exact ⟨_, rfl, HF.out ▸ hinv.out.2.1, hinv.out.2.2⟩
end Go.Proofs.YtgnknliaeoblhabDoor
