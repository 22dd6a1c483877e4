/- What the document says follows a first byte: lyceumref04.follows. -/
import Derived.Test.YtckdchkegbdiaaaDoorRunesRef
namespace Go.Proofs.YtckdchkegbdiaaaDoor
open Go Go.RowKit

def fol (b : Nat) : Int × Int × Int := if b < 128 then (0, 128, 191) else if (lead b).1 = 0 then (-1, 0, 0) else ((lead b).1, (lead b).2.1, (lead b).2.2)
theorem fol_small {b : Nat} (h : b < 128) : fol b = (0, 128, 191) := by unfold fol; rw [if_pos h]
theorem fol_none {b : Nat} (h : ¬ b < 128) (h2 : (lead b).1 = 0) : fol b = (-1, 0, 0) := by unfold fol; rw [if_neg h, if_pos h2]
theorem fol_lead {b l lo hi : Nat} (h : ¬ b < 128) (h2 : lead b = (l, lo, hi)) (h3 : l ≠ 0) : fol b = ((l : Int), (lo : Int), (hi : Int)) := by unfold fol; rw [if_neg h, h2, if_neg h3]
theorem lead_none {b : Nat} (h : b < 194 ∨ 244 < b) : (lead b).1 = 0 := by
  unfold lead
  repeat' split
  all_goals first | omega | rfl

theorem infoThree : (Tryd.prog.info? 127).map (·.size) = some 3 := by kernel_rfl
set_option maxHeartbeats 2000000 in
set_option maxRecDepth 100000 in
theorem follows_any (z : Int) (w : World) (h0 : 0 ≤ z) (h1 : z ≤ 255) : Calls Tryd.prog 81 #[.int .u8 z] w fun e w' => e = .returned (.agg #[.int .i64 (fol z.toNat).1, .int .i64 (fol z.toNat).2.1, .int .i64 (fol z.toNat).2.2]) ∧ Ext w w' := by
  by_cases c0 : z < 128
  · skip
    have hf : fol z.toNat = (0, 128, 191) := fol_small (by omega)
    rw [hf]
    clear hf
    go_enter Tryd.func81, Tryd.ntmps81
    go_wp2
    try simp only [Exit.inBlock, Exit.then]
    refine bodyPost_ret (results_cell_row rfl _ _ w.heap.size 127 _ (0, 0) _ rfl (Go.heap_alloc_new _ _) Tryd.underlying127 rfl infoThree) rfl ?_
    exact ⟨rfl, (Ext.refl w).alloc _⟩
  · skip
    by_cases c1 : 194 ≤ z ∧ z ≤ 223
    · obtain ⟨a1, b1⟩ := c1
      have hf : fol z.toNat = (1, 128, 191) := fol_lead (l := 1) (lo := 128) (hi := 191) (by omega) (lead1 (by omega)) (by omega)
      rw [hf]
      clear hf
      go_enter Tryd.func81, Tryd.ntmps81
      go_wp2
      try simp only [Exit.inBlock, Exit.then]
      refine bodyPost_ret (results_cell_row rfl _ _ w.heap.size 127 _ (0, 0) _ rfl (Go.heap_alloc_new _ _) Tryd.underlying127 rfl infoThree) rfl ?_
      exact ⟨rfl, (Ext.refl w).alloc _⟩
    · skip
      by_cases c2 : z = 224
      · subst c2
        have hf : fol (224 : Int).toNat = (2, 160, 191) := by decide
        rw [hf]
        clear hf
        go_enter Tryd.func81, Tryd.ntmps81
        go_wp2
        try simp only [Exit.inBlock, Exit.then]
        refine bodyPost_ret (results_cell_row rfl _ _ w.heap.size 127 _ (0, 0) _ rfl (Go.heap_alloc_new _ _) Tryd.underlying127 rfl infoThree) rfl ?_
        exact ⟨rfl, (Ext.refl w).alloc _⟩
      · have e2 : (z == 224) = false := by simpa using c2
        by_cases c3 : z = 237
        · subst c3
          have hf : fol (237 : Int).toNat = (2, 128, 159) := by decide
          rw [hf]
          clear hf
          go_enter Tryd.func81, Tryd.ntmps81
          go_wp2
          try simp only [Exit.inBlock, Exit.then]
          refine bodyPost_ret (results_cell_row rfl _ _ w.heap.size 127 _ (0, 0) _ rfl (Go.heap_alloc_new _ _) Tryd.underlying127 rfl infoThree) rfl ?_
          exact ⟨rfl, (Ext.refl w).alloc _⟩
        · have e3 : (z == 237) = false := by simpa using c3
          by_cases c4 : 225 ≤ z ∧ z ≤ 239
          · obtain ⟨a4, b4⟩ := c4
            have hf : fol z.toNat = (2, 128, 191) := fol_lead (l := 2) (lo := 128) (hi := 191) (by omega) (by rw [lead2 (by omega)]; simp; omega) (by omega)
            rw [hf]
            clear hf
            go_enter Tryd.func81, Tryd.ntmps81
            go_wp2
            try simp only [Exit.inBlock, Exit.then]
            refine bodyPost_ret (results_cell_row rfl _ _ w.heap.size 127 _ (0, 0) _ rfl (Go.heap_alloc_new _ _) Tryd.underlying127 rfl infoThree) rfl ?_
            exact ⟨rfl, (Ext.refl w).alloc _⟩
          · skip
            by_cases c5 : z = 240
            · subst c5
              have hf : fol (240 : Int).toNat = (3, 144, 191) := by decide
              rw [hf]
              clear hf
              go_enter Tryd.func81, Tryd.ntmps81
              go_wp2
              try simp only [Exit.inBlock, Exit.then]
              refine bodyPost_ret (results_cell_row rfl _ _ w.heap.size 127 _ (0, 0) _ rfl (Go.heap_alloc_new _ _) Tryd.underlying127 rfl infoThree) rfl ?_
              exact ⟨rfl, (Ext.refl w).alloc _⟩
            · have e5 : (z == 240) = false := by simpa using c5
              by_cases c6 : 241 ≤ z ∧ z ≤ 243
              · obtain ⟨a6, b6⟩ := c6
                have hf : fol z.toNat = (3, 128, 191) := fol_lead (l := 3) (lo := 128) (hi := 191) (by omega) (by rw [lead3 (by omega)]; simp; omega) (by omega)
                rw [hf]
                clear hf
                go_enter Tryd.func81, Tryd.ntmps81
                go_wp2
                try simp only [Exit.inBlock, Exit.then]
                refine bodyPost_ret (results_cell_row rfl _ _ w.heap.size 127 _ (0, 0) _ rfl (Go.heap_alloc_new _ _) Tryd.underlying127 rfl infoThree) rfl ?_
                exact ⟨rfl, (Ext.refl w).alloc _⟩
              · skip
                by_cases c7 : z = 244
                · subst c7
                  have hf : fol (244 : Int).toNat = (3, 128, 143) := by decide
                  rw [hf]
                  clear hf
                  go_enter Tryd.func81, Tryd.ntmps81
                  go_wp2
                  try simp only [Exit.inBlock, Exit.then]
                  refine bodyPost_ret (results_cell_row rfl _ _ w.heap.size 127 _ (0, 0) _ rfl (Go.heap_alloc_new _ _) Tryd.underlying127 rfl infoThree) rfl ?_
                  exact ⟨rfl, (Ext.refl w).alloc _⟩
                · have e7 : (z == 244) = false := by simpa using c7
                  by_cases d0 : z < 194
                  · skip
                    have hf : fol z.toNat = (-1, 0, 0) := fol_none (by omega) (lead_none (by omega))
                    rw [hf]
                    clear hf
                    go_enter Tryd.func81, Tryd.ntmps81
                    go_wp2
                    try simp only [Exit.inBlock, Exit.then]
                    refine bodyPost_ret (results_cell_row rfl _ _ w.heap.size 127 _ (0, 0) _ rfl (Go.heap_alloc_new _ _) Tryd.underlying127 rfl infoThree) rfl ?_
                    exact ⟨rfl, (Ext.refl w).alloc _⟩
                  · have d1 : 244 < z := by omega
                    have hf : fol z.toNat = (-1, 0, 0) := fol_none (by omega) (lead_none (by omega))
                    rw [hf]
                    clear hf
                    go_enter Tryd.func81, Tryd.ntmps81
                    go_wp2
                    try simp only [Exit.inBlock, Exit.then]
                    refine bodyPost_ret (results_cell_row rfl _ _ w.heap.size 127 _ (0, 0) _ rfl (Go.heap_alloc_new _ _) Tryd.underlying127 rfl infoThree) rfl ?_
                    exact ⟨rfl, (Ext.refl w).alloc _⟩
end Go.Proofs.YtckdchkegbdiaaaDoor
