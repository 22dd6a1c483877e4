/- slices.Clone of a list of errors; what a row unwraps to. -/
import Derived.Test.YtcfboalepnbifaaDoorFacts
import Derived.Test.YtcfboalepnbifaaDoorRep
import Derived.Laws.AppendOwn
import Derived.Laws.OwnMore
import Derived.OwnWalk
namespace Go.Proofs.YtcfboalepnbifaaDoor
open Go Go.RowKit

theorem infoError : (Tryd.prog.info? 40).map (fun i => (i.zero, i.size, i.bytes)) = some (some .nilIface, 1, 16) := by kernel_rfl

theorem eql_errs_nil (a : Addr) (n c : Nat) (w : World) : (binOp .eql 80 (.slice (some a) n c) (.slice none 0 0)).run Tryd.prog w = .ok (.bool false) w := by kernel_rfl

set_option maxHeartbeats 1000000 in
set_option maxRecDepth 100000 in
theorem clone_errs (b off cap : Nat) (news : List Value) (w : World) (hb : news.length ≤ 1000000) (hn : ∀ (j : Nat) u, news[j]? = some u → w.cell? ⟨b, off + j, none⟩ = some u) (h1 : ∀ u ∈ news, u.oneCell' = true) :
    Calls Tryd.prog 77 #[.slice (some ⟨b, off, none⟩) news.length cap] w fun e w' => ∃ v, e = .returned v ∧ Ext w w' ∧ w'.ownsRow w.heap.size 40 1 v news.length news := by
  obtain ⟨i0, hi, hz0, hz1, hz2⟩ := info_parts infoError
  have HN := Lib.hid hn; clear hn
  have H1 := Lib.hid h1; clear h1
  have HI := Lib.hid (And.intro hi (And.intro hz0 (And.intro hz1 hz2))); clear hi hz0 hz1 hz2
  have hq := eql_errs_nil
  have hown0 : (w.alloc (.cells #[] 40)).ownsRow w.heap.size 40 1 (.slice (some ⟨w.heap.size, 0, none⟩) 0 0) 0 [] :=
    ⟨rfl, .inr ⟨w.heap.size, 0, #[], rfl, Nat.le_refl _, Go.heap_alloc_new w _, Nat.le_refl _, by unfold maxLen; omega, rfl, rfl⟩⟩
  have HO := Lib.hid hown0; clear hown0
  go_enter Tryd.func77, Tryd.ntmps77
  go_wp2_with (at_builtin; go_loud (refine wpList_append_own _ rfl _ _ 80 rfl w.heap.size 40 i0 .nilIface 1 16 Tryd.underlying80 HI.out.1 HI.out.2.1 HI.out.2.2.1 HI.out.2.2.2 rfl (by decide) _ 0 [] rfl HO.out ⟨b, off, none⟩ news.length cap news rfl (by simp) ?g1 H1.out (by unfold maxLen; omega) (by omega) (by simp) ?g2))
  case g1 =>
    intro j u hj
    have h := HN.out j u hj
    have hlt : b < w.heap.size := lt_of_cell h
    unfold Addr.add
    split
    · next h0 => subst h0; rw [World.cell?_alloc_lt _ _ _ hlt]; exact h
    · rw [World.cell?_alloc_lt _ _ _ hlt]; exact h
  case g2 =>
    intro v' w' hown' hgrow _
    go_wp2
    go_ret
    refine ⟨v', rfl, ?_, by simpa using hown'⟩
    exact Below.grown ((Below.refl w.heap.size w).alloc (Nat.le_refl _) _) hgrow (by simp) (fun k hk => by simp [Value.ownBlock] at hk; omega)
end Go.Proofs.YtcfboalepnbifaaDoor
