/- The law FaultNone, walked. -/
import Derived.Test.YtlcnicgjlddldaaDoorFaultO
import Derived.Test.YtlcnicgjlddldaaDoorFaultP
import Derived.Test.YtlcnicgjlddldaaDoorFaultG
import Derived.Test.YtlcnicgjlddldaaDoorFaultN
namespace Go.Proofs.YtlcnicgjlddldaaDoor
open Go Go.RowKit

theorem Place_nil (w : World) : Calls Tryd.prog 13 #[.nilIface] w fun e w' => e = .returned (.tuple #[.int .i64 0, .bool false]) ∧ Ext w w' :=
  callsIn_wide.1 (Place_in 5 (Nat.le_refl _) .nilIface [] w rfl)
theorem Path_nil (w : World) : Calls Tryd.prog 17 #[.nilIface] w fun e w' => e = .returned (.string ⟨#[]⟩) ∧ Ext w w' :=
  callsIn_wide.1 (Path_in 5 (Nat.le_refl _) .nilIface [] w rfl (by simp) (by simp [pathOf, wordsOf, Lib.join]))

theorem Join_nils (w : World) (g : Nat) (h0 : w.cell? ⟨g, 0, none⟩ = some .nilIface) (h1 : w.cell? ⟨g, 1, none⟩ = some .nilIface) :
    Calls Tryd.prog 25 #[.slice (some ⟨g, 0, none⟩) 2 2] w fun e w' => e = .returned .nilIface ∧ Ext w w' := by
  refine (Join_some [none, none] g 0 2 w ?_ (by simp)).mono ?_
  · intro j t hj
    match j, hj with
    | 0, hj => exact ⟨_, h0, by simp at hj; subst hj; rfl⟩
    | 1, hj => exact ⟨_, h1, by simp at hj; subst hj; rfl⟩
  · rintro e w' ⟨v, rfl, hr, hx⟩
    obtain rfl : v = .nilIface := hr
    exact ⟨rfl, hx⟩

theorem codeText_short (c : Int) (h0 : -9223372036854775808 ≤ c) (h1 : c ≤ 9223372036854775807) : (Tr.code c).text.length ≤ 140737488355328 := by
  have h2 := Lib.itoa_length_le c h0 h1
  show (codeText c).length ≤ _
  unfold codeText
  rw [List.length_append]
  show 14 + _ ≤ _
  omega
theorem codeText_ne (c : Int) : codeText c ≠ [] := by simp [codeText]

set_option maxHeartbeats 4000000 in
set_option maxRecDepth 100000 in
theorem none_zero (p : Int) (s : ByteArray) (w : World) (hs : s.size ≤ 9223372036854775807) (hp : Pow10 w) (hg : ErrType w) :
    Calls Tryd.prog 6 #[.int .i64 p, .string s, .int .i64 0] w fun e w' => e = .returned (.bool true) ∧ Ext w w' := by
  have HP := Lib.hid (And.intro hp hg); clear hp hg
  go_enter Tryd.func6, Tryd.ntmps6
  go_wp2_with fail
  refine (awake_true _ HP.out.1).mono ?_
  rintro e w1 ⟨rfl, hx1⟩
  go_wp2_with fail
  all_goals
    refine (new_ok _).mono ?_
    rintro e w2 ⟨rfl, rfl⟩
    go_wp2_with fail
    refine (Join_nils _ _ (by simp) (by simp)).mono ?_
    rintro e w3 ⟨rfl, hx3⟩
    go_wp2_with fail
    refine (at_nil _ _).mono ?_
    rintro e w4 ⟨rfl, rfl⟩
    go_wp2_with fail
    refine (in_nil _ _).mono ?_
    rintro e w4 ⟨rfl, rfl⟩
    go_wp2_with fail
    refine (Place_nil _).mono ?_
    rintro e w5 ⟨rfl, hx5⟩
    go_wp2_with fail
    refine (new_ok _).mono ?_
    rintro e w6 ⟨rfl, rfl⟩
    go_wp2_with fail
    refine (Code_nil _).mono ?_
    rintro e w7 ⟨rfl, hx7⟩
    go_wp2_with fail
    refine (Text_nil _).mono ?_
    rintro e w8 ⟨rfl, hx8⟩
    go_wp2_with fail
    refine (Path_nil _).mono ?_
    rintro e w9 ⟨rfl, hx9⟩
    go_wp2_with fail
    refine (Is_nil 0 _).mono ?_
    rintro e w10 ⟨rfl, hx10⟩
    go_wp2_with fail
    refine (Code_nil _).mono ?_
    rintro e w11 ⟨rfl, hx11⟩
    go_wp2_with fail
    refine (Is_nil 0 _).mono ?_
    rintro e w12 ⟨rfl, hx12⟩
    go_wp2_with fail
    refine (Text_nil _).mono ?_
    rintro e w13 ⟨rfl, hx13⟩
    go_wp2
    go_ret
    exact ⟨rfl, ((((((((hx1.trans (((Ext.refl _).alloc _).trans hx3)).trans hx5).trans hx7).trans hx8).trans hx9).trans hx10).trans hx11).trans hx12).trans hx13⟩

set_option maxHeartbeats 4000000 in
set_option maxRecDepth 100000 in
theorem none_code (p : Int) (s : ByteArray) (c : Int) (w : World) (hs : s.size ≤ 9223372036854775807) (hc : c ≠ 0) (hc0 : -9223372036854775808 ≤ c) (hc1 : c ≤ 9223372036854775807) (hp : Pow10 w) (hg : ErrType w) :
    Calls Tryd.prog 6 #[.int .i64 p, .string s, .int .i64 c] w fun e w' => e = .returned (.bool true) ∧ Ext w w' := by
  have HP := Lib.hid (And.intro hp (And.intro hg (And.intro hc (And.intro hc0 hc1)))); clear hp hg
  have hb : (c == 0) = false := by simpa using hc
  clear hc hc0 hc1
  go_enter Tryd.func6, Tryd.ntmps6
  go_wp2_with fail
  refine (awake_true _ HP.out.1).mono ?_
  rintro e w1 ⟨rfl, hx1⟩
  go_wp2_with fail
  all_goals
    refine (new_ok _).mono ?_
    rintro e w2 ⟨rfl, rfl⟩
    go_wp2_with fail
    refine (Join_nils _ _ (by simp) (by simp)).mono ?_
    rintro e w3 ⟨rfl, hx3⟩
    go_wp2_with fail
    refine (at_nil _ _).mono ?_
    rintro e w4 ⟨rfl, rfl⟩
    go_wp2_with fail
    refine (in_nil _ _).mono ?_
    rintro e w4 ⟨rfl, rfl⟩
    go_wp2_with fail
    refine (Place_nil _).mono ?_
    rintro e w5 ⟨rfl, hx5⟩
    go_wp2_with fail
    refine (new_code c _ HP.out.2.2.1).mono ?_
    rintro e w6 ⟨rfl, rfl⟩
    have hrep : ∀ W, Rep W (.code c) (.iface 35 (.int .i64 c)) := fun W => ⟨rfl, HP.out.2.2.1, HP.out.2.2.2.1, HP.out.2.2.2.2⟩
    have HRep := Lib.hid hrep; clear hrep
    have hxa := (hx1.trans (((Ext.refl _).alloc _).trans hx3)).trans hx5
    go_wp2_with fail
    refine (Code_nil _).mono ?_
    rintro e w7 ⟨rfl, hx7⟩
    go_wp2_with fail
    refine (Text_nil _).mono ?_
    rintro e w8 ⟨rfl, hx8⟩
    go_wp2_with fail
    refine (Path_nil _).mono ?_
    rintro e w9 ⟨rfl, hx9⟩
    go_wp2_with fail
    refine (Is_nil c _).mono ?_
    rintro e w10 ⟨rfl, hx10⟩
    have hcd : decide (c = 0) = false := by simpa using HP.out.2.2.1
    have hxb := (((hxa.trans hx7).trans hx8).trans hx9).trans hx10
    rw [hcd]
    go_wp2_with fail
    refine (Code_rep (.code c) _ _ (HP.out.2.1.ext hxb) (HRep.out _)).mono ?_
    rw [show (Tr.code c).codeOf = c from rfl]
    rintro e w11 ⟨rfl, hx11⟩
    go_wp2_with fail
    refine (Is_rep (.code c) _ c _ (HRep.out _)).mono ?_
    rw [show (Tr.code c).has c = true by simp [Tr.has]]
    rintro e w12 ⟨rfl, hx12⟩
    have hxc := (hxb.trans hx11).trans hx12
    have hne := codeText_ne c
    have hne2 : (codeText c).isEmpty = false := by simpa using hne
    go_wp2_with fail
    refine (Text_rep (.code c) _ _ (HRep.out _) (HP.out.1.ext hxc) (codeText_short c HP.out.2.2.2.1 HP.out.2.2.2.2)).mono ?_
    rw [show (Tr.code c).text = codeText c from rfl]
    rintro e w13 ⟨rfl, hx13⟩
    go_wp2
    go_ret
    exact ⟨rfl, hxc.trans hx13⟩
end Go.Proofs.YtlcnicgjlddldaaDoor
