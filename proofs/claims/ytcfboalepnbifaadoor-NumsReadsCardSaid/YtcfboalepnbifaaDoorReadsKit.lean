/- Two rows side by side, read alike: what each call does to both. -/
import Derived.Test.YtcfboalepnbifaaDoorRefText
import Derived.Test.YtcfboalepnbifaaDoorTellN
import Derived.Test.YtcfboalepnbifaaDoorMask
namespace Go.Proofs.YtcfboalepnbifaaDoor
open Go Go.RowKit

/-- What a number's reading tells of a row, where it then stands, and with which code. -/
def numF (s : ByteArray) (p : Nat) (c lo hi : Int) : Int × Nat × Int := if c = 0 then ((numAt s p lo hi).1, p + (numAt s p lo hi).2.1, (numAt s p lo hi).2.2) else (0, p, c)
def textF (s : ByteArray) (p : Nat) (c hi : Int) : ByteArray × Nat × Int := if c = 0 then textAt s p hi else (⟨#[]⟩, p, c)
def failF (c k : Int) : Int := if c = 0 then k else c
def okC (c : Int) : Prop := 0 ≤ c ∧ c ≤ 16
theorem numAt_okC (s : ByteArray) (p : Nat) (lo hi : Int) : okC (numAt s p lo hi).2.2 := by
  unfold numAt okC
  cases hG : rd 0 0 ((bts s).drop p) with
  | bad c =>
    have h1 := rd_bad _ _ _ _ hG
    show 0 ≤ c ∧ c ≤ 16
    omega
  | num u k =>
    unfold numR
    dsimp only
    split
    · show (0 : Int) ≤ 16 ∧ (16 : Int) ≤ 16; omega
    · show (0 : Int) ≤ 0 ∧ (0 : Int) ≤ 16; omega
theorem numF_ok (s : ByteArray) (p : Nat) (c lo hi : Int) (hp : p ≤ s.size) (hc : okC c) : (numF s p c lo hi).2.1 ≤ s.size ∧ okC (numF s p c lo hi).2.2 := by
  unfold numF
  split
  · exact ⟨numAt_size s p lo hi hp, numAt_okC s p lo hi⟩
  · exact ⟨hp, hc⟩
theorem textF_ok (s : ByteArray) (p : Nat) (c hi : Int) (hp : p ≤ s.size) (hc : okC c) : (textF s p c hi).2.1 ≤ s.size ∧ okC (textF s p c hi).2.2 := by
  unfold textF
  split
  · unfold textAt
    have h1 := numAt_size s p 0 hi hp
    have h2 := numAt_nonneg s p hi
    have h3 := numAt_okC s p 0 hi
    generalize numAt s p 0 hi = R at h1 h2 h3
    obtain ⟨n, k, d⟩ := R
    dsimp only at h1 h2 h3 ⊢
    split
    · exact ⟨hp, by show (0 : Int) ≤ 11 ∧ (11 : Int) ≤ 16; omega⟩
    · refine ⟨?_, h3⟩
      show p + k + n.toNat ≤ s.size
      omega
  · exact ⟨hp, hc⟩
theorem Num_all (W : World) (g : Nat) (s : ByteArray) (p : Nat) (c lo hi : Int) (hs : s.size ≤ 1000000) (hp : p ≤ s.size) (h : RowAt W g s p c) :
    Calls Tryd.prog 16 #[.pointer (some ⟨g, 0, none⟩), .int .i64 lo, .int .i64 hi] W fun e w' => e = .returned (.int .i64 (numF s p c lo hi).1) ∧ RowAt w' g s (numF s p c lo hi).2.1 (numF s p c lo hi).2.2 ∧ Only g W w' := by
  unfold numF
  by_cases hc : c = 0
  · subst hc
    rw [if_pos rfl]
    exact Num_at W g s p lo hi hs hp h
  · rw [if_neg hc]
    exact (Num_failed W g s p c lo hi hc h).mono fun e w' ⟨he, hx⟩ => ⟨he, h.ext hx, Only.of_ext hx⟩
theorem Count_all (W : World) (g : Nat) (s : ByteArray) (p : Nat) (c hi : Int) (hs : s.size ≤ 1000000) (hp : p ≤ s.size) (h : RowAt W g s p c) :
    Calls Tryd.prog 12 #[.pointer (some ⟨g, 0, none⟩), .int .i64 hi] W fun e w' => e = .returned (.int .i64 (numF s p c 0 hi).1) ∧ RowAt w' g s (numF s p c 0 hi).2.1 (numF s p c 0 hi).2.2 ∧ Only g W w' := by
  unfold numF
  by_cases hc : c = 0
  · subst hc
    rw [if_pos rfl]
    exact Count_at W g s p hi hs hp h
  · rw [if_neg hc]
    exact (Count_failed W g s p c hi hc h).mono fun e w' ⟨he, hx⟩ => ⟨he, h.ext hx, Only.of_ext hx⟩
theorem Text_all (W : World) (g : Nat) (s : ByteArray) (p : Nat) (c hi : Int) (hs : s.size ≤ 1000000) (hp : p ≤ s.size) (h : RowAt W g s p c) :
    Calls Tryd.prog 10 #[.pointer (some ⟨g, 0, none⟩), .int .i64 hi] W fun e w' => e = .returned (.string (textF s p c hi).1) ∧ RowAt w' g s (textF s p c hi).2.1 (textF s p c hi).2.2 ∧ Only g W w' := by
  unfold textF
  by_cases hc : c = 0
  · subst hc
    rw [if_pos rfl]
    exact Text_at W g s p hi hs hp h
  · rw [if_neg hc]
    exact (Text_failed W g s p c hi hc h).mono fun e w' ⟨he, hx⟩ => ⟨he, h.ext hx, Only.of_ext hx⟩
theorem Fail_all (W : World) (g : Nat) (s : ByteArray) (p : Nat) (c k : Int) (h : RowAt W g s p c) :
    Calls Tryd.prog 14 #[.pointer (some ⟨g, 0, none⟩), .int .i64 k] W fun e w' => e = .returned (.tuple #[]) ∧ RowAt w' g s p (failF c k) ∧ Only g W w' := by
  unfold failF
  by_cases hc : c = 0
  · subst hc
    rw [if_pos rfl]
    exact Fail_ok W g s p k h
  · rw [if_neg hc]
    exact (Fail_bad W g s p c _ hc h).mono fun e w' ⟨he, hx⟩ => ⟨he, h.ext hx, Only.of_ext hx⟩
theorem RefNum_all (W : World) (g : Nat) (s : ByteArray) (p : Nat) (c lo hi : Int) (hs : s.size ≤ 1000000) (hp : p ≤ s.size) (h : RefAt W g s p c) :
    Calls Tryd.prog 13 #[.pointer (some ⟨g, 0, none⟩), .int .i64 lo, .int .i64 hi] W fun e w' => e = .returned (.int .i64 (numF s p c lo hi).1) ∧ RefAt w' g s (numF s p c lo hi).2.1 (numF s p c lo hi).2.2 ∧ Only g W w' := by
  unfold numF
  by_cases hc : c = 0
  · subst hc
    rw [if_pos rfl]
    exact RefNum_at W g s p lo hi hs hp h
  · rw [if_neg hc]
    refine (RefNum_failed W g s p c _ _ hc h).mono ?_
    rintro e w' ⟨rfl, rfl⟩
    exact ⟨rfl, h, Only.refl _ _⟩
theorem RefText_all (W : World) (g : Nat) (s : ByteArray) (p : Nat) (c hi : Int) (hs : s.size ≤ 1000000) (hp : p ≤ s.size) (h : RefAt W g s p c) :
    Calls Tryd.prog 11 #[.pointer (some ⟨g, 0, none⟩), .int .i64 hi] W fun e w' => e = .returned (.string (textF s p c hi).1) ∧ RefAt w' g s (textF s p c hi).2.1 (textF s p c hi).2.2 ∧ Only g W w' := by
  unfold textF
  by_cases hc : c = 0
  · subst hc
    rw [if_pos rfl]
    exact RefText_at W g s p hi hs hp h
  · rw [if_neg hc]
    exact (RefText_failed W g s p c hi hc h).mono fun e w' ⟨he, hx⟩ => ⟨he, h.ext hx, Only.of_ext hx⟩
theorem RefFail_all (W : World) (g : Nat) (s : ByteArray) (p : Nat) (c k : Int) (h : RefAt W g s p c) :
    Calls Tryd.prog 15 #[.pointer (some ⟨g, 0, none⟩), .int .i64 k] W fun e w' => e = .returned (.tuple #[]) ∧ RefAt w' g s p (failF c k) ∧ Only g W w' := by
  unfold failF
  by_cases hc : c = 0
  · subst hc
    rw [if_pos rfl]
    exact RefFail_ok W g s p k h
  · rw [if_neg hc]
    refine (RefFail_bad W g s p c _ hc h).mono ?_
    rintro e w' ⟨rfl, rfl⟩
    exact ⟨rfl, h, Only.refl _ _⟩

/-- The two rows, and the read at hand. -/
def Duo (w0 : World) (g hb B : Nat) (x : ByteArray) (k l m : Int) (p : Nat) (c : Int) (q : Nat) (d : Int) (W : World) : Prop :=
  RowAt W g x p c ∧ RefAt W hb x q d ∧ W.cell? ⟨B, 0, none⟩ = some (.int .i64 k) ∧ W.cell? ⟨B, 1, none⟩ = some (.int .i64 l) ∧ W.cell? ⟨B, 2, none⟩ = some (.int .i64 m) ∧ Ext w0 W
/-- The blocks are apart, and new. -/
def Apart (w0 : World) (g hb B : Nat) : Prop := g ≠ hb ∧ B ≠ g ∧ B ≠ hb ∧ w0.heap.size ≤ g ∧ w0.heap.size ≤ hb
theorem duo_a {f : FuncId} {args : Array Value} {w0 : World} {g hb B : Nat} {x : ByteArray} {k l m : Int} {p : Nat} {c : Int} {r : Value} {p2 : Nat} {c2 : Int} (hap : Apart w0 g hb B)
    (hf : ∀ W, RowAt W g x p c → Calls Tryd.prog f args W fun e w' => e = .returned r ∧ RowAt w' g x p2 c2 ∧ Only g W w') (q : Nat) (d : Int) (W : World) (h : Duo w0 g hb B x k l m p c q d W) :
    Calls Tryd.prog f args W fun e w' => e = .returned r ∧ Duo w0 g hb B x k l m p2 c2 q d w' := by
  refine (hf W h.1).mono ?_
  rintro e w' ⟨rfl, h1, hx⟩
  obtain ⟨_, h2, h3, h4, h5, h6⟩ := h
  exact ⟨rfl, h1, h2.only hx (fun e => hap.1 e.symm), hx.cell hap.2.1 h3, hx.cell hap.2.1 h4, hx.cell hap.2.1 h5, Below.trans h6 (hx.below hap.2.2.2.1 h6.size)⟩
theorem duo_b {f : FuncId} {args : Array Value} {w0 : World} {g hb B : Nat} {x : ByteArray} {k l m : Int} {q : Nat} {d : Int} {r : Value} {q2 : Nat} {d2 : Int} (hap : Apart w0 g hb B)
    (hf : ∀ W, RefAt W hb x q d → Calls Tryd.prog f args W fun e w' => e = .returned r ∧ RefAt w' hb x q2 d2 ∧ Only hb W w') (p : Nat) (c : Int) (W : World) (h : Duo w0 g hb B x k l m p c q d W) :
    Calls Tryd.prog f args W fun e w' => e = .returned r ∧ Duo w0 g hb B x k l m p c q2 d2 w' := by
  obtain ⟨h1, h2, h3, h4, h5, h6⟩ := h
  refine (hf W h2).mono ?_
  rintro e w' ⟨rfl, h2', hx⟩
  exact ⟨rfl, h1.only hx hap.1, h2', hx.cell hap.2.2.1 h3, hx.cell hap.2.2.1 h4, hx.cell hap.2.2.1 h5, Below.trans h6 (hx.below hap.2.2.2.2 h6.size)⟩
theorem Duo.drew {w0 : World} {g hb B : Nat} {x : ByteArray} {k l m : Int} {p : Nat} {c : Int} {q : Nat} {d : Int} {W : World} (h : Duo w0 g hb B x k l m p c q d W) : Duo w0 g hb B x k l m p c q d W.drew := ⟨h.1, h.2.1, h.2.2.1, h.2.2.2.1, h.2.2.2.2.1, h.2.2.2.2.2.drew⟩
end Go.Proofs.YtcfboalepnbifaaDoor
