/- What fault.Code and fault.Place tell of what a row tells. · A number's lowest bits. · A row's numbers, whatever the row's state. · What runes.firsts and runes.spans hold: their cells, out of the rows' condition. -/
import Derived.Test.YtcmllaeihnmkkaaDoorU1
import Derived.Test.YtcmllaeihnmkkaaDoorU4
import Derived.Test.YtcmllaeihnmkkaaDoorU5
import Derived.Test.YtcmllaeihnmkkaaDoorU6
import Derived.LaidEql
import Derived.WalkKit
import Derived.Laws.Bits128
import Derived.Test.YtcmllaeihnmkkaaDoorRows
import Derived.Lib.LaidU8
import Derived.LaidHandle
import Derived.LaidSub
import Derived.LaidMore
import Derived.Deep.MidRow
namespace Go.Proofs.YtcmllaeihnmkkaaDoor
open Go Go.RowKit

theorem Code_code (c : Int) (w : World) (hg : ErrType w) (h : c ≠ 0) (h0 : -9223372036854775808 ≤ c) (h1 : c ≤ 9223372036854775807) : Calls Tryd.prog 20 #[.iface 34 (.int .i64 c)] w fun e w' => e = .returned (.int .i64 c) ∧ Ext w w' :=
  Code_rep (.code c) _ w hg ⟨rfl, h, h0, h1⟩
theorem Code_placed (c p : Int) (w : World) (hg : ErrType w) (h : c ≠ 0) (h0 : -9223372036854775808 ≤ c) (h1 : c ≤ 9223372036854775807) (p0 : -9223372036854775808 ≤ p) (p1 : p ≤ 9223372036854775807) :
    Calls Tryd.prog 20 #[.iface 143 (.agg #[.iface 34 (.int .i64 c), .int .i64 p, .bool false])] w fun e w' => e = .returned (.int .i64 c) ∧ Ext w w' :=
  Code_rep (.place p (.code c)) _ w hg ⟨_, _, rfl, ⟨p0, p1⟩, rfl, h, h0, h1⟩
end Go.Proofs.YtcmllaeihnmkkaaDoor
namespace Go.Proofs.YtcmllaeihnmkkaaDoor
open Go Go.RowKit

theorem i64_mask (n : Int) (k : Nat) (hk : k ≤ 62) (m : Int) (hm : (BitVec.ofInt 64 m).toNat = 2 ^ k - 1) : bits .and .i64 n m = n % (2 ^ k : Nat) := by
  have key : (BitVec.ofInt 64 n &&& BitVec.ofInt 64 m).toNat = (n % ((2 ^ 64 : Nat) : Int)).toNat % 2 ^ k := by
    rw [BitVec.toNat_and, BitVec.toNat_ofInt, hm, Nat.and_two_pow_sub_one_eq_mod]
  show IntKind.i64.wrap ((BitVec.ofInt 64 n &&& BitVec.ofInt 64 m).toNat : Nat) = _
  rw [key, IntKind.wrap_i64]
  have h1 : (2 ^ k : Nat) ∣ 2 ^ 64 := Nat.pow_dvd_pow 2 (by omega)
  have h2 : (((n % ((2 ^ 64 : Nat) : Int)).toNat : Nat) : Int) = n % ((2 ^ 64 : Nat) : Int) := Int.toNat_of_nonneg (Int.emod_nonneg _ (by decide))
  have h3 : (((n % ((2 ^ 64 : Nat) : Int)).toNat % 2 ^ k : Nat) : Int) = n % (2 ^ k : Nat) := by
    rw [Int.natCast_emod, h2]
    exact Int.emod_emod_of_dvd n (Int.natCast_dvd_natCast.2 h1)
  rw [h3]
  have h4 : (0 : Int) ≤ n % (2 ^ k : Nat) := Int.emod_nonneg _ (by have := Nat.two_pow_pos k; omega)
  have h5 : n % (2 ^ k : Nat) < (2 ^ k : Nat) := Int.emod_lt_of_pos _ (by have := Nat.two_pow_pos k; omega)
  have h6 : (2 ^ k : Nat) ≤ 2 ^ 62 := Nat.pow_le_pow_right (by decide) hk
  generalize n % (2 ^ k : Nat) = r at h4 h5
  generalize (2 ^ k : Nat) = q at h5 h6
  omega
end Go.Proofs.YtcmllaeihnmkkaaDoor
namespace Go.Proofs.YtcmllaeihnmkkaaDoor
open Go Go.RowKit

/-- What a number's reading tells of a row, where it then stands, and with which code. -/
def numF (s : ByteArray) (p : Nat) (c lo hi : Int) : Int × Nat × Int := if c = 0 then ((numAt s p lo hi).1, p + (numAt s p lo hi).2.1, (numAt s p lo hi).2.2) else (0, p, c)
def failF (c k : Int) : Int := if c = 0 then k else c
def okC (c : Int) : Prop := 0 ≤ c ∧ c ≤ 16
theorem numAt_okC (s : ByteArray) (p : Nat) (lo hi : Int) : okC (numAt s p lo hi).2.2 := by
  unfold numAt okC
  cases hG : rd 0 0 ((bts s).drop p) with
  | bad c =>
    have h1 := rd_bad _ _ _ _ hG
    show 0 ≤ c ∧ c ≤ 16
    omega
  | num u k =>
    unfold numGot
    dsimp only
    split
    · show (0 : Int) ≤ 16 ∧ (16 : Int) ≤ 16; omega
    · show (0 : Int) ≤ 0 ∧ (0 : Int) ≤ 16; omega
theorem numF_ok (s : ByteArray) (p : Nat) (c lo hi : Int) (hp : p ≤ s.size) (hc : okC c) : (numF s p c lo hi).2.1 ≤ s.size ∧ okC (numF s p c lo hi).2.2 := by
  unfold numF
  split
  · exact ⟨numAt_size s p lo hi hp, numAt_okC s p lo hi⟩
  · exact ⟨hp, hc⟩
theorem Num_all (W : World) (g : Nat) (s : ByteArray) (p : Nat) (c lo hi : Int) (hs : s.size ≤ 1000000) (hp : p ≤ s.size) (h : RowAt W g s p c) :
    Calls Tryd.prog 131 #[.pointer (some ⟨g, 0, none⟩), .int .i64 lo, .int .i64 hi] W fun e w' => e = .returned (.int .i64 (numF s p c lo hi).1) ∧ RowAt w' g s (numF s p c lo hi).2.1 (numF s p c lo hi).2.2 ∧ Only g W w' := by
  unfold numF
  by_cases hc : c = 0
  · subst hc
    rw [if_pos rfl]
    exact Num_at W g s p lo hi hs hp h
  · rw [if_neg hc]
    exact (Num_failed W g s p c lo hi hc h).mono fun e w' ⟨he, hx⟩ => ⟨he, h.ext hx, Only.of_ext hx⟩
theorem Count_all (W : World) (g : Nat) (s : ByteArray) (p : Nat) (c hi : Int) (hs : s.size ≤ 1000000) (hp : p ≤ s.size) (h : RowAt W g s p c) :
    Calls Tryd.prog 108 #[.pointer (some ⟨g, 0, none⟩), .int .i64 hi] W fun e w' => e = .returned (.int .i64 (numF s p c 0 hi).1) ∧ RowAt w' g s (numF s p c 0 hi).2.1 (numF s p c 0 hi).2.2 ∧ Only g W w' := by
  unfold numF
  by_cases hc : c = 0
  · subst hc
    rw [if_pos rfl]
    exact Count_at W g s p hi hs hp h
  · rw [if_neg hc]
    exact (Count_failed W g s p c hi hc h).mono fun e w' ⟨he, hx⟩ => ⟨he, h.ext hx, Only.of_ext hx⟩
theorem Fail_all (W : World) (g : Nat) (s : ByteArray) (p : Nat) (c k : Int) (h : RowAt W g s p c) :
    Calls Tryd.prog 53 #[.pointer (some ⟨g, 0, none⟩), .int .i64 k] W fun e w' => e = .returned (.tuple #[]) ∧ RowAt w' g s p (failF c k) ∧ Only g W w' := by
  unfold failF
  by_cases hc : c = 0
  · subst hc
    rw [if_pos rfl]
    exact Fail_ok W g s p k h
  · rw [if_neg hc]
    exact (Fail_bad W g s p c _ hc h).mono fun e w' ⟨he, hx⟩ => ⟨he, h.ext hx, Only.of_ext hx⟩
theorem RefNum_all (W : World) (g : Nat) (s : ByteArray) (p : Nat) (c lo hi : Int) (hs : s.size ≤ 1000000) (hp : p ≤ s.size) (h : RefAt W g s p c) :
    Calls Tryd.prog 59 #[.pointer (some ⟨g, 0, none⟩), .int .i64 lo, .int .i64 hi] W fun e w' => e = .returned (.int .i64 (numF s p c lo hi).1) ∧ RefAt w' g s (numF s p c lo hi).2.1 (numF s p c lo hi).2.2 ∧ Only g W w' := by
  unfold numF
  by_cases hc : c = 0
  · subst hc
    rw [if_pos rfl]
    exact RefNum_at W g s p lo hi hs hp h
  · rw [if_neg hc]
    refine (RefNum_failed W g s p c _ _ hc h).mono ?_
    rintro e w' ⟨rfl, rfl⟩
    exact ⟨rfl, h, Only.refl _ _⟩
theorem RefFail_all (W : World) (g : Nat) (s : ByteArray) (p : Nat) (c k : Int) (h : RefAt W g s p c) :
    Calls Tryd.prog 58 #[.pointer (some ⟨g, 0, none⟩), .int .i64 k] W fun e w' => e = .returned (.tuple #[]) ∧ RefAt w' g s p (failF c k) ∧ Only g W w' := by
  unfold failF
  by_cases hc : c = 0
  · subst hc
    rw [if_pos rfl]
    exact RefFail_ok W g s p k h
  · rw [if_neg hc]
    refine (RefFail_bad W g s p c _ hc h).mono ?_
    rintro e w' ⟨rfl, rfl⟩
    exact ⟨rfl, h, Only.refl _ _⟩
end Go.Proofs.YtcmllaeihnmkkaaDoor
namespace Go.Proofs.YtcmllaeihnmkkaaDoor
open Go Go.RowKit

/-- A struct of whole numbers of several kinds. -/
theorem kinds_of_struct {H : Type} {enc : TypeId × Value → H} {P : Program} {w : World} {base : Nat} {sp : Nat → Bool} {held : Bool} {fuel : Nat} {t : TypeId} {fs : Array Field} {ks : List IntKind} {zs : List Int} {cs : List Value} {p : List MemPlace}
    (ht : P.underlying t = some (.struct fs)) (hk : ks.length = fs.size) (hz : zs.length = fs.size)
    (hf : ∀ (i : Nat) (f : Field), fs[i]? = some f → ∃ k, ks[i]? = some k ∧ P.underlying f.type = some (.int k) ∧ f.offset = i ∧ P.cellsOf f.type = 1) (hct : P.cellsOf t = fs.size)
    (h : DataW.trod enc P w base sp held fuel t cs = some (.agg (List.zipWith (fun k z => .lit (.int k z)) ks zs), p)) : cs = List.zipWith (fun k z => Value.int k z) ks zs := by
  obtain ⟨xs, n, rfl, hx, hl, hxl, hall⟩ := DataW.trod_struct ht h
  have hxs : xs.map (·.1) = List.zipWith (fun k z => (DataW.lit (.int k z) : DataW H)) ks zs := by
    have := congrArg Prod.fst hx
    simpa using this.symm
  apply List.ext_getElem?
  intro i
  by_cases hi : i < fs.size
  · obtain ⟨k, hki, hu, ho, hc⟩ := hf i fs[i] (by simp [hi])
    have h1 := hall i fs[i] (by simp [hi])
    obtain ⟨b, hb⟩ : ∃ b, xs[i]? = some b := ⟨xs[i]'(by omega), List.getElem?_eq_getElem (by omega)⟩
    obtain ⟨z0, hz0⟩ : ∃ z, zs[i]? = some z := ⟨zs[i]'(by omega), List.getElem?_eq_getElem (by omega)⟩
    rw [hb, ho, hc] at h1
    obtain ⟨z, hcz, rfl, _⟩ := DataW.trod_int hu h1
    have h2 : cs[i]? = some (.int k z) := by
      have := congrArg (·[0]?) hcz
      simpa [List.getElem?_take, List.getElem?_drop] using this
    have h3 : (xs.map (·.1))[i]? = some (DataW.lit (.int k z) : DataW H) := by simp [hb]
    rw [hxs, List.getElem?_zipWith, hki, hz0] at h3
    simp only [Option.some.injEq, DataW.lit.injEq, Lit.int.injEq, true_and] at h3
    rw [h2, List.getElem?_zipWith, hki, hz0, h3]
  · rw [List.getElem?_eq_none (by omega), List.getElem?_eq_none (by simp; omega)]
/-- An array of such structs: its i-th element's cells. -/
theorem rows_of_array {P : Program} {w : World} {n : String} {g : Nat} {t e : TypeId} {m : Nat} {fs : Array Field} {ks : List IntKind} {zss : List (List Int)} {d : DataW Unit}
    (hg : P.globalNamed n = some g) (hy : (P.globals[g]?).map (·.type) = some t) (ht : P.underlying t = some (.array m e)) (he : P.underlying e = some (.struct fs)) (hk : ks.length = fs.size)
    (hf : ∀ (i : Nat) (f : Field), fs[i]? = some f → ∃ k, ks[i]? = some k ∧ P.underlying f.type = some (.int k) ∧ f.offset = i ∧ P.cellsOf f.type = 1) (hce : P.cellsOf e = fs.size)
    (hd : d = .agg (zss.map fun zs => .agg (List.zipWith (fun k z => .lit (.int k z)) ks zs))) (hz : ∀ zs, zs ∈ zss → zs.length = fs.size)
    (h : Lib.VarReads P w n d) (i : Nat) (hi : i < m) (zs : List Int) (hzs : zss[i]? = some zs) (j : Nat) (v : Value) (hv : (List.zipWith (fun k z => Value.int k z) ks zs)[j]? = some v) :
    w.cell? ⟨g, i * fs.size + j, none⟩ = some v := by
  obtain ⟨g', t', cs, fuel, p, hg', hty, hvar, hr⟩ := h
  obtain rfl := Option.some.inj (hg.symm.trans hg')
  obtain rfl := Option.some.inj (hy.symm.trans hty)
  subst hd
  obtain ⟨fuel', d', q, hdi, he'⟩ := Lib.array_elem ht hr i hi
  rw [List.getElem?_map, hzs] at hdi
  obtain rfl := Option.some.inj hdi
  rw [hce] at he'
  have hzl := hz zs (List.mem_of_getElem? hzs)
  have hcs := kinds_of_struct he hk hzl hf hce he'
  have hj : j < fs.size := by
    have := (List.getElem?_eq_some_iff.1 hv).1
    simp at this
    omega
  have e1 := congrArg (·[j]?) hcs
  simp only [List.getElem?_take, List.getElem?_drop] at e1
  rw [if_pos hj] at e1
  rw [World.var?_cell hg' hvar, ← Array.getElem?_toList, e1, hv]

/-- runes.firsts: from, to, how many follow, and from where to where the next one is. -/
def firstsTab : List (List Int) := [[194, 223, 1, 128, 191], [224, 224, 2, 160, 191], [225, 236, 2, 128, 191], [237, 237, 2, 128, 159], [238, 239, 2, 128, 191], [240, 240, 3, 144, 191], [241, 243, 3, 128, 191], [244, 244, 3, 128, 143]]
def firstsKinds : List IntKind := [.u8, .u8, .i64, .u8, .u8]
def firstsEl (zs : List Int) : List Value := List.zipWith (fun k z => Value.int k z) firstsKinds zs
def firstsCells : List Value := (firstsTab.map firstsEl).flatten
theorem cU8 : Tryd.prog.cellsOf 5 = 1 := by kernel_rfl
theorem cInt : Tryd.prog.cellsOf 3 = 1 := by kernel_rfl
theorem cI32 : Tryd.prog.cellsOf 21 = 1 := by kernel_rfl
theorem five_split {m : Nat} {zss : List (List Int)} {f : List Int → List Value} (hl : ∀ zs, zs ∈ zss → (f zs).length = m) : ∀ (j : Nat) (v : Value), (zss.map f).flatten[j]? = some v → ∃ i zs k, zss[i]? = some zs ∧ (f zs)[k]? = some v ∧ j = i * m + k := by
  induction zss with
  | nil => intro j v h; simp at h
  | cons z zss ih =>
    intro j v h
    have hz := hl z (List.mem_cons_self ..)
    rw [List.map_cons, List.flatten_cons] at h
    by_cases hj : j < m
    · rw [List.getElem?_append_left (by omega)] at h
      exact ⟨0, z, j, rfl, h, by omega⟩
    · rw [List.getElem?_append_right (by omega), hz] at h
      obtain ⟨i, zs, k, h1, h2, h3⟩ := ih (fun q hq => hl q (List.mem_cons_of_mem _ hq)) _ _ h
      refine ⟨i + 1, zs, k, by simpa using h1, h2, ?_⟩
      rw [Nat.add_mul]
      omega
/-- runes.spans: the first, the last, how wide. -/
def spansTab : List (List Int) := [[-2147483648, 31, 0], [127, 159, 0], [768, 879, 0], [4352, 4447, 2], [8203, 8207, 0], [11904, 12350, 2], [12353, 42191, 2], [44032, 55203, 2], [55296, 57343, 0], [63744, 64255, 2], [65024, 65039, 0], [65072, 65135, 2], [65281, 65376, 2], [65504, 65510, 2], [127744, 128591, 2], [129280, 129535, 2], [131072, 262141, 2], [1114112, 2147483647, 0]]
def spansKinds : List IntKind := [.i32, .i32, .i64]
def spansEl (zs : List Int) : List Value := List.zipWith (fun k z => Value.int k z) spansKinds zs
def spansCells : List Value := (spansTab.map spansEl).flatten
theorem gSpans : Tryd.prog.globalNamed "lyceum/runes.spans" = some 1 := by kernel_rfl
theorem ySpans : (Tryd.prog.globals[1]?).map (·.type) = some 170 := by kernel_rfl
theorem cSpan : Tryd.prog.cellsOf 169 = 3 := by kernel_rfl
def Spans (w : World) : Prop := w.rangeAt 1 0 spansCells
theorem Spans.ext {w w' : World} (h : Spans w) (hx : Ext w w') : Spans w' := fun j v hv => hx.cell (h j v hv)
theorem spans_all {p : List Int → Prop} (h : ∀ zs, zs ∈ spansTab → zs.length = 3 → p zs) : ∀ zs, zs ∈ spansTab → p zs := by
  intro zs hzs
  refine h zs hzs ?_
  simp only [spansTab, List.mem_cons, List.not_mem_nil, or_false] at hzs
  rcases hzs with rfl | rfl | rfl | rfl | rfl | rfl | rfl | rfl | rfl | rfl | rfl | rfl | rfl | rfl | rfl | rfl | rfl | rfl <;> rfl
theorem Spans_of_reads {W : World} (h : Lib.VarReads Tryd.prog W "lyceum/runes.spans" Rows.laid_lyceum_runes_spans) : Spans W := by
  intro j v hv
  have hlen : ∀ zs, zs ∈ spansTab → zs.length = 3 := spans_all fun zs _ h => h
  obtain ⟨i, zs, k, h1, h2, rfl⟩ := five_split (m := 3) (f := spansEl) (zss := spansTab) (by intro zs hzs; have := hlen zs hzs; simp [spansEl, spansKinds, this]) j v hv
  have hi : i < 18 := (List.getElem?_eq_some_iff.1 h1).1
  rw [Nat.zero_add]
  refine rows_of_array gSpans ySpans Tryd.underlying170 Tryd.underlying169 (ks := spansKinds) (zss := spansTab) rfl ?_ cSpan rfl (fun zs hzs => hlen zs hzs) h i hi zs h1 k v h2
  intro j f hj
  match j, hj with
  | 0, hj => simp at hj; subst hj; exact ⟨_, rfl, Tryd.underlying21, rfl, cI32⟩
  | 1, hj => simp at hj; subst hj; exact ⟨_, rfl, Tryd.underlying21, rfl, cI32⟩
  | 2, hj => simp at hj; subst hj; exact ⟨_, rfl, Tryd.underlying3, rfl, cInt⟩
  | j + 3, hj => simp at hj
theorem spans_of {L : List (String × DataW Unit)} {W : World} (h : laidMetH Tryd.prog L W) (hL : L.filter (fun x => x.1 == "lyceum/runes.spans") = [("lyceum/runes.spans", Rows.laid_lyceum_runes_spans)]) : Spans W := by
  have h1 := laidMetH.filter (fun x => x.1 == "lyceum/runes.spans") h
  rw [hL] at h1
  have h2 : laidMet Tryd.prog [("lyceum/runes.spans", Rows.laid_lyceum_runes_spans)] W := (laidMetH_iff.1 h1).1
  exact Spans_of_reads (Lib.laidMet.reads h2 (List.mem_singleton.2 rfl))
end Go.Proofs.YtcmllaeihnmkkaaDoor
