/- The piles behind steps. -/
import Derived.Test.YtlcnicgjlddldaaDoorJoinKit
import Derived.Test.YtlcnicgjlddldaaDoorGood
import Derived.Deep.CutRange
import Derived.Deep.AppendLies
import Derived.Deep.RegionWith
namespace Go.Proofs.YtlcnicgjlddldaaDoor
open Go Go.RowKit

/-- A step, as its struct's five cells say. -/
structure Step where
  kind : Int
  code : Int
  place : Int
  word : ByteArray
  far : Bool
def Step.cells (o : Step) : List Value := [.int .i64 o.kind, .int .i64 o.code, .int .i64 o.place, .string o.word, .bool o.far]
def Step.sized (o : Step) : Prop := (-9223372036854775808 ≤ o.code ∧ o.code ≤ 9223372036854775807) ∧ (-9223372036854775808 ≤ o.place ∧ o.place ≤ 9223372036854775807)
def StepsAt (w : World) (g off : Nat) (os : List Step) : Prop := ∀ (i : Nat) o, os[i]? = some o → CellsAt w g (off + i * 5) o.cells ∧ o.sized

structure BJ (w wr : World) (i : Nat) (a b : Value) (us : List (Option Tr)) (vs cs : List Value) : Prop where
  piles : Piles w wr a b us us vs cs
  len : us.length ≤ i
  text : tsum us ≤ 64 * i
  good : Goods us

theorem XownsRow_form {w : World} {B : Nat} {e : TypeId} {z n : Nat} {v : Value} {xs : List Value} (h : w.ownsRow B e z v n xs) : ∃ A c, v = .slice A n c := by
  rcases h.2 with ⟨rfl, rfl⟩ | ⟨g, c, cur, rfl, _⟩
  · exact ⟨_, _, rfl⟩
  · exact ⟨_, _, rfl⟩
theorem RepOS.forms {S : Nat → Prop} {w : World} {t : Option Tr} {v : Value} (h : RepOS S w t v) : v = .nilIface ∨ ∃ u x, v = .iface u x := by
  cases t with
  | none => exact .inl h
  | some t => exact .inr h.form
theorem add_off (k j : Nat) : (⟨k, 0, none⟩ : Addr).add j = ⟨k, j, none⟩ := by unfold Addr.add; split <;> simp_all
theorem cells_new_add (w : World) (l : List Value) (T : TypeId) : ∀ (j : Nat) u, l[j]? = some u → (w.alloc (.cells l.toArray T)).cell? ((⟨w.heap.size, 0, none⟩ : Addr).add j) = some u := by
  intro j u hj
  have := cells_new w l T w.heap.size rfl j u hj
  rw [Nat.zero_add] at this
  rw [add_off]
  exact this
theorem at_new {A : Prop} {w1 : World} {o : Obj} {g h : Nat} (hat : A ∨ g = h) (e : h = w1.heap.size + 1) : A ∨ (w1.alloc o).heap.size ≤ g := by
  rcases hat with h1 | h1
  · exact .inl h1
  · exact .inr (by simp; omega)
theorem At_someS (S : Nat → Prop) (t : Tr) (v : Value) (p : Int) (w : World) (h : RepS S w t v) (h0 : -9223372036854775808 ≤ p) (h1 : p ≤ 9223372036854775807) :
    Calls Tryd.prog 24 #[v, .int .i64 p] w fun e w' => ∃ ty x, e = .returned (.iface ty x) ∧ RepOS S w' (some (.place p t)) (.iface ty x) ∧ Ext w w' := by
  refine (At_repS S (some t) v p w h h0 h1).mono ?_
  rintro e w' ⟨v', rfl, hv, hx⟩
  obtain ⟨ty, x, rfl⟩ := RepS.form (t := .place p t) hv
  exact ⟨ty, x, rfl, hv, hx⟩
theorem In_someS (S : Nat → Prop) (t : Tr) (v : Value) (s : ByteArray) (w : World) (h : RepS S w t v) :
    Calls Tryd.prog 23 #[v, .string s] w fun e w' => ∃ ty x, e = .returned (.iface ty x) ∧ RepOS S w' (some (.word s t)) (.iface ty x) ∧ Ext w w' := by
  refine (In_repS S (some t) v s w h).mono ?_
  rintro e w' ⟨v', rfl, hv, hx⟩
  obtain ⟨ty, x, rfl⟩ := RepS.form (t := .word s t) hv
  exact ⟨ty, x, rfl, hv, hx⟩
theorem mid_setA {w wx w3 : World} {g0 n ca q : Nat} {b : Value} {ua ub : List (Option Tr)} {vs cs : List Value} {t : Option Tr} {v' : Value} {Z : Obj} (hP : Piles w wx (.slice (some ⟨g0, 0, none⟩) ua.length ca) b ua ub vs cs) (hx : Ext wx w3) (hq : wx.heap[q]? = some Z)
    (hqn : ¬ Own (.slice (some ⟨g0, 0, none⟩) ua.length ca) b q) (hv : RepOS (Own (.slice (some ⟨g0, 0, none⟩) ua.length ca) b) w3 t v') :
    Piles w (w3.setCell ⟨g0, n, none⟩ v') (.slice (some ⟨g0, 0, none⟩) ua.length ca) b (ua.set n t) ub (vs.set n v') cs ∧ (w3.setCell ⟨g0, n, none⟩ v').heap[q]? = some Z := by
  refine ⟨(hP.ext hx).setA hv, ?_⟩
  have hne : q ≠ g0 := fun e => hqn (.inl (by rw [e]; rfl))
  rw [heap_setCell_other _ _ _ _ hne]
  exact heap_ext' hx hq
theorem refAt_form (S : Nat → Prop) (u : Option Tr) (cs : List Value) (p : Int) (w : World) (hSl : ∀ k, S k → k < w.heap.size) (h : RefO S w u cs) :
    Calls Tryd.prog 34 #[.agg cs.toArray, .int .i64 p] w fun e w' => ∃ (k : Nat) (c q : Int) (z : ByteArray) (a : Option Addr) (n cap : Nat), e = .returned (.agg #[.int .i64 k, .int .i64 c, .int .i64 q, .string z, .slice a n cap]) ∧ RefO S w' (u.map (.place p)) [.int .i64 k, .int .i64 c, .int .i64 q, .string z, .slice a n cap] ∧ Ext w w' := by
  refine (refAt_rep S u cs p w hSl h).mono ?_
  rintro e w' ⟨cs', rfl, hv, hx⟩
  obtain ⟨k, c, q, z, a, n, cap, rfl, _⟩ := hv.form
  exact ⟨k, c, q, z, a, n, cap, rfl, hv, hx⟩
theorem refIn_form (S : Nat → Prop) (u : Option Tr) (cs : List Value) (p : ByteArray) (w : World) (hSl : ∀ k, S k → k < w.heap.size) (h : RefO S w u cs) :
    Calls Tryd.prog 35 #[.agg cs.toArray, .string p] w fun e w' => ∃ (k : Nat) (c q : Int) (z : ByteArray) (a : Option Addr) (n cap : Nat), e = .returned (.agg #[.int .i64 k, .int .i64 c, .int .i64 q, .string z, .slice a n cap]) ∧ RefO S w' (u.map (.word p)) [.int .i64 k, .int .i64 c, .int .i64 q, .string z, .slice a n cap] ∧ Ext w w' := by
  refine (refIn_rep S u cs p w hSl h).mono ?_
  rintro e w' ⟨cs', rfl, hv, hx⟩
  obtain ⟨k, c, q, z, a, n, cap, rfl, _⟩ := hv.form
  exact ⟨k, c, q, z, a, n, cap, rfl, hv, hx⟩
/-- The five cells of the document's fault at a place of the pile. -/
theorem Piles.fiveB {w wr : World} {a : Value} {g m cb : Nat} {ua ub : List (Option Tr)} {vs cs : List Value} (h : Piles w wr a (.slice (some ⟨g, 0, none⟩) m cb) ua ub vs cs) (hm : m = ub.length) {n : Nat} {u : Option Tr} (hu : ub[n]? = some u) :
    ∃ (k : Nat) (c p : Int) (z : ByteArray) (ad : Option Addr) (l cap : Nat), RefO (Own a (.slice (some ⟨g, 0, none⟩) m cb)) wr u [.int .i64 k, .int .i64 c, .int .i64 p, .string z, .slice ad l cap] ∧
      wr.cell? ⟨g, n * 5, none⟩ = some (.int .i64 k) ∧ wr.cell? ⟨g, n * 5 + 1, none⟩ = some (.int .i64 c) ∧ wr.cell? ⟨g, n * 5 + 2, none⟩ = some (.int .i64 p) ∧ wr.cell? ⟨g, n * 5 + 3, none⟩ = some (.string z) ∧ wr.cell? ⟨g, n * 5 + 4, none⟩ = some (.slice ad l cap) := by
  subst hm
  obtain ⟨ds, h1, h2, h3⟩ := h.repb n u hu
  obtain ⟨k, c, p, z, ad, l, cap, rfl, _⟩ := RefO.form h3
  have hn := (List.getElem?_eq_some_iff.1 hu).1
  exact ⟨k, c, p, z, ad, l, cap, h3, by rw [h.ownb.cellAt _ (by omega)]; exact h2 0 (by omega), by rw [h.ownb.cellAt _ (by omega)]; exact h2 1 (by omega), by rw [h.ownb.cellAt _ (by omega)]; exact h2 2 (by omega), by rw [h.ownb.cellAt _ (by omega)]; exact h2 3 (by omega), by rw [h.ownb.cellAt _ (by omega)]; exact h2 4 (by omega)⟩
theorem joined_drop {us : List (Option Tr)} {k : Nat} (h : us.length ≤ k) : joined (us.drop k) = none := by
  rw [List.drop_of_length_le h]; rfl
theorem len_take1 {us : List (Option Tr)} {k : Nat} {x : Option Tr} (h : k ≤ us.length) : (us.take k ++ [x]).length = k + 1 := by
  rw [List.length_append, List.length_take]; simp; omega
theorem built_b {w wa w2 : World} {a b : Value} {us : List (Option Tr)} {vs cs fs : List Value} {g2 k cb' : Nat} (hP : Piles w wa a b (us.take k ++ [joined (us.drop k)]) us vs cs) (hx2 : Ext wa w2) (hown : w2.ownsRow wa.heap.size 37 5 (.slice (some ⟨g2, 0, none⟩) (k + 1) cb') (k + 1) (cs.take (k * 5) ++ fs))
    (hr : RefO (Own a b) wa (joined (us.drop k)) fs) (hk : k ≤ us.length) : Piles w w2 a (.slice (some ⟨g2, 0, none⟩) (k + 1) cb') (us.take k ++ [joined (us.drop k)]) (us.take k ++ [joined (us.drop k)]) vs (cs.take (k * 5) ++ fs) := by
  have hl := (RefO.form hr)
  obtain ⟨n1, n2, n3, n4, n5, n6, n7, rfl, _⟩ := hl
  exact Piles.newB hP (ext_grown hx2 _) (.inr (hown.lt g2 rfl).1) (by rw [len_take1 hk]; exact ownsRow_low hown hP.below.size) (RepsB.snoc (by rw [List.length_take, List.length_take]; have := hP.ownb.1; omega) (hP.repb.take k) rfl hr)
theorem extract8 (word : ByteArray) : (word.extract 0 8).size ≤ 8 := by
  rw [ByteArray.size_extract]; omega

def BuiltGoal : Prop := ∀ (os : List Step) (g off cap : Nat) (w : World), StepsAt w g off os →
    Calls Tryd.prog 12 #[.slice (some ⟨g, off, none⟩) os.length cap] w fun e w' => ∃ a b us vs cs, e = .returned (.tuple #[a, b]) ∧ BJ w w' 30 a b us vs cs
set_option maxHeartbeats 16000000 in
set_option maxRecDepth 100000 in
/-- The walk up to the four clauses: what each of them has to show is left as a proposition. -/
noncomputable def built_split : (P1 : Prop) ×' (P2 : Prop) ×' (P3 : Prop) ×' (P4 : Prop) ×' (Hid P1 → Hid P2 → Hid P3 → Hid P4 → BuiltGoal) := by
  apply PSigma.mk
  apply PSigma.mk
  apply PSigma.mk
  apply PSigma.mk
  · intro hh1 hh2 hh3 hh4 os g off cap w ho
    obtain ⟨i0, hi, hz0, hz1, hz2⟩ := info_parts infoErr
    obtain ⟨j0, hj, hy0, hy1, hy2⟩ := info_parts infoError
    have HO := Lib.hid ho; clear ho
    have HI := Lib.hid (And.intro hi (And.intro hz0 (And.intro hz1 hz2))); clear hi hz0 hz1 hz2
    have HJ := Lib.hid (And.intro hj (And.intro hy0 (And.intro hy1 hy2))); clear hj hy0 hy1 hy2
    go_enter Tryd.func12, Tryd.ntmps12
    go_wp2
    go_loopg [6, 4, 5] (min os.length 30) (fun k p a b wr => ∃ (i : Nat) (us : List (Option Tr)) (vs cs : List Value), i + k = min os.length 30 ∧ p = .int .i64 i ∧ Hid (BJ w wr i a b us vs cs))
    case atStart => exact ⟨0, [], [], [], by omega, rfl, ⟨Ext.refl w, World.ownsRow_nil _ _ _ _, World.ownsRow_nil _ _ _ _, by simp [Value.ownBlock], fun j t h => by simp at h, fun j t h => by simp at h⟩, by simp, by simp [tsum], Goods.nil⟩
    case round =>
      obtain ⟨i, us, vs, cs, hik, rfl, hinv⟩ := hrel
      have HK := Lib.hid hik; clear hik
      have hi1 : i ≤ os.length := by have := HK.out; omega
      have hi2 : i ≤ 30 := by have := HK.out; omega
      obtain ⟨ga, ca, rfl⟩ := XownsRow_form hinv.out.piles.owna
      obtain ⟨gb, cb, rfl⟩ := XownsRow_form hinv.out.piles.ownb
      have hul : us.length ≤ i := hinv.out.len
      have hu30 : us.length ≤ 30 := by omega
      by_cases hlt : i < os.length
      · obtain ⟨o, hog⟩ : ∃ o, os[i]? = some o := ⟨os[i], List.getElem?_eq_getElem hlt⟩
        by_cases hlt2 : i < 30
        · obtain ⟨hoc, hos⟩ := HO.out i o hog
          have hx : Ext w wr := hinv.out.piles.below
          have k0 : wr.cell? ⟨g, off + i * 5, none⟩ = some (.int .i64 o.kind) := hx.cell (hoc 0 _ rfl)
          have k1 : wr.cell? ⟨g, off + i * 5 + 1, none⟩ = some (.int .i64 o.code) := hx.cell (hoc 1 _ rfl)
          have k2 : wr.cell? ⟨g, off + i * 5 + 2, none⟩ = some (.int .i64 o.place) := hx.cell (hoc 2 _ rfl)
          have k3 : wr.cell? ⟨g, off + i * 5 + 3, none⟩ = some (.string o.word) := hx.cell (hoc 3 _ rfl)
          have k4 : wr.cell? ⟨g, off + i * 5 + 4, none⟩ = some (.bool o.far) := hx.cell (hoc 4 _ rfl)
          obtain ⟨kind, code, place, word, far⟩ := o
          dsimp only at k0 k1 k2 k3 k4
          clear hx hoc
          have HH := Lib.hid (And.intro hog hos); clear hog hos
          go_upto_if 35 with fail
          go_cut [9] from 33 to 37 (fun wd wx => ∃ s : ByteArray, wd = .string s ∧ s.size ≤ 8 ∧ wx = wr.alloc (.cells #[.int .i64 kind, .int .i64 code, .int .i64 place, .string word, .bool far] 66))
          case first =>
            by_cases hw8 : word.size > 8
            · go_wp2_with fail
              go_meet
              case rel => exact ⟨_, rfl, extract8 word, rfl⟩
            · go_wp2_with fail
              go_meet
              case rel => exact ⟨_, rfl, by omega, rfl⟩
          case rest =>
            obtain ⟨s, rfl, hs8, rfl⟩ := hcut
            go_upto_if 42 with fail
            go_cut [10] from 38 to 44 (fun cd wx => ∃ c : Int, cd = .int .i64 c ∧ (-9223372036854775808 ≤ c ∧ c ≤ 9223372036854775807) ∧ wx = wr.alloc (.cells #[.int .i64 kind, .int .i64 code, .int .i64 place, .string word, .bool far] 66))
            case first =>
              cases far
              · go_wp2_with fail
                go_meet
                case rel => exact ⟨_, rfl, by rw [i64_and31]; omega, rfl⟩
              · go_wp2_with fail
                go_meet
                case rel => exact ⟨_, rfl, HH.out.2.1, rfl⟩
            case rest =>
              obtain ⟨c, rfl, hcr, rfl⟩ := hcut
              have hP : Piles w (wr.alloc (.cells #[.int .i64 kind, .int .i64 code, .int .i64 place, .string word, .bool far] 66)) (.slice ga us.length ca) (.slice gb us.length cb) us us vs cs := hinv.out.piles.ext ((Ext.refl wr).alloc _)
              have hq : (wr.alloc (.cells #[.int .i64 kind, .int .i64 code, .int .i64 place, .string word, .bool far] 66)).heap[wr.heap.size]? = some (.cells #[.int .i64 kind, .int .i64 code, .int .i64 place, .string word, .bool far] 66 (0, 0)) := Go.heap_alloc_new wr _
              have hqn : ¬ Own (.slice ga us.length ca) (.slice gb us.length cb) wr.heap.size := fun h => by have := hinv.out.piles.lt _ h; omega
              have hqw : w.heap.size ≤ wr.heap.size := hinv.out.piles.below.size
              have hlen := hinv.out.len
              have htext := hinv.out.text
              have hgood := hinv.out.good
              have HL := Lib.hid (And.intro hlen (And.intro htext hgood)); clear hlen htext hgood
              have hpl := HH.out.2.2
              generalize wr.alloc (.cells #[.int .i64 kind, .int .i64 code, .int .i64 place, .string word, .bool far] 66) = wx at hP hq ⊢
              generalize wr.heap.size = q at hq hqn hqw ⊢
              clear hinv k0 k1 k2 k3 k4
              have HP := Lib.hid hP; clear hP
              have HQ := Lib.hid (And.intro hq (And.intro hqn hqw)); clear hqn hqw
              have m0 : wx.cell? ⟨q, 0, none⟩ = some (.int .i64 kind) := by rw [Lib.cell_of_heap hq]; rfl
              have m1 : wx.cell? ⟨q, 1, none⟩ = some (.int .i64 code) := by rw [Lib.cell_of_heap hq]; rfl
              have m2 : wx.cell? ⟨q, 2, none⟩ = some (.int .i64 place) := by rw [Lib.cell_of_heap hq]; rfl
              clear hq
              have hb7 := i64_and7 kind
              have hb0 : 0 ≤ kind % 8 := by omega
              have hb8 : kind % 8 < 8 := by omega
              generalize kind % 8 = kk at hb7 hb0 hb8
              rcases (show (kk = 3 ∨ kk = 4) ∨ kk = 5 ∨ (kk = 6 ∨ kk = 7) ∨ (kk = 0 ∨ kk = 1 ∨ kk = 2) from by omega) with hk | hk | hk | hk
              · rename_i zQ1 zK2 za3 zu334 zu345 zu356 zu367 zu378 zu389 zu3910 zu4011 zu4112 zu4213 zu4314 zu4415 zJ16 zK17 za18 za19 zh20 zK21 za22 zK23 za24
                revert os g off cap w i0 j0 HO HI HJ zQ1 zK2 za3 gk wr u7 u8 u9 u10 u11 u12 u13 u14 u15 u16 u17 u18 u19 u20 u21 u22 u23 u24 u25 u26 u27 u28 u29 u30 u31 u32 zu334 zu345 zu356 zu367 zu378 zu389 zu3910 zu4011 zu4112 zu4213 zu4314 zu4415 u45 u46 u47 u48 u49 u50 u51 u52 u53 u54 u55 u56 u57 u58 u59 u60 u61 u62 u63 u64 u65 u66 u67 u68 u69 u70 u71 u72 u73 u74 u75 u76 u77 u78 u79 u80 u81 u82 u83 u84 u85 u86 u87 u88 u89 u90 u91 u92 u93 u94 u95 u96 u97 u98 u99 u100 u101 u102 u103 u104 u105 u106 u107 u108 u109 u110 u111 u112 u113 u114 u115 u116 u117 u118 u119 u120 u121 u122 u123 u124 u125 u126 u127 u128 u129 u130 u131 u132 u133 u134 u135 u136 u137 u138 u139 u140 zJ16 zK17 za18 za19 i us vs cs HK hi1 hi2 ga ca gb cb hul hu30 hlt hlt2 kind code place word far HH zh20 zK21 za22 u33 u34 u35 u36 u37 s hs8 zK23 za24 u38 u39 u40 u41 u42 u43 u44 c hcr HL hpl wx q HP HQ m0 m1 m2 kk hb7 hb0 hb8 hk
                exact hh1.out
              · rename_i zQ1 zK2 za3 zu334 zu345 zu356 zu367 zu378 zu389 zu3910 zu4011 zu4112 zu4213 zu4314 zu4415 zJ16 zK17 za18 za19 zh20 zK21 za22 zK23 za24
                revert os g off cap w i0 j0 HO HI HJ zQ1 zK2 za3 gk wr u7 u8 u9 u10 u11 u12 u13 u14 u15 u16 u17 u18 u19 u20 u21 u22 u23 u24 u25 u26 u27 u28 u29 u30 u31 u32 zu334 zu345 zu356 zu367 zu378 zu389 zu3910 zu4011 zu4112 zu4213 zu4314 zu4415 u45 u46 u47 u48 u49 u50 u51 u52 u53 u54 u55 u56 u57 u58 u59 u60 u61 u62 u63 u64 u65 u66 u67 u68 u69 u70 u71 u72 u73 u74 u75 u76 u77 u78 u79 u80 u81 u82 u83 u84 u85 u86 u87 u88 u89 u90 u91 u92 u93 u94 u95 u96 u97 u98 u99 u100 u101 u102 u103 u104 u105 u106 u107 u108 u109 u110 u111 u112 u113 u114 u115 u116 u117 u118 u119 u120 u121 u122 u123 u124 u125 u126 u127 u128 u129 u130 u131 u132 u133 u134 u135 u136 u137 u138 u139 u140 zJ16 zK17 za18 za19 i us vs cs HK hi1 hi2 ga ca gb cb hul hu30 hlt hlt2 kind code place word far HH zh20 zK21 za22 u33 u34 u35 u36 u37 s hs8 zK23 za24 u38 u39 u40 u41 u42 u43 u44 c hcr HL hpl wx q HP HQ m0 m1 m2 kk hb7 hb0 hb8 hk
                exact hh2.out
              · rename_i zQ1 zK2 za3 zu334 zu345 zu356 zu367 zu378 zu389 zu3910 zu4011 zu4112 zu4213 zu4314 zu4415 zJ16 zK17 za18 za19 zh20 zK21 za22 zK23 za24
                revert os g off cap w i0 j0 HO HI HJ zQ1 zK2 za3 gk wr u7 u8 u9 u10 u11 u12 u13 u14 u15 u16 u17 u18 u19 u20 u21 u22 u23 u24 u25 u26 u27 u28 u29 u30 u31 u32 zu334 zu345 zu356 zu367 zu378 zu389 zu3910 zu4011 zu4112 zu4213 zu4314 zu4415 u45 u46 u47 u48 u49 u50 u51 u52 u53 u54 u55 u56 u57 u58 u59 u60 u61 u62 u63 u64 u65 u66 u67 u68 u69 u70 u71 u72 u73 u74 u75 u76 u77 u78 u79 u80 u81 u82 u83 u84 u85 u86 u87 u88 u89 u90 u91 u92 u93 u94 u95 u96 u97 u98 u99 u100 u101 u102 u103 u104 u105 u106 u107 u108 u109 u110 u111 u112 u113 u114 u115 u116 u117 u118 u119 u120 u121 u122 u123 u124 u125 u126 u127 u128 u129 u130 u131 u132 u133 u134 u135 u136 u137 u138 u139 u140 zJ16 zK17 za18 za19 i us vs cs HK hi1 hi2 ga ca gb cb hul hu30 hlt hlt2 kind code place word far HH zh20 zK21 za22 u33 u34 u35 u36 u37 s hs8 zK23 za24 u38 u39 u40 u41 u42 u43 u44 c hcr HL hpl wx q HP HQ m0 m1 m2 kk hb7 hb0 hb8 hk
                exact hh3.out
              · rename_i zQ1 zK2 za3 zu334 zu345 zu356 zu367 zu378 zu389 zu3910 zu4011 zu4112 zu4213 zu4314 zu4415 zJ16 zK17 za18 za19 zh20 zK21 za22 zK23 za24
                revert os g off cap w i0 j0 HO HI HJ zQ1 zK2 za3 gk wr u7 u8 u9 u10 u11 u12 u13 u14 u15 u16 u17 u18 u19 u20 u21 u22 u23 u24 u25 u26 u27 u28 u29 u30 u31 u32 zu334 zu345 zu356 zu367 zu378 zu389 zu3910 zu4011 zu4112 zu4213 zu4314 zu4415 u45 u46 u47 u48 u49 u50 u51 u52 u53 u54 u55 u56 u57 u58 u59 u60 u61 u62 u63 u64 u65 u66 u67 u68 u69 u70 u71 u72 u73 u74 u75 u76 u77 u78 u79 u80 u81 u82 u83 u84 u85 u86 u87 u88 u89 u90 u91 u92 u93 u94 u95 u96 u97 u98 u99 u100 u101 u102 u103 u104 u105 u106 u107 u108 u109 u110 u111 u112 u113 u114 u115 u116 u117 u118 u119 u120 u121 u122 u123 u124 u125 u126 u127 u128 u129 u130 u131 u132 u133 u134 u135 u136 u137 u138 u139 u140 zJ16 zK17 za18 za19 i us vs cs HK hi1 hi2 ga ca gb cb hul hu30 hlt hlt2 kind code place word far HH zh20 zK21 za22 u33 u34 u35 u36 u37 s hs8 zK23 za24 u38 u39 u40 u41 u42 u43 u44 c hcr HL hpl wx q HP HQ m0 m1 m2 kk hb7 hb0 hb8 hk
                exact hh4.out
        · go_wp2
          refine bodyPost_ret (v := .tuple #[.slice ga us.length ca, .slice gb us.length cb]) (by simp [results, Tryd.results12, go_sem]) rfl ⟨_, _, us, vs, cs, rfl, hinv.out.piles, ?_, ?_, hinv.out.good⟩
          · have := hinv.out.len; omega
          · have := hinv.out.text; omega
      · go_wp2
        refine bodyPost_ret (v := .tuple #[.slice ga us.length ca, .slice gb us.length cb]) (by simp [results, Tryd.results12, go_sem]) rfl ⟨_, _, us, vs, cs, rfl, hinv.out.piles, ?_, ?_, hinv.out.good⟩
        · have := hinv.out.len; omega
        · have := hinv.out.text; omega
  
/-- No steps at all. -/
theorem built_nil (a : Option Addr) (cap : Nat) (w : World) :
    Calls Tryd.prog 12 #[.slice a 0 cap] w fun e w' => ∃ a b us vs cs, e = .returned (.tuple #[a, b]) ∧ BJ w w' 30 a b us vs cs := by
  go_enter Tryd.func12, Tryd.ntmps12
  go_wp2
  refine wp_loop_rounds 1 ?_
  rw [rounds_succ]
  go_wp2
  refine bodyPost_ret (v := .tuple #[.slice none 0 0, .slice none 0 0]) (by simp [results, Tryd.results12, go_sem]) rfl ⟨_, _, [], [], [], rfl, ⟨Ext.refl w, World.ownsRow_nil _ _ _ _, World.ownsRow_nil _ _ _ _, by simp [Value.ownBlock], fun j t h => by simp at h, fun j t h => by simp at h⟩, by simp, by simp [tsum], Goods.nil⟩
end Go.Proofs.YtlcnicgjlddldaaDoor
