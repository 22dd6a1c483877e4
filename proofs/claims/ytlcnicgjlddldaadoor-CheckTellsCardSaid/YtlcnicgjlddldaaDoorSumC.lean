/- The summer takes in parts. -/
import Derived.Test.YtlcnicgjlddldaaDoorSumB
import Derived.Deep.QuietTactic
import Derived.BigQuiet
namespace Go.Proofs.YtlcnicgjlddldaaDoor
open Go Go.RowKit

def SumT (w : World) (g s : Nat) : Prop := SumAt w g s (fun i => dnN 8 i)
def bts (s : ByteArray) : List UInt8 := s.data.toList
/-- A row of strings in memory. -/
def StrsAt (w : World) (g off : Nat) (l : List ByteArray) : Prop := ∀ i s, l[i]? = some s → w.cell? ⟨g, off + i, none⟩ = some (.string s)
def allBytes (l : List ByteArray) : List UInt8 := (l.map bts).flatten
theorem bts_len (s : ByteArray) : (bts s).length = s.size := by unfold bts; rw [Array.length_toList]; rfl
theorem bts_at (s : ByteArray) (j : Nat) (h : j < s.size) : (bts s)[j]? = some s[j] := by
  unfold bts
  rw [Array.getElem?_toList]
  exact Array.getElem?_eq_getElem (xs := s.data) h
theorem bts_append (x y : ByteArray) : bts (x ++ y) = bts x ++ bts y := by
  unfold bts
  rw [ByteArray.data_append, Array.toList_append]
theorem eats_take (R : Nat) (s : ByteArray) (j : Nat) (h : j < s.size) : eats R ((bts s).take (j + 1)) = eat (eats R ((bts s).take j)) s[j].toNat := by
  rw [List.take_add_one, bts_at s j h, eats_append]
  rfl
theorem allBytes_take (l : List ByteArray) (i : Nat) (x : ByteArray) (h : l[i]? = some x) : allBytes (l.take (i + 1)) = allBytes (l.take i) ++ bts x := by
  unfold allBytes
  rw [List.take_add_one, h, List.map_append, List.flatten_append]
  simp
set_option maxHeartbeats 2000000 in
set_option maxRecDepth 100000 in
theorem Write_at (g s : Nat) (w : World) (b off cap : Nat) (l : List ByteArray) (hb : b ≠ g) (h : Ready w g s) (hl : StrsAt w b off l) (hz : ∀ x, x ∈ l → x.size < 9223372036854775807) (hn : l.length < 1000000) :
    Calls Tryd.prog 53 #[.pointer (some ⟨g, 0, none⟩), .slice (some ⟨b, off, none⟩) l.length cap] w fun e w' => e = .returned (.pointer (some ⟨g, 0, none⟩)) ∧ SumT w' g (eats (s ^^^ 4294967295) (allBytes l) ^^^ 4294967295) ∧ Only g w w' := by
  have H := Lib.hid h; clear h
  have HL := Lib.hid (And.intro hl hz); clear hl hz
  go_enter Tryd.func53, Tryd.ntmps53
  go_wp2_with (go_at_call 70; refine (fill_at g s w H.out).mono ?_)
  rintro e w2 ⟨rfl, h2, hx⟩
  have h3 := h2.sum
  have h4 := h2.frozen 0
  have hsl := h2.small
  have h5 : bits .xor .u32 ((s : Nat) : Int) 4294967295 = ((s ^^^ 4294967295 : Nat) : Int) := u32_xor_nat s 4294967295 hsl (by decide)
  have h6 := xor_lt32 hsl (show 4294967295 < 4294967296 by decide)
  go_wp2
  have HE := Lib.hid (And.intro h3 (And.intro h4 h5)); clear h3 h4 h5
  have H2 := Lib.hid (And.intro h2 hx); clear h2 hx
  go_loopg [5, 20] l.length (fun k r c wr => ∃ (i R : Nat), Hid (i + k = l.length) ∧ r = .int .u32 R ∧ c = .int .i64 i ∧ Hid (R = eats (s ^^^ 4294967295) (allBytes (l.take i)) ∧ SumT wr g s ∧ Only g w wr))
  case atStart => exact ⟨0, _, Nat.zero_add _, rfl, rfl, rfl, H2.out.1, H2.out.2⟩
  case round =>
    obtain ⟨i, R, hi, rfl, rfl, hinv⟩ := hrel
    obtain ⟨G, rfl⟩ : ∃ G, G = gk := ⟨_, rfl⟩
    by_cases hlt : i < l.length
    · obtain ⟨x, hx⟩ : ∃ x, l[i]? = some x := ⟨l[i], List.getElem?_eq_getElem hlt⟩
      have hc : wr.cell? ⟨b, off + i, none⟩ = some (.string x) := hinv.out.2.2.cell hb (HL.out.1 i x hx)
      have hxz : x.size < 9223372036854775807 := HL.out.2 x (List.mem_of_getElem? hx)
      have HX := Lib.hid hx; clear hx
      have hRl : R < 4294967296 := by rw [hinv.out.1]; exact eats_lt _ h6
      go_wp2
      go_loopg [5, 26] x.size (fun k r c wq => ∃ (j Q : Nat), Hid (j + k = x.size) ∧ r = .int .u32 Q ∧ Hid (Q < 4294967296) ∧ c = .int .i64 j ∧ Hid (Q = eats R ((bts x).take j) ∧ SumT wq g s ∧ Only g w wq))
      case atStart => exact ⟨0, R, Nat.zero_add _, rfl, hRl, rfl, rfl, hinv.out.2⟩
      case round =>
        obtain ⟨j, Q, hj, rfl, hQ, rfl, hin⟩ := hrel
        by_cases hjx : j < x.size
        · have hQl : Q < 4294967296 := hQ.out
          have hY : x[j].toNat < 256 := x[j].toNat_lt
          obtain ⟨N, hN⟩ : ∃ N : Nat, N = (Q % 256) ^^^ x[j].toNat := ⟨_, rfl⟩
          have hN8 : N < 256 := by rw [hN]; exact xor_lt8 (Nat.mod_lt _ (by decide)) hY
          have hNx : bits .xor .u8 ((Q : Int) % 256) ((x[j].toNat : Nat) : Int) = (N : Int) := by
            rw [hN, show (Q : Int) % 256 = ((Q % 256 : Nat) : Int) from by omega]
            exact u8_xor_nat _ _ (Nat.mod_lt _ (by decide)) hY
          have c1 := (hin.out.2.1.tab N hN8).1
          have c2 := (hin.out.2.1.tab N hN8).2
          have hT : bits .xor .u32 ((Q : Int) / 256) ((dnN 8 N : Nat) : Int) = ((Q / 256 ^^^ dnN 8 N : Nat) : Int) := by
            rw [show (Q : Int) / 256 = ((Q / 256 : Nat) : Int) from by omega]
            exact u32_xor_nat _ _ (by omega) c2
          have hE : Q / 256 ^^^ dnN 8 N = eat Q x[j].toNat := by rw [eat_table, hN]
          rw [hE] at hT
          have hEl := eat_lt hQl hY
          generalize dnN 8 N = T at c1 hT
          have HN := Lib.hid (And.intro hN hE); clear hN hE c2
          clear hQl hY
          go_wp2
          go_region
          go_wp2
          go_roundg (gk - 1)
          case measure => have := hj.out; omega
          case rel =>
            refine ⟨j + 1, eat Q x[j].toNat, ?_, rfl, hEl, by go_num, ?_, hin.out.2.1.drew, hin.out.2.2.drew⟩
            · show j + 1 + (gk - 1) = x.size
              have := hj.out; omega
            · rw [eats_take R x j hjx, ← hin.out.1]
        · go_wp2
          have hjz : j = x.size := by have := hj.out; omega
          go_roundg (G - 1)
          case measure => have := hi.out; omega
          case rel =>
            refine ⟨i + 1, Q, ?_, rfl, by go_num, ?_, hin.out.2⟩
            · show i + 1 + (G - 1) = l.length
              have := hi.out; omega
            · rw [allBytes_take l i x HX.out, eats_append, ← hinv.out.1, hin.out.1, hjz, ← bts_len x, List.take_length]
    · have h7 := hinv.out.2.1.sum
      have h8 := hinv.out.2.1.frozen 0
      have hRl : R < 4294967296 := by rw [hinv.out.1]; exact eats_lt _ h6
      have h9 : bits .xor .u32 ((R : Nat) : Int) 4294967295 = ((R ^^^ 4294967295 : Nat) : Int) := u32_xor_nat R 4294967295 hRl (by decide)
      have hil : i = l.length := by have := hi.out; omega
      have HI := Lib.hid hil; clear hil
      go_wp2
      go_ret
      refine ⟨rfl, ?_, ?_⟩
      · have := hinv.out.2.1.setSum (v := R ^^^ 4294967295) (xor_lt32 hRl (by decide))
        rw [hinv.out.1, HI.out, List.take_length] at this
        rw [hinv.out.1, HI.out, List.take_length]
        exact this
      · exact hinv.out.2.2.setCell _
end Go.Proofs.YtlcnicgjlddldaaDoor
