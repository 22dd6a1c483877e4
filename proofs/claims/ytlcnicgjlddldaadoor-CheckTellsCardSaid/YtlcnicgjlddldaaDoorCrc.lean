/- The sum that chapter 2 tells, over natural numbers: what goes in, bursts. -/
import Derived.Laws.BitsAll
namespace Go.Proofs.YtlcnicgjlddldaaDoor

def dn (r : Nat) : Nat := if r % 2 = 1 then (r / 2) ^^^ 2197175160 else r / 2
def dnN : Nat → Nat → Nat
  | 0, r => r
  | n + 1, r => dnN n (dn r)
def eat (r b : Nat) : Nat := dnN 8 (r ^^^ b)
def eats (r : Nat) (l : List UInt8) : Nat := l.foldl (fun r b => eat r b.toNat) r
def sumOf (l : List UInt8) : Nat := eats 4294967295 l ^^^ 4294967295
def word4 (a b c d : Nat) : Nat := a ^^^ b * 256 ^^^ c * 65536 ^^^ d * 16777216

theorem xor_half (a b : Nat) : (a ^^^ b) / 2 = a / 2 ^^^ b / 2 := by
  have := Nat.xor_div_two_pow (a := a) (b := b) (n := 1)
  simpa using this
theorem xor_odd (a b : Nat) : (a ^^^ b) % 2 = (a % 2 + b % 2) % 2 := by
  have := Nat.xor_mod_two_pow (a := a) (b := b) (n := 1)
  rw [Nat.pow_one] at this
  rw [this]
  rcases Nat.mod_two_eq_zero_or_one a with h1 | h1 <;> rcases Nat.mod_two_eq_zero_or_one b with h2 | h2 <;> simp [h1, h2]
theorem xor_zero_eq {a b : Nat} (h : a ^^^ b = 0) : a = b := by
  have := congrArg (fun z => z ^^^ b) h
  rwa [Nat.xor_assoc, Nat.xor_self, Nat.xor_zero, Nat.zero_xor] at this
theorem xor_lt32 {a b : Nat} (ha : a < 4294967296) (hb : b < 4294967296) : a ^^^ b < 4294967296 := Nat.xor_lt_two_pow (n := 32) ha hb
theorem xor_lt8 {a b : Nat} (ha : a < 256) (hb : b < 256) : a ^^^ b < 256 := Nat.xor_lt_two_pow (n := 8) ha hb
theorem dn_lt {r : Nat} (h : r < 4294967296) : dn r < 4294967296 := by
  unfold dn
  split
  · exact xor_lt32 (by omega) (by decide)
  · omega
theorem dn_xor (a b : Nat) : dn (a ^^^ b) = dn a ^^^ dn b := by
  unfold dn
  rw [xor_half, xor_odd]
  rcases Nat.mod_two_eq_zero_or_one a with h1 | h1 <;> rcases Nat.mod_two_eq_zero_or_one b with h2 | h2 <;> simp [h1, h2]
  · rw [Nat.xor_assoc]
  · rw [Nat.xor_assoc, Nat.xor_comm (b / 2), Nat.xor_assoc]
  · rw [Nat.xor_assoc, Nat.xor_comm 2197175160 (b / 2 ^^^ 2197175160), Nat.xor_assoc, Nat.xor_self, Nat.xor_zero]
theorem dn_inj {r : Nat} (h : r < 4294967296) (h0 : dn r = 0) : r = 0 := by
  unfold dn at h0
  split at h0
  · have := xor_zero_eq h0
    omega
  · omega
theorem dn_two (x : Nat) : dn (x * 2) = x := by
  unfold dn
  rw [if_neg (by omega)]
  omega
theorem dnN_lt : ∀ (n : Nat) {r : Nat}, r < 4294967296 → dnN n r < 4294967296
  | 0, _, h => h
  | n + 1, _, h => dnN_lt n (dn_lt h)
theorem dnN_xor : ∀ (n a b : Nat), dnN n (a ^^^ b) = dnN n a ^^^ dnN n b
  | 0, _, _ => rfl
  | n + 1, a, b => by
    unfold dnN
    rw [dn_xor, dnN_xor n]
theorem dnN_inj : ∀ (n : Nat) {r : Nat}, r < 4294967296 → dnN n r = 0 → r = 0
  | 0, _, _, h => h
  | n + 1, _, h, h0 => dn_inj h (dnN_inj n (dn_lt h) h0)
theorem dnN_add : ∀ (m n a : Nat), dnN (m + n) a = dnN n (dnN m a)
  | 0, n, a => by rw [Nat.zero_add]; rfl
  | m + 1, n, a => by
    rw [show m + 1 + n = (m + n) + 1 from by omega]
    show dnN (m + n) (dn a) = dnN n (dnN m (dn a))
    exact dnN_add m n (dn a)
theorem dnN_succ (n a : Nat) : dnN (n + 1) a = dn (dnN n a) := by rw [dnN_add n 1 a]; rfl
theorem dnN_pow : ∀ (n x : Nat), dnN n (x * 2 ^ n) = x
  | 0, x => by show x * 1 = x; omega
  | n + 1, x => by
    show dnN n (dn (x * 2 ^ (n + 1))) = x
    rw [Nat.pow_succ, ← Nat.mul_assoc, dn_two, dnN_pow n]
theorem dnN_zero (n : Nat) : dnN n 0 = 0 := by
  have := dnN_pow n 0
  rwa [Nat.zero_mul] at this
theorem dnN_eq {n a b : Nat} (ha : a < 4294967296) (hb : b < 4294967296) (h : dnN n a = dnN n b) : a = b := by
  have : dnN n (a ^^^ b) = 0 := by rw [dnN_xor, h, Nat.xor_self]
  exact xor_zero_eq (dnN_inj n (xor_lt32 ha hb) this)
/-- A byte below, and what stands above it. -/
theorem low_high (k x y : Nat) (hx : x < 2 ^ k) : x ^^^ y * 2 ^ k = x + y * 2 ^ k := by
  have h1 : (x ^^^ y * 2 ^ k) / 2 ^ k = y := by
    rw [Nat.xor_div_two_pow, Nat.div_eq_of_lt hx, Nat.mul_div_cancel _ (Nat.two_pow_pos k), Nat.zero_xor]
  have h2 : (x ^^^ y * 2 ^ k) % 2 ^ k = x := by
    rw [Nat.xor_mod_two_pow, Nat.mod_eq_of_lt hx, Nat.mul_mod_left, Nat.xor_zero]
  have := Nat.div_add_mod (x ^^^ y * 2 ^ k) (2 ^ k)
  rw [h1, h2, Nat.mul_comm] at this
  omega
theorem eat_lt {r b : Nat} (hr : r < 4294967296) (hb : b < 256) : eat r b < 4294967296 := dnN_lt 8 (xor_lt32 hr (by omega))
/-- A byte by way of the table. -/
theorem eat_table (r b : Nat) : eat r b = r / 256 ^^^ dnN 8 ((r % 256) ^^^ b) := by
  have hr : r = (r % 256) ^^^ (r / 256 * 2 ^ 8) := by rw [low_high 8 _ _ (Nat.mod_lt _ (by decide))]; omega
  unfold eat
  rw [show r ^^^ b = (r / 256 * 2 ^ 8) ^^^ ((r % 256) ^^^ b) from by
    rw [← Nat.xor_assoc, Nat.xor_comm _ (r % 256), ← hr]]
  rw [dnN_xor, dnN_pow]
theorem eats_nil (r : Nat) : eats r [] = r := rfl
theorem eats_cons (r : Nat) (b : UInt8) (l : List UInt8) : eats r (b :: l) = eats (eat r b.toNat) l := rfl
theorem eats_append (r : Nat) (a b : List UInt8) : eats r (a ++ b) = eats (eats r a) b := List.foldl_append
theorem eats_lt : ∀ (l : List UInt8) {r : Nat}, r < 4294967296 → eats r l < 4294967296
  | [], _, h => h
  | b :: l, _, h => eats_lt l (eat_lt h b.toNat_lt)
theorem sumOf_lt (l : List UInt8) : sumOf l < 4294967296 := xor_lt32 (eats_lt l (by decide)) (by decide)
/-- What two registers differ by stays. -/
theorem eats_diff : ∀ (l : List UInt8) (r d : Nat), eats (r ^^^ d) l = eats r l ^^^ dnN (8 * l.length) d
  | [], _, _ => rfl
  | b :: l, r, d => by
    rw [eats_cons, eats_cons]
    have e : eat (r ^^^ d) b.toNat = eat r b.toNat ^^^ dnN 8 d := by
      unfold eat
      rw [← dnN_xor]
      congr 1
      rw [Nat.xor_assoc, Nat.xor_comm d, Nat.xor_assoc]
    rw [e, eats_diff l, ← dnN_add, List.length_cons, show 8 * (l.length + 1) = 8 + 8 * l.length from by omega]
theorem eats_eq (l : List UInt8) {r s : Nat} (hr : r < 4294967296) (hs : s < 4294967296) (h : eats r l = eats s l) : r = s := by
  have e : s = r ^^^ (r ^^^ s) := by rw [← Nat.xor_assoc, Nat.xor_self, Nat.zero_xor]
  have h1 := eats_diff l r (r ^^^ s)
  rw [← e, h] at h1
  have h2 : dnN (8 * l.length) (r ^^^ s) = 0 := by
    have := congrArg (fun z => eats s l ^^^ z) h1
    rw [← Nat.xor_assoc, Nat.xor_self, Nat.zero_xor] at this
    exact this.symm
  exact xor_zero_eq (dnN_inj _ (xor_lt32 hr hs) h2)
/-- Four bytes go in at once. -/
theorem eats_four (r : Nat) (a b c d : UInt8) : eats r [a, b, c, d] = dnN 32 (r ^^^ word4 a.toNat b.toNat c.toNat d.toNat) := by
  show eat (eat (eat (eat r a.toNat) b.toNat) c.toNat) d.toNat = _
  unfold word4 eat
  generalize a.toNat = a
  generalize b.toNat = b
  generalize c.toNat = c
  generalize d.toNat = d
  have eb : b = dnN 8 (b * 256) := (dnN_pow 8 b).symm
  have ec : c = dnN 16 (c * 65536) := (dnN_pow 16 c).symm
  have ed : d = dnN 24 (d * 16777216) := (dnN_pow 24 d).symm
  conv => lhs; rw [eb, ec, ed]
  rw [show dnN 16 (c * 65536) = dnN 8 (dnN 8 (c * 65536)) from dnN_add 8 8 _, show dnN 24 (d * 16777216) = dnN 8 (dnN 8 (dnN 8 (d * 16777216))) from by rw [← dnN_add, ← dnN_add]]
  rw [← dnN_xor, ← dnN_xor, ← dnN_xor, ← dnN_xor, ← dnN_xor, ← dnN_xor, ← dnN_add, ← dnN_add, ← dnN_add]
  congr 1
  rw [Nat.xor_assoc, Nat.xor_assoc, Nat.xor_assoc, Nat.xor_assoc, Nat.xor_assoc]
theorem word4_add {a b c d : Nat} (ha : a < 256) (hb : b < 256) (hc : c < 256) : word4 a b c d = a + b * 256 + c * 65536 + d * 16777216 := by
  unfold word4
  rw [show b * 256 = b * 2 ^ 8 from rfl, low_high 8 a b (by omega), show c * 65536 = c * 2 ^ 16 from rfl, low_high 16 _ c (by omega), show d * 16777216 = d * 2 ^ 24 from rfl, low_high 24 _ d (by omega)]
theorem word4_lt {a b c d : Nat} (ha : a < 256) (hb : b < 256) (hc : c < 256) (hd : d < 256) : word4 a b c d < 4294967296 := by
  rw [word4_add ha hb hc]; omega
/-- A burst is seen: four bytes in a row, the rest alike. -/
theorem burst (r : Nat) (hr : r < 4294967296) (pre post : List UInt8) (a b c d a' b' c' d' : UInt8) (h : eats r (pre ++ [a, b, c, d] ++ post) = eats r (pre ++ [a', b', c', d'] ++ post)) : a = a' ∧ b = b' ∧ c = c' ∧ d = d' := by
  rw [eats_append, eats_append, eats_append r (pre ++ _), eats_append r pre] at h
  generalize hR : eats r pre = R at h
  have hRl : R < 4294967296 := hR ▸ eats_lt pre hr
  have h1 := eats_eq post (eats_lt _ hRl) (eats_lt _ hRl) h
  rw [eats_four, eats_four] at h1
  have w1 := word4_lt a.toNat_lt b.toNat_lt c.toNat_lt d.toNat_lt
  have w2 := word4_lt a'.toNat_lt b'.toNat_lt c'.toNat_lt d'.toNat_lt
  have h2 := dnN_eq (xor_lt32 hRl w1) (xor_lt32 hRl w2) h1
  have h3 : word4 a.toNat b.toNat c.toNat d.toNat = word4 a'.toNat b'.toNat c'.toNat d'.toNat := by
    have := congrArg (fun z => R ^^^ z) h2
    rwa [← Nat.xor_assoc, ← Nat.xor_assoc, Nat.xor_self, Nat.zero_xor, Nat.zero_xor] at this
  rw [word4_add a.toNat_lt b.toNat_lt c.toNat_lt, word4_add a'.toNat_lt b'.toNat_lt c'.toNat_lt] at h3
  have l1 := a.toNat_lt
  have l2 := b.toNat_lt
  have l3 := c.toNat_lt
  have m1 := a'.toNat_lt
  have m2 := b'.toNat_lt
  have m3 := c'.toNat_lt
  refine ⟨UInt8.toNat_inj.1 (by omega), UInt8.toNat_inj.1 (by omega), UInt8.toNat_inj.1 (by omega), UInt8.toNat_inj.1 (by omega)⟩
/-- The four bytes of a sum, the lowest first. -/
def le4 (n : Nat) : List UInt8 := [UInt8.ofNat n, UInt8.ofNat (n / 256), UInt8.ofNat (n / 65536), UInt8.ofNat (n / 16777216)]
theorem le4_word (n : Nat) (h : n < 4294967296) : word4 (UInt8.ofNat n).toNat (UInt8.ofNat (n / 256)).toNat (UInt8.ofNat (n / 65536)).toNat (UInt8.ofNat (n / 16777216)).toNat = n := by
  simp only [UInt8.toNat_ofNat']
  rw [word4_add (by omega) (by omega) (by omega)]
  omega
/-- What was wrapped leaves one register behind, whatever it was. -/
theorem eats_wrapped (l : List UInt8) : eats 4294967295 (l ++ le4 (sumOf l)) = dnN 32 4294967295 := by
  rw [eats_append]
  unfold le4
  rw [eats_four, le4_word _ (sumOf_lt l)]
  unfold sumOf
  rw [← Nat.xor_assoc, Nat.xor_self, Nat.zero_xor]
theorem sumOf_differ (pre post : List UInt8) (a b c d a' b' c' d' : UInt8) (h : sumOf (pre ++ [a, b, c, d] ++ post) = sumOf (pre ++ [a', b', c', d'] ++ post)) : a = a' ∧ b = b' ∧ c = c' ∧ d = d' := by
  refine burst 4294967295 (by decide) pre post a b c d a' b' c' d' ?_
  have := congrArg (fun z => z ^^^ 4294967295) h
  unfold sumOf at this
  rwa [Nat.xor_assoc, Nat.xor_assoc, Nat.xor_self, Nat.xor_zero, Nat.xor_zero] at this
/-- The table of eight steps: an odd place by the one below it and by its lowest bit. -/
theorem table_step (bit m : Nat) : dnN 8 (2 * bit * m) ^^^ dnN 8 bit = dnN 8 ((2 * bit * m) ^^^ bit) := (dnN_xor 8 _ _).symm
theorem awake_sum : sumOf [49, 50, 51, 52, 53, 54, 55, 56, 57] = 3808858755 := by decide +kernel
end Go.Proofs.YtlcnicgjlddldaaDoor
