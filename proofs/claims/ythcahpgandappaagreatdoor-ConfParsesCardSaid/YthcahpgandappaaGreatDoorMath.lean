/- Plain arithmetic on integers modulo 2^64 and 2^128: shifts of two words, multiples of powers of two, sums with a carry. No program is named here. -/
import Derived.Laws.Bits64b
import Derived.RowKit
namespace Go.Proofs.YthcahpgandappaaGreatDoor
open Go.RowKit

theorem wrap64_mod (x : Int) : wrap64 (x % 18446744073709551616) = wrap64 x := by unfold wrap64; omega
theorem wrap64_congr {x y : Int} (h : x % 18446744073709551616 = y % 18446744073709551616) : wrap64 x = wrap64 y := by unfold wrap64; omega
theorem wrap64_id {x : Int} (h0 : -9223372036854775808 ≤ x) (h1 : x ≤ 9223372036854775807) : wrap64 x = x := by unfold wrap64; omega
theorem u64wrap (x : Int) : IntKind.u64.wrap x = x % 18446744073709551616 := IntKind.wrap_u64 x
theorem pow_pos' (n : Nat) : (0 : Int) < 2 ^ n := Int.pow_pos (by omega)
theorem pow_split {n : Nat} (h : n ≤ 64) : (18446744073709551616 : Int) = 2 ^ (64 - n) * 2 ^ n := by
  rw [← Int.pow_add, show 64 - n + n = 64 from by omega]; rfl

/-- Numbers that agree modulo 2^128 agree, shifted by at most 64 bits, modulo 2^64. -/
theorem shr_congr {z y : Int} {n : Nat} (hn : n ≤ 64) (h : z % 340282366920938463463374607431768211456 = y % 340282366920938463463374607431768211456) :
    wrap64 (z / 2 ^ n) = wrap64 (y / 2 ^ n) := by
  obtain ⟨k, hk⟩ : ∃ k : Int, z = y + k * 340282366920938463463374607431768211456 := ⟨z / 340282366920938463463374607431768211456 - y / 340282366920938463463374607431768211456, by omega⟩
  have e : k * 340282366920938463463374607431768211456 = (k * 2 ^ (64 - n) * 18446744073709551616) * 2 ^ n := by
    have := pow_split hn
    have e2 : (340282366920938463463374607431768211456 : Int) = 18446744073709551616 * 18446744073709551616 := by omega
    rw [e2, Int.mul_right_comm, Int.mul_assoc k, ← this, Int.mul_assoc]
  have hd : z / 2 ^ n = y / 2 ^ n + k * 2 ^ (64 - n) * 18446744073709551616 := by
    rw [hk, e, Int.add_mul_ediv_right _ _ (Int.ne_of_gt (pow_pos' n))]
  rw [hd]
  generalize k * 2 ^ (64 - n) = t
  exact wrap64_congr (by omega)

theorem or_disjoint {x y : Int} {i : Nat} (hi : i ≤ 64) (h0 : 0 ≤ x) (h1 : x * 2 ^ i < 18446744073709551616) (hy : 0 ≤ y) (hy2 : y < 2 ^ i) :
    bits .or .u64 (x * 2 ^ i) y = x * 2 ^ i + y := by
  obtain ⟨a, rfl⟩ := Int.eq_ofNat_of_zero_le h0
  obtain ⟨b, rfl⟩ := Int.eq_ofNat_of_zero_le hy
  have e : ((a : Int) * 2 ^ i) = ((a * 2 ^ i : Nat) : Int) := by rw [Int.natCast_mul, Int.natCast_pow]; rfl
  have hb : b < 2 ^ i := Int.ofNat_lt.1 (by rw [Int.natCast_pow]; exact hy2)
  have ha : a * 2 ^ i < 18446744073709551616 := Int.ofNat_lt.1 (by rw [← e]; exact h1)
  have hb2 : b < 18446744073709551616 := Nat.lt_of_lt_of_le hb (Nat.pow_le_pow_right (n := 2) (by omega) hi)
  rw [e, bits_or_u64_nat _ _ ha hb2]
  have h := Nat.two_pow_add_eq_or_of_lt hb a
  rw [Nat.mul_comm] at h
  rw [← h, Int.natCast_add]

/-- Two words, shifted: the high one to the left, the low one to the right, joined. -/
theorem two_words {lo hi : Int} {n : Nat} (hn : n ≤ 63) (h0 : 0 ≤ lo) (h1 : lo < 18446744073709551616) :
    wrap64 (bits .or .u64 (IntKind.u64.wrap (hi * 2 ^ (64 - n))) (lo / 2 ^ n)) = wrap64 ((hi * 18446744073709551616 + lo) / 2 ^ n) := by
  have hp := pow_pos' n
  have hs := pow_split (n := n) (by omega)
  have em : hi * 2 ^ (64 - n) % 18446744073709551616 = hi % 2 ^ n * 2 ^ (64 - n) := by
    rw [hs, Int.mul_comm hi, Int.mul_emod_mul_of_pos _ _ (pow_pos' _), Int.mul_comm]
  have hlt : lo / 2 ^ n < 2 ^ (64 - n) := by
    apply Int.ediv_lt_of_lt_mul hp
    rw [← hs]; exact h1
  have hge : 0 ≤ lo / 2 ^ n := Int.ediv_nonneg h0 (Int.le_of_lt hp)
  have hm : hi * 2 ^ (64 - n) % 18446744073709551616 < 18446744073709551616 := Int.emod_lt_of_pos _ (by omega)
  rw [em] at hm
  rw [u64wrap, em, or_disjoint (by omega) (Int.emod_nonneg _ (Int.ne_of_gt hp)) hm hge hlt, ← em]
  have hd : (hi * 18446744073709551616 + lo) / 2 ^ n = hi * 2 ^ (64 - n) + lo / 2 ^ n := by
    rw [hs, ← Int.mul_assoc, Int.add_comm, Int.add_mul_ediv_right _ _ (Int.ne_of_gt hp), Int.add_comm]
  rw [hd]
  exact wrap64_congr (by omega)

theorem bit_or {x y : Int} (i : Nat) (hi : i ≤ 64) (h0 : 0 ≤ x) (h1 : x * 2 ^ i < 18446744073709551616) (hy : 0 ≤ y) (hy2 : y < 2 ^ i) :
    bits .or .u64 y (x * 2 ^ i) = x * 2 ^ i + y := by
  rw [show bits .or .u64 y (x * 2 ^ i) = bits .or .u64 (x * 2 ^ i) y from by simp only [bits, BitVec.or_comm]]
  exact or_disjoint hi h0 h1 hy hy2

/-- One step of the reference's shift: the low word takes the last bit of the high one. -/
theorem step_words {H L : Int} (h0 : 0 ≤ L) (h1 : L < 18446744073709551616) :
    bits .or .u64 (L / 2) (IntKind.u64.wrap (IntKind.u64.wrap H * 9223372036854775808)) = (H * 18446744073709551616 + L) / 2 - H / 2 * 18446744073709551616 := by
  have e : IntKind.u64.wrap (IntKind.u64.wrap H * 9223372036854775808) = H % 2 * 2 ^ 63 := by rw [u64wrap, u64wrap]; omega
  rw [e, bit_or 63 (by omega) (by omega) (by omega) (by omega) (by omega)]
  omega

/-- The words of an integer modulo 2^128 are the only ones that stand for it. -/
theorem words_of {z hi lo k : Int} (h : z = hi * 18446744073709551616 + lo + k * 340282366920938463463374607431768211456) (h0 : 0 ≤ hi) (h1 : hi < 18446744073709551616) (h2 : 0 ≤ lo) (h3 : lo < 18446744073709551616) :
    lo = z % 18446744073709551616 ∧ hi = z / 18446744073709551616 % 18446744073709551616 := by omega

theorem expand (a b s t M : Int) : (a + s * M) * (b + t * M) = a * b + (s * b + t * a) * M + s * t * (M * M) := by grind

/-- The words of the product of two signed numbers, out of those of the unsigned ones. -/
theorem mul_words {a b : Int} {x y : Nat} (hx : IntKind.u64.wrap a = (x : Int)) (hy : IntKind.u64.wrap b = (y : Int)) (a0 : -9223372036854775808 ≤ a) (a1 : a ≤ 9223372036854775807) (b0 : -9223372036854775808 ≤ b) (b1 : b ≤ 9223372036854775807) :
    (x : Int) * y % 18446744073709551616 = a * b % 18446744073709551616 ∧
    (a < 0 → b < 0 → IntKind.u64.wrap (IntKind.u64.wrap ((x : Int) * y / 18446744073709551616 - IntKind.u64.wrap b) - IntKind.u64.wrap a) = a * b / 18446744073709551616 % 18446744073709551616) ∧
    (a < 0 → 0 ≤ b → IntKind.u64.wrap ((x : Int) * y / 18446744073709551616 - b) = a * b / 18446744073709551616 % 18446744073709551616) ∧
    (0 ≤ a → b < 0 → IntKind.u64.wrap ((x : Int) * y / 18446744073709551616 - a) = a * b / 18446744073709551616 % 18446744073709551616) ∧
    (0 ≤ a → 0 ≤ b → (x : Int) * y / 18446744073709551616 = a * b / 18446744073709551616 % 18446744073709551616) := by
  rw [u64wrap] at hx hy
  simp only [u64wrap]
  by_cases ha : a < 0 <;> by_cases hb : b < 0
  · obtain rfl' : (x : Int) = a + 1 * 18446744073709551616 := by omega
    obtain rfl'' : (y : Int) = b + 1 * 18446744073709551616 := by omega
    rw [rfl', rfl'', expand]
    generalize a * b = p
    refine ⟨by omega, fun _ _ => by omega, by omega, by omega, by omega⟩
  · obtain rfl' : (x : Int) = a + 1 * 18446744073709551616 := by omega
    obtain rfl'' : (y : Int) = b + 0 * 18446744073709551616 := by omega
    rw [rfl', rfl'', expand]
    generalize a * b = p
    refine ⟨by omega, by omega, fun _ _ => by omega, by omega, by omega⟩
  · obtain rfl' : (x : Int) = a + 0 * 18446744073709551616 := by omega
    obtain rfl'' : (y : Int) = b + 1 * 18446744073709551616 := by omega
    rw [rfl', rfl'', expand]
    generalize a * b = p
    refine ⟨by omega, by omega, by omega, fun _ _ => by omega, by omega⟩
  · obtain rfl' : (x : Int) = a := by omega
    obtain rfl'' : (y : Int) = b := by omega
    rw [rfl', rfl'']
    have h0 : 0 ≤ a * b := Int.mul_nonneg (by omega) (by omega)
    have h1 : a * b ≤ 9223372036854775807 * 9223372036854775807 := Int.mul_le_mul a1 b1 (by omega) (by omega)
    generalize a * b = p at *
    refine ⟨by omega, by omega, by omega, by omega, fun _ _ => by omega⟩

/-- What Mul answers. -/
def mulV (a b q : Int) : Int := if 0 ≤ q ∧ q ≤ 62 then wrap64 (a * b / 2 ^ q.toNat) else 0
def shrV (z q : Int) : Int := if 0 ≤ q ∧ q ≤ 63 then wrap64 (z / 2 ^ q.toNat) else 0
def oneV (q : Int) : Int := if 0 ≤ q ∧ q ≤ 62 then 2 ^ q.toNat else 0
theorem mulV_yes {a b q : Int} (h0 : 0 ≤ q) (h1 : q ≤ 62) : mulV a b q = wrap64 (a * b / 2 ^ q.toNat) := by unfold mulV; rw [if_pos ⟨h0, h1⟩]
theorem mulV_no {a b q : Int} (h : ¬ (0 ≤ q ∧ q ≤ 62)) : mulV a b q = 0 := by unfold mulV; rw [if_neg h]
theorem shrV_yes {z q : Int} (h0 : 0 ≤ q) (h1 : q ≤ 63) : shrV z q = wrap64 (z / 2 ^ q.toNat) := by unfold shrV; rw [if_pos ⟨h0, h1⟩]
theorem shrV_no {z q : Int} (h : ¬ (0 ≤ q ∧ q ≤ 63)) : shrV z q = 0 := by unfold shrV; rw [if_neg h]
theorem oneV_yes {q : Int} (h0 : 0 ≤ q) (h1 : q ≤ 62) : oneV q = 2 ^ q.toNat := by unfold oneV; rw [if_pos ⟨h0, h1⟩]
theorem oneV_no {q : Int} (h : ¬ (0 ≤ q ∧ q ≤ 62)) : oneV q = 0 := by unfold oneV; rw [if_neg h]
theorem mulV_comm (a b q : Int) : mulV a b q = mulV b a q := by unfold mulV; rw [Int.mul_comm]
theorem mulV_one {a q : Int} (h0 : 0 ≤ q) (h1 : q ≤ 62) (a0 : -9223372036854775808 ≤ a) (a1 : a ≤ 9223372036854775807) : mulV a (oneV q) q = a := by
  rw [mulV_yes h0 h1, oneV_yes h0 h1, Int.mul_ediv_cancel _ (Int.ne_of_gt (pow_pos' _)), wrap64_id a0 a1]
theorem pow_lt {n : Nat} (h : n ≤ 62) : (2 : Int) ^ n ≤ 4611686018427387904 := by
  have h2 : 2 ^ n ≤ 2 ^ 62 := Nat.pow_le_pow_right (n := 2) (by omega) h
  have h3 : ((2 ^ n : Nat) : Int) ≤ ((2 ^ 62 : Nat) : Int) := Int.ofNat_le.2 h2
  rw [Int.natCast_pow] at h3
  exact h3
theorem oneV_le (q : Int) : 0 ≤ oneV q ∧ oneV q ≤ 4611686018427387904 := by
  by_cases h : 0 ≤ q ∧ q ≤ 62
  · rw [oneV_yes h.1 h.2]; exact ⟨Int.le_of_lt (pow_pos' _), pow_lt (by omega)⟩
  · rw [oneV_no h]; omega
theorem wrap_pow {q : Int} (h1 : q ≤ 62) : wrap64 (2 ^ q.toNat) = 2 ^ q.toNat := by
  have h2 := pow_lt (n := q.toNat) (by omega)
  have h3 := pow_pos' q.toNat
  exact wrap64_id (by omega) (by omega)
theorem alive_eq : mulV 3 (-1) 1 = -2 := by
  rw [mulV_yes (by omega) (by omega), show ((1 : Int).toNat) = 1 from rfl]
  unfold wrap64
  omega
theorem words_join (z : Int) {q : Int} (h : q ≤ 63) : wrap64 ((z / 18446744073709551616 % 18446744073709551616 * 18446744073709551616 + z % 18446744073709551616) / 2 ^ q.toNat) = wrap64 (z / 2 ^ q.toNat) :=
  shr_congr (by omega) (by omega)
theorem words_join2 (hi lo : Int) {q : Int} (h : q ≤ 63) : wrap64 ((hi % 18446744073709551616 * 18446744073709551616 + lo) / 2 ^ q.toNat) = wrap64 ((hi * 18446744073709551616 + lo) / 2 ^ q.toNat) :=
  shr_congr (by omega) (by omega)

/-- What the bits of b below k count for; the last one counts as negative. -/
def part (b : Int) (k : Nat) : Int := if k ≤ 63 then b % 18446744073709551616 % 2 ^ k else b
def PInv (a b : Int) (k : Nat) (H L : Int) : Prop :=
  (0 ≤ H ∧ H < 18446744073709551616 ∧ 0 ≤ L ∧ L < 18446744073709551616) ∧ ∃ t : Int, H * 18446744073709551616 + L = a * part b k + t * 340282366920938463463374607431768211456
def SignOf (a s : Int) : Prop := (-9223372036854775808 ≤ a ∧ a ≤ 9223372036854775807) ∧ ((a < 0 ∧ s = 18446744073709551615) ∨ (0 ≤ a ∧ s = 0))
/-- Two words that stand for a number modulo 2^128. -/
def Stands (Y X z : Int) : Prop := (0 ≤ Y ∧ Y < 18446744073709551616 ∧ 0 ≤ X ∧ X < 18446744073709551616) ∧ ∃ t : Int, Y * 18446744073709551616 + X = z + t * 340282366920938463463374607431768211456

theorem pinv_zero (a b : Int) : PInv a b 0 0 0 := ⟨by omega, 0, by unfold part; rw [if_pos (by omega), Int.pow_zero, Int.emod_one]; omega⟩
theorem pinv_end {a b H L : Int} (h : PInv a b 64 H L) : wrap64 H = wrap64 (a * b / 18446744073709551616) ∧ L = a * b % 18446744073709551616 := by
  obtain ⟨⟨h0, h1, h2, h3⟩, t, ht⟩ := h
  unfold part at ht
  rw [if_neg (by omega)] at ht
  generalize a * b = z at *
  exact ⟨wrap64_congr (by omega), by omega⟩

theorem and_one {x : Int} (h0 : 0 ≤ x) (h1 : x < 18446744073709551616) : bits .and .u64 x 1 = x % 2 := by
  obtain ⟨n, rfl⟩ := Int.eq_ofNat_of_zero_le h0
  have h := bits_and_u64_nat n 1 (by omega) (by omega)
  have e : n &&& 1 = n % 2 := Nat.and_two_pow_sub_one_eq_mod n 1
  rw [e] at h
  rw [show ((1 : Int)) = ((1 : Nat) : Int) from rfl, h]
  omega

theorem mod_succ (B : Int) (k : Nat) : B % 2 ^ (k + 1) = B % 2 ^ k + B / 2 ^ k % 2 * 2 ^ k := by
  have h1 := Int.mul_ediv_add_emod B (2 ^ k)
  have h2 := Int.mul_ediv_add_emod B (2 ^ (k + 1))
  have h3 : B / 2 ^ (k + 1) = B / 2 ^ k / 2 := by rw [Int.pow_succ, Int.ediv_ediv_of_nonneg (Int.le_of_lt (pow_pos' k))]
  rw [h3, Int.pow_succ] at h2
  have h4 := Int.mul_ediv_add_emod (B / 2 ^ k) 2
  rw [Int.pow_succ]
  generalize B / 2 ^ k = Q at *
  generalize Q % 2 = r at *
  generalize Q / 2 = u at *
  generalize (2 : Int) ^ k = p at *
  subst h4
  grind

theorem bit_of {b : Int} {k : Nat} {v : Bool} (h : (bits .and .u64 (IntKind.u64.wrap b / 2 ^ k) 1 == 0) = v) : b % 18446744073709551616 / 2 ^ k % 2 = if v = true then 0 else 1 := by
  have hp := pow_pos' k
  have h0 : 0 ≤ IntKind.u64.wrap b / 2 ^ k := Int.ediv_nonneg (by rw [u64wrap]; omega) (Int.le_of_lt hp)
  have h1 : IntKind.u64.wrap b / 2 ^ k < 18446744073709551616 := Int.lt_of_le_of_lt (Int.ediv_le_self _ (by rw [u64wrap]; omega)) (by rw [u64wrap]; omega)
  rw [and_one h0 h1] at h
  rw [u64wrap] at h
  generalize b % 18446744073709551616 / 2 ^ k = x at *
  subst h
  by_cases hx : x % 2 = 0
  · simp [hx]
  · have : x % 2 = 1 := by omega
    simp [this]

theorem part_same {b : Int} {k : Nat} (hk : k < 64) (b0 : -9223372036854775808 ≤ b) (b1 : b ≤ 9223372036854775807) (h : b % 18446744073709551616 / 2 ^ k % 2 = 0) : part b (k + 1) = part b k := by
  unfold part
  rw [if_pos (show k ≤ 63 by omega)]
  by_cases e : k = 63
  · subst e
    rw [if_neg (by omega)]
    omega
  · rw [if_pos (by omega), mod_succ, h]
    omega
theorem part_more {b : Int} {k : Nat} (hk : k < 63) (h : b % 18446744073709551616 / 2 ^ k % 2 = 1) : part b (k + 1) = part b k + 1 * 2 ^ k := by
  unfold part
  rw [if_pos (by omega), if_pos (by omega), mod_succ, h]
theorem part_less {b : Int} (b0 : -9223372036854775808 ≤ b) (b1 : b ≤ 9223372036854775807) (h : b % 18446744073709551616 / 2 ^ 63 % 2 = 1) : part b (63 + 1) = part b 63 + (-1) * 2 ^ 63 := by
  unfold part
  rw [if_neg (by omega), if_pos (by omega)]
  omega

theorem pinv_same {a b H L : Int} {k : Nat} (hP : PInv a b k H L) (hk : k < 64) (b0 : -9223372036854775808 ≤ b) (b1 : b ≤ 9223372036854775807)
    (h : (bits .and .u64 (IntKind.u64.wrap b / 2 ^ k) 1 == 0) = true) : PInv a b (k + 1) H L := by
  have h2 := bit_of h
  rw [if_pos rfl] at h2
  unfold PInv at *
  rw [part_same hk b0 b1 h2]
  exact hP

theorem add_way {a b H L X Y sg : Int} {k : Nat} (hP : PInv a b k H L) (hS : Stands Y X (a * (sg * 2 ^ k))) (hp : part b (k + 1) = part b k + sg * 2 ^ k) :
    (IntKind.u64.wrap (L + X) < L → PInv a b (k + 1) (IntKind.u64.wrap (IntKind.u64.wrap (H + 1) + Y)) (IntKind.u64.wrap (L + X))) ∧
    (L ≤ IntKind.u64.wrap (L + X) → PInv a b (k + 1) (IntKind.u64.wrap (H + Y)) (IntKind.u64.wrap (L + X))) := by
  obtain ⟨⟨h0, h1, h2, h3⟩, t, ht⟩ := hP
  obtain ⟨⟨x0, x1, x2, x3⟩, u, hu⟩ := hS
  unfold PInv
  rw [hp, Int.mul_add]
  simp only [u64wrap]
  generalize a * part b k = z at *
  generalize a * (sg * 2 ^ k) = y at *
  constructor
  · intro hc
    refine ⟨by omega, ?_⟩
    refine ⟨(((H + 1) % 18446744073709551616 + Y) % 18446744073709551616 * 18446744073709551616 + (L + X) % 18446744073709551616 - z - y) / 340282366920938463463374607431768211456, by omega⟩
  · intro hc
    refine ⟨by omega, ?_⟩
    refine ⟨((H + Y) % 18446744073709551616 * 18446744073709551616 + (L + X) % 18446744073709551616 - z - y) / 340282366920938463463374607431768211456, by omega⟩

/-- The complement of a word. -/
theorem not_word {x : Int} (h0 : 0 ≤ x) (h1 : x < 18446744073709551616) : bits .xor .u64 (if IntKind.u64.signed = true then -1 else IntKind.u64.max) x = 18446744073709551615 - x := by
  obtain ⟨n, rfl⟩ := Int.eq_ofNat_of_zero_le h0
  have hn : n < 18446744073709551616 := by omega
  have e : (if IntKind.u64.signed = true then (-1 : Int) else IntKind.u64.max) = ((18446744073709551615 : Nat) : Int) := by decide
  rw [e, bits_xor_u64_nat 18446744073709551615 n (by omega) hn]
  have h := BitVec.toNat_not (x := BitVec.ofNat 64 n)
  have hx : (BitVec.ofNat 64 n).toNat = n := by rw [BitVec.toNat_ofNat]; omega
  have h2 : ~~~ (BitVec.ofNat 64 n) = BitVec.allOnes 64 ^^^ BitVec.ofNat 64 n := BitVec.not_def
  rw [h2, BitVec.toNat_xor, hx, BitVec.toNat_allOnes] at h
  have h3 : 18446744073709551615 ^^^ n = 18446744073709551615 - n := h
  rw [h3]
  omega

theorem stands_neg {Y X z : Int} (hS : Stands Y X z) :
    ((IntKind.u64.wrap (bits .xor .u64 (if IntKind.u64.signed = true then -1 else IntKind.u64.max) X + 1) == 0) = true →
      Stands (IntKind.u64.wrap (bits .xor .u64 (if IntKind.u64.signed = true then -1 else IntKind.u64.max) Y + 1)) (IntKind.u64.wrap (bits .xor .u64 (if IntKind.u64.signed = true then -1 else IntKind.u64.max) X + 1)) (-z)) ∧
    ((IntKind.u64.wrap (bits .xor .u64 (if IntKind.u64.signed = true then -1 else IntKind.u64.max) X + 1) == 0) = false →
      Stands (bits .xor .u64 (if IntKind.u64.signed = true then -1 else IntKind.u64.max) Y) (IntKind.u64.wrap (bits .xor .u64 (if IntKind.u64.signed = true then -1 else IntKind.u64.max) X + 1)) (-z)) := by
  obtain ⟨⟨h0, h1, h2, h3⟩, t, ht⟩ := hS
  rw [not_word h2 h3, not_word h0 h1]
  simp only [u64wrap, beq_iff_eq, beq_eq_false_iff_ne]
  constructor
  · intro h
    by_cases hY : Y = 0
    · exact ⟨by omega, -t, by omega⟩
    · exact ⟨by omega, 1 - t, by omega⟩
  · intro h
    exact ⟨by omega, 1 - t, by omega⟩

theorem stands_zero {a s : Int} {k : Nat} (hs : SignOf a s) (hk : ¬ 0 < k) : Stands s (IntKind.u64.wrap (IntKind.u64.wrap a * 2 ^ k)) (a * (1 * 2 ^ k)) := by
  obtain rfl : k = 0 := by omega
  obtain ⟨⟨a0, a1⟩, hs⟩ := hs
  rw [u64wrap, u64wrap, Int.pow_zero]
  rcases hs with ⟨h, rfl⟩ | ⟨h, rfl⟩
  · exact ⟨by omega, 1, by omega⟩
  · exact ⟨by omega, 0, by omega⟩

theorem pow_le {n : Nat} (h : n ≤ 64) : (2 : Int) ^ n ≤ 18446744073709551616 := by
  have h2 : 2 ^ n ≤ 2 ^ 64 := Nat.pow_le_pow_right (n := 2) (by omega) h
  have h3 : ((2 ^ n : Nat) : Int) ≤ ((2 ^ 64 : Nat) : Int) := Int.ofNat_le.2 h2
  rw [Int.natCast_pow] at h3
  exact h3
theorem stands_pos {a s : Int} {k : Nat} (hs : SignOf a s) (hk : k < 64) :
    Stands (bits .or .u64 (IntKind.u64.wrap (s * 2 ^ k)) (IntKind.u64.wrap a / 2 ^ (64 - k))) (IntKind.u64.wrap (IntKind.u64.wrap a * 2 ^ k)) (a * (1 * 2 ^ k)) := by
  obtain ⟨⟨a0, a1⟩, hs⟩ := hs
  have hp := pow_pos' k
  have hq := pow_pos' (64 - k)
  have hM := pow_split (n := k) (by omega)
  have hA0 : 0 ≤ a % 18446744073709551616 := by omega
  have hA1 : a % 18446744073709551616 < 18446744073709551616 := by omega
  have hy : a % 18446744073709551616 / 2 ^ (64 - k) = a % 18446744073709551616 * 2 ^ k / 18446744073709551616 := by
    rw [hM, Int.mul_ediv_mul_of_pos_left _ _ hp]
  have hy0 : 0 ≤ a % 18446744073709551616 / 2 ^ (64 - k) := Int.ediv_nonneg hA0 (Int.le_of_lt hq)
  have hy1 : a % 18446744073709551616 / 2 ^ (64 - k) < 2 ^ k := by
    apply Int.ediv_lt_of_lt_mul hq
    rw [Int.mul_comm, ← hM]
    exact hA1
  rw [u64wrap, u64wrap, u64wrap, Int.one_mul]
  rcases hs with ⟨h, rfl⟩ | ⟨h, rfl⟩
  · have hx : (18446744073709551615 : Int) * 2 ^ k % 18446744073709551616 = (2 ^ (64 - k) - 1) * 2 ^ k := by
      rw [Int.sub_mul, ← hM]
      have hle := pow_le (n := k) (by omega)
      omega
    rw [hx, or_disjoint (by omega) (by omega) (by rw [Int.sub_mul, ← hM]; omega) hy0 hy1, hy, Int.sub_mul, ← hM]
    have e : a % 18446744073709551616 = a + 18446744073709551616 := by omega
    rw [e] at hA0 hA1 hy hy0 hy1 ⊢
    rw [hy] at hy0 hy1
    have hz : (a + 18446744073709551616) * 2 ^ k = a * 2 ^ k + 18446744073709551616 * 2 ^ k := by rw [Int.add_mul]
    rw [hz] at hy0 hy1 ⊢
    have hp2 := pow_le (n := k) (by omega)
    generalize a * 2 ^ k = u at *
    generalize (2 : Int) ^ k = p at *
    exact ⟨by omega, 1, by omega⟩
  · have hx : (0 : Int) * 2 ^ k % 18446744073709551616 = 0 * 2 ^ k := by omega
    rw [hx, or_disjoint (by omega) (by omega) (by omega) hy0 hy1, hy]
    have e : a % 18446744073709551616 = a := by omega
    rw [e] at hA0 hA1 hy hy0 hy1 ⊢
    rw [hy] at hy0 hy1
    have hp2 := pow_le (n := k) (by omega)
    generalize a * 2 ^ k = u at *
    generalize (2 : Int) ^ k = p at *
    exact ⟨by omega, 0, by omega⟩

end Go.Proofs.YthcahpgandappaaGreatDoor
