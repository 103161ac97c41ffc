/- The statement's alive, and the reference's Whole and Part: each returns what the plain functions say. Conditions: the arguments are within their bounds; the table of powers of ten holds its numbers. -/
import Derived.Test.YthcahpgandappaaGreatDoorYc
namespace Go.Proofs.YthcahpgandappaaGreatDoor
open Go.RowKit

theorem i64_wf {n : Int} (h : (Lit.int .i64 n).wf = true) : -9223372036854775808 ≤ n ∧ n ≤ 9223372036854775807 := by
  simp [Lit.wf, IntKind.min, IntKind.max, IntKind.signed, IntKind.bits] at h
  omega
theorem u64_wf {n : Int} (h : (Lit.int .u64 n).wf = true) : 0 ≤ n ∧ n < 18446744073709551616 := by
  simp [Lit.wf, IntKind.min, IntKind.max, IntKind.signed, IntKind.bits] at h
  omega
theorem u8_wf {n : Int} (h : (Lit.int .u8 n).wf = true) : 0 ≤ n ∧ n ≤ 255 := by
  simp [Lit.wf, IntKind.min, IntKind.max, IntKind.signed, IntKind.bits] at h
  omega
theorem text_three : textL 3 1 = [49, 46, 53] := by
  simp [textL, fracL, run, ch, Lib.decDigits_one]
theorem text_quarter : textL (-1) 2 = [45, 48, 46, 50, 53] := by
  simp [textL, fracL, run, ch, Lib.decDigits_one]
theorem whole_part (x : Int) (q : Nat) : x = x / 2 ^ q * 2 ^ q + x % 2 ^ q := by
  have := Int.mul_ediv_add_emod x (2 ^ q); rw [Int.mul_comm] at this; exact this.symm
theorem div_bound {x : Int} {q : Nat} (x0 : -9223372036854775808 ≤ x) (x1 : x ≤ 9223372036854775807) : -9223372036854775808 ≤ x / 2 ^ q ∧ x / 2 ^ q ≤ 9223372036854775807 := by
  have hp := pow_pos' q
  constructor
  · apply Int.le_ediv_of_mul_le hp
    have : (-9223372036854775808 : Int) * 2 ^ q ≤ -9223372036854775808 * 1 := Int.mul_le_mul_of_nonpos_left (by omega) (by omega)
    omega
  · by_cases h : 0 ≤ x
    · exact Int.le_trans (Int.ediv_le_self _ h) x1
    · have : x / 2 ^ q < 0 := Int.ediv_neg_of_neg_of_pos (by omega) hp
      omega
theorem part_wrap (x : Int) {q : Nat} (h : q ≤ 62) : IntKind.u64.wrap (wrap64 (x - wrap64 (x / 2 ^ q * 2 ^ q))) = x % 2 ^ q := by
  have h1 := whole_part x q
  have h2 := Int.emod_nonneg x (Int.ne_of_gt (pow_pos' q))
  have h3 := Int.emod_lt_of_pos x (pow_pos' q)
  have h4 := pow_lt (n := q) h
  rw [u64wrap]
  unfold wrap64
  generalize x / 2 ^ q * 2 ^ q = z at *
  generalize x % 2 ^ q = r at *
  omega
end Go.Proofs.YthcahpgandappaaGreatDoor
