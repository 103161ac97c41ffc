/- Bounds of integers that fit their kinds, and what the statements compare. -/
import Derived.Test.YtciocdjpgknihaaXb
namespace Go.Proofs.Ytciocdjpgknihaa
open Go.RowKit
theorem i64_wf {n : Int} (h : (Lit.int .i64 n).wf = true) : -9223372036854775808 ≤ n ∧ n ≤ 9223372036854775807 := by
  simp [Lit.wf, IntKind.min, IntKind.max, IntKind.signed, IntKind.bits] at h
  omega
theorem u64_wf {n : Int} (h : (Lit.int .u64 n).wf = true) : 0 ≤ n ∧ n < 18446744073709551616 := by
  simp [Lit.wf, IntKind.min, IntKind.max, IntKind.signed, IntKind.bits] at h
  omega
theorem u8_wf {n : Int} (h : (Lit.int .u8 n).wf = true) : 0 ≤ n ∧ n ≤ 255 := by
  simp [Lit.wf, IntKind.min, IntKind.max, IntKind.signed, IntKind.bits] at h
  omega
theorem low_word (a b : Int) : wrap64 (a * b % 18446744073709551616) = wrap64 (a * b) := wrap64_mod _
/-- Two shifts are one. -/
theorem shr_twice {hi lo q : Int} (h0 : 1 ≤ q) (h1 : q ≤ 63) (l0 : 0 ≤ lo) (l1 : lo < 18446744073709551616) :
    shrV (hi * 18446744073709551616 + lo) q = shrV (hi / 2 * 18446744073709551616 + bits .or .u64 (lo / 2) (IntKind.u64.wrap (IntKind.u64.wrap hi * 9223372036854775808))) (q - 1) := by
  rw [(or_step l0 l1).2.2, shrV_yes (by omega) h1, shrV_yes (by omega) (by omega)]
  obtain ⟨n, rfl⟩ : ∃ n : Nat, q = n + 1 := ⟨(q - 1).toNat, by omega⟩
  rw [show ((n : Int) + 1).toNat = n + 1 from by omega, show ((n : Int) + 1 - 1).toNat = n from by omega]
  have e : (2 : Int) ^ (n + 1) = 2 * 2 ^ n := by rw [Int.pow_succ, Int.mul_comm]
  rw [e, ← Int.ediv_ediv_of_nonneg (by omega)]
/-- A product with a power of two below One. -/
theorem floor_eq {a : Int} {m n : Nat} (h : m ≤ n) (hn : n ≤ 62) (a0 : -9223372036854775808 ≤ a) (a1 : a ≤ 9223372036854775807) : mulV a (2 ^ m) n = a / 2 ^ (n - m) := by
  rw [mulV_yes (by omega) (by omega), Int.toNat_natCast]
  have e : (2 : Int) ^ n = 2 ^ (n - m) * 2 ^ m := by rw [← Int.pow_add, show n - m + m = n from by omega]
  rw [e, Int.mul_ediv_mul_of_pos_left _ _ (pow_pos' m)]
  have hp := pow_pos' (n - m)
  have l1 : a / 2 ^ (n - m) ≤ 9223372036854775807 := by
    by_cases hh : 0 ≤ a
    · exact Int.le_trans (Int.ediv_le_self _ hh) a1
    · have := Int.ediv_neg_of_neg_of_pos (a := a) (by omega) hp
      omega
  have l0 : -9223372036854775808 ≤ a / 2 ^ (n - m) := by
    apply Int.le_ediv_of_mul_le hp
    have : (1 : Int) ≤ 2 ^ (n - m) := by omega
    omega
  exact wrap64_id l0 l1
end Go.Proofs.Ytciocdjpgknihaa
