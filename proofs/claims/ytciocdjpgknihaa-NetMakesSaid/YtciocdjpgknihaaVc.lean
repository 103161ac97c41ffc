/- The hash of a vector, of the package (by Horner's rule) and of the reference (by powers from the end): they are the same, and another one if one element is changed. Condition: the list has at most 2^45 elements. -/
import Derived.Test.YtciocdjpgknihaaVb
namespace Go.Proofs.Ytciocdjpgknihaa
open Go.RowKit

theorem u64mod (x : Int) : IntKind.u64.wrap x = x % 18446744073709551616 := IntKind.wrap_u64 x
theorem mod_add (a b : Int) : (a % 18446744073709551616 + b % 18446744073709551616) % 18446744073709551616 = (a + b) % 18446744073709551616 := (Int.add_emod _ _ _).symm
theorem mod_mul (a b : Int) : (a % 18446744073709551616 * (b % 18446744073709551616)) % 18446744073709551616 = a * b % 18446744073709551616 := (Int.mul_emod _ _ _).symm

/-- The hash of the first elements, by Horner's rule. -/
def hv (zs : List Int) : Nat → Int
  | 0 => 1
  | k + 1 => IntKind.u64.wrap (IntKind.u64.wrap (hv zs k + IntKind.u64.wrap (el zs k)) * 1099511628211)
/-- The power and the sum of the reference, after some elements from the end. -/
def rp : Nat → Int
  | 0 => 1
  | j + 1 => IntKind.u64.wrap (rp j * 1099511628211)
def rs (zs : List Int) : Nat → Int
  | 0 => 0
  | j + 1 => IntKind.u64.wrap (rs zs j + IntKind.u64.wrap (IntKind.u64.wrap (el zs (zs.length - (j + 1))) * rp (j + 1)))

theorem hv_step (zs : List Int) (k : Nat) : hv zs (k + 1) % 18446744073709551616 = (hv zs k + el zs k) * 1099511628211 % 18446744073709551616 := by
  simp only [hv, u64mod]
  rw [Int.emod_emod, Int.mul_emod, Int.emod_emod, Int.add_emod (hv zs k), Int.emod_emod, ← Int.add_emod, ← Int.mul_emod]
theorem rp_step (j : Nat) : rp (j + 1) % 18446744073709551616 = rp j * 1099511628211 % 18446744073709551616 := by
  simp only [rp, u64mod]
  rw [Int.emod_emod]
theorem rs_step (zs : List Int) (j : Nat) : rs zs (j + 1) % 18446744073709551616 = (rs zs j + el zs (zs.length - (j + 1)) * rp (j + 1)) % 18446744073709551616 := by
  simp only [rs, u64mod]
  generalize el zs (zs.length - (j + 1)) = x
  generalize rp (j + 1) = y
  rw [Int.emod_emod, Int.add_emod, Int.emod_emod, Int.mul_emod, Int.emod_emod, ← Int.mul_emod, ← Int.add_emod]
theorem congr_mul {a b : Int} (h : a % 18446744073709551616 = b % 18446744073709551616) (c : Int) : a * c % 18446744073709551616 = b * c % 18446744073709551616 := by rw [Int.mul_emod, h, ← Int.mul_emod]
theorem congr_add {a b c d : Int} (h : a % 18446744073709551616 = b % 18446744073709551616) (k : c % 18446744073709551616 = d % 18446744073709551616) : (a + c) % 18446744073709551616 = (b + d) % 18446744073709551616 := by rw [Int.add_emod, h, k, ← Int.add_emod]
theorem hash_parts (zs : List Int) : ∀ j, j ≤ zs.length → hv zs zs.length % 18446744073709551616 = (hv zs (zs.length - j) * rp j + rs zs j) % 18446744073709551616 := by
  intro j
  induction j with
  | zero => intro _; simp [rp, rs]
  | succ j ih =>
    intro hj
    rw [ih (by omega)]
    have e : zs.length - j = (zs.length - (j + 1)) + 1 := by omega
    have h1 := hv_step zs (zs.length - (j + 1))
    rw [← e] at h1
    have h2 := rp_step j
    have h3 := rs_step zs j
    generalize zs.length - (j + 1) = m at h1 h3 ⊢
    have l := congr_add (congr_mul h1 (rp j)) (c := rs zs j) rfl
    have r1 : hv zs m * rp (j + 1) % 18446744073709551616 = rp j * 1099511628211 * hv zs m % 18446744073709551616 := by rw [Int.mul_comm]; exact congr_mul h2 _
    have r2 : (rs zs j + el zs m * rp (j + 1)) % 18446744073709551616 = (rs zs j + rp j * 1099511628211 * el zs m) % 18446744073709551616 := congr_add rfl (by rw [Int.mul_comm]; exact congr_mul h2 _)
    rw [l, congr_add r1 (h3.trans r2)]
    congr 1
    grind
theorem hash_same (zs : List Int) : hv zs zs.length % 18446744073709551616 = (rs zs zs.length + rp zs.length) % 18446744073709551616 := by
  rw [hash_parts zs zs.length (Nat.le_refl _), Nat.sub_self, show hv zs 0 = 1 from rfl, Int.one_mul, Int.add_comm]
theorem hv_bounds (zs : List Int) (k : Nat) : 0 ≤ hv zs k ∧ hv zs k < 18446744073709551616 := by
  cases k with
  | zero => simp [hv]
  | succ k => simp only [hv, u64mod]; omega
theorem hash_eq (zs : List Int) : IntKind.u64.wrap (rs zs zs.length + rp zs.length) = hv zs zs.length := by
  rw [u64mod, ← hash_same]
  exact Int.emod_eq_of_lt (hv_bounds zs _).1 (hv_bounds zs _).2

/-- A step of Horner's rule loses nothing: the factor is odd. -/
theorem odd_back {a b : Int} (h : a * 1099511628211 % 18446744073709551616 = b * 1099511628211 % 18446744073709551616) : a % 18446744073709551616 = b % 18446744073709551616 := by
  have k := congr_mul h 14886173955864302971
  rw [Int.mul_assoc, Int.mul_assoc, Int.mul_emod a, Int.mul_emod b] at k
  simpa using k
theorem sub_back {a b x : Int} (h : (a + x) % 18446744073709551616 = (b + x) % 18446744073709551616) : a % 18446744073709551616 = b % 18446744073709551616 := by omega
theorem hv_head {xs ys : List Int} : ∀ k, (∀ j, j < k → el xs j = el ys j) → hv xs k = hv ys k := by
  intro k
  induction k with
  | zero => intro _; rfl
  | succ k ih => intro h; simp only [hv]; rw [ih (fun j hj => h j (by omega)), h k (by omega)]
theorem hv_tail {xs ys : List Int} {m : Nat} (hm : hv xs m % 18446744073709551616 ≠ hv ys m % 18446744073709551616) : ∀ k, (∀ j, m ≤ j → j < m + k → el xs j = el ys j) → hv xs (m + k) % 18446744073709551616 ≠ hv ys (m + k) % 18446744073709551616 := by
  intro k
  induction k with
  | zero => intro _; exact hm
  | succ k ih =>
    intro h e
    rw [← Nat.add_assoc, hv_step, hv_step, h (m + k) (by omega) (by omega)] at e
    exact ih (fun j h1 h2 => h j h1 (by omega)) (sub_back (odd_back e))
/-- If one element is changed, the hash is another one. -/
theorem hash_changed {zs : List Int} {k : Nat} {d : Int} (hk : k < zs.length) (hd : d ≠ 0) (h0 : -9223372036854775808 ≤ d) (h1 : d ≤ 9223372036854775807) :
    hv (zs.set k (wrap64 (el zs k + d))) (zs.set k (wrap64 (el zs k + d))).length ≠ hv zs zs.length := by
  intro e
  rw [List.length_set] at e
  have e1 := hv_head (xs := zs.set k (wrap64 (el zs k + d))) (ys := zs) k (fun j hj => el_set_other _ (by omega))
  refine hv_tail (xs := zs.set k (wrap64 (el zs k + d))) (ys := zs) (m := k + 1) ?_ (zs.length - (k + 1)) (fun j hj _ => el_set_other _ (by omega)) ?_
  · rw [hv_step, hv_step, el_set_same _ hk, e1]
    intro h
    have := odd_back h
    unfold wrap64 at this
    omega
  · rw [show k + 1 + (zs.length - (k + 1)) = zs.length from by omega, e]

end Go.Proofs.Ytciocdjpgknihaa
