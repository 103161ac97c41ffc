/- How many numbers the first rows of a list of lists hold (plain). No condition. -/
import Derived.Test.YthhhbopigehbhaaTq
namespace Go.Proofs.Ythhhbopigehbhaa
open Go.RowKit

def sumTo (ls : List (List Int)) (j : Nat) : Nat := ((ls.take j).map List.length).sum
theorem sumTo_succ {ls : List (List Int)} {j : Nat} (h : j < ls.length) : sumTo ls (j + 1) = sumTo ls j + (rowAt ls j).length := by
  unfold sumTo rowAt
  rw [List.take_add_one, List.getElem?_eq_getElem h, List.map_append, List.sum_append]
  simp
theorem sumTo_all (ls : List (List Int)) : sumTo ls ls.length = ls.flatten.length := by unfold sumTo; rw [List.take_length, List.length_flatten]
theorem sumTo_le (ls : List (List Int)) : ∀ d j, j + d = ls.length → sumTo ls j ≤ ls.flatten.length
  | 0, j, h => by rw [← sumTo_all, ← h]; exact Nat.le_refl _
  | d + 1, j, h => by
    have h1 := sumTo_le ls d (j + 1) (by omega)
    rw [sumTo_succ (by omega)] at h1
    omega
theorem sumTo_in {ls : List (List Int)} {j : Nat} (h : j ≤ ls.length) : sumTo ls j ≤ ls.flatten.length := sumTo_le ls (ls.length - j) j (by omega)
end Go.Proofs.Ythhhbopigehbhaa
