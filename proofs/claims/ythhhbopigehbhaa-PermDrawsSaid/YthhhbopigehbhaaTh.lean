/- The reference's Inverse, said way by way; permutations are within the bounds of int64. Condition: at most 2^44 numbers. -/
import Derived.Test.YthhhbopigehbhaaTe
namespace Go.Proofs.Ythhhbopigehbhaa
open Go.RowKit

theorem fit_isP {zs : List Int} (hl : zs.length ≤ 17592186044416) (h : IsP zs) : Fit zs := fun j hj => by
  have := h.1 j hj
  unfold In64
  omega
theorem rinverse_no (a : Option Addr) (c : Nat) (zs : List Int) (w : World) (hl : zs.length ≤ 17592186044416) (h : RdK .i64 w.heap.size w a zs) (hv : validB zs = false) :
    Calls Try.prog 15 #[.slice a zs.length c] w fun e w' => (∃ a' c', e = .returned (.tuple #[.slice a' 0 c', .bool false]) ∧ BufK .i64 3 w.heap.size w' a' 0 c' []) ∧ Grew w w' := by
  have := rinverse_any a c zs w hl h
  rw [hv] at this
  exact this
theorem rinverse_yes (a : Option Addr) (c : Nat) (zs : List Int) (w : World) (hl : zs.length ≤ 17592186044416) (h : RdK .i64 w.heap.size w a zs) (hv : validB zs = true) :
    Calls Try.prog 15 #[.slice a zs.length c] w fun e w' => (∃ a' c', e = .returned (.tuple #[.slice a' zs.length c', .bool true]) ∧ BufK .i64 3 w.heap.size w' a' zs.length c' (invL zs)) ∧ Grew w w' := by
  have := rinverse_any a c zs w hl h
  rw [hv] at this
  simp only [if_true, invL_len] at this
  exact this
theorem canB_bad {ps qs : List Int} (h : validB ps = false) : canB ps qs = false := by
  unfold canB
  rw [h, Bool.and_false, Bool.false_and]
end Go.Proofs.Ythhhbopigehbhaa
