/- Sums of slices of int64 numbers: fixp.Sum and the reference's Sum return the sum modulo 2^64; slices.Clone with slices.Reverse leaves a slice of the call's own, turned round; what the sums of turned and of parted lists are. Condition: the slice takes at most 2^47 bytes. -/
import Derived.Test.YtciocdjpgknihaaXd
import Derived.Lib.OwnBridge
namespace Go.Proofs.Ytciocdjpgknihaa
open Go.RowKit Go.Shelf

theorem sumW_eq (zs : List Int) : It.sumW zs = wrap64 zs.sum := by
  have h : ∀ (l : List Int) (s : Int), l.foldl (fun s v => wrap64 (s + v)) (wrap64 s) = wrap64 (s + l.sum) := by
    intro l
    induction l with
    | nil => intro s; simp
    | cons x l ih =>
      intro s
      rw [List.foldl_cons, show wrap64 (wrap64 s + x) = wrap64 (s + x) from by unfold wrap64; omega, ih, List.sum_cons, Int.add_assoc]
  have h0 := h zs 0
  rw [show wrap64 0 = 0 from by unfold wrap64; omega, Int.zero_add] at h0
  exact h0
theorem sumW_reverse (zs : List Int) : It.sumW zs.reverse = It.sumW zs := by rw [sumW_eq, sumW_eq, List.sum_reverse]
theorem sumW_parts (zs : List Int) (k : Nat) : It.sumW [It.sumW (zs.take k), It.sumW (zs.drop k)] = It.sumW zs := by
  rw [sumW_eq, sumW_eq, sumW_eq, sumW_eq]
  have e : zs.sum = (zs.take k).sum + (zs.drop k).sum := by rw [← List.sum_append, List.take_append_drop]
  rw [e, List.sum_cons, List.sum_cons, List.sum_nil]
  unfold wrap64
  omega
theorem sumW_pair (a b : Int) : It.sumW [a, b] = wrap64 (a + b) := by rw [sumW_eq, List.sum_cons, List.sum_cons, List.sum_nil, Int.add_zero]

theorem sum_any (a : Option Addr) (len cap : Nat) (zs : List Int) (w : World) (hr : zs.length * 8 ≤ 140737488351232) (hI : It.Ints w.heap.size w (.slice a len cap) zs) :
    Calls Try.prog 67 #[.slice a len cap] w fun e w' => e = .returned (.int .i64 (It.sumW zs)) ∧ Grew w w' :=
  callsIn_wide.1 (It.SumVals_in Fence.wide 3 trivial trivial trivial rfl (Nat.le_refl _) a len cap zs hr w hI)

theorem It.sumW_nil : It.sumW [] = 0 := rfl
/-- Two numbers in a new block are a slice of two. -/
theorem pair_ints (w : World) (x y : Int) : It.Ints (w.alloc (.cells #[.int .i64 x, .int .i64 y] 2)).heap.size (w.alloc (.cells #[.int .i64 x, .int .i64 y] 2)) (.slice (some ⟨w.heap.size, 0, none⟩) 2 2) [x, y] := by
  refine .inr ⟨w.heap.size, 0, 2, rfl, by simp, fun j hj => ?_⟩
  have h : j = 0 ∨ j = 1 := by simp at hj; omega
  rcases h with rfl | rfl
  · simp [World.cell?_alloc_new]
  · simp [World.cell?_alloc_new]
theorem pair_any (w : World) (x y : Int) :
    Calls Try.prog 67 #[.slice (some ⟨w.heap.size, 0, none⟩) 2 2] (w.alloc (.cells #[.int .i64 x, .int .i64 y] 2)) fun e w' => e = .returned (.int .i64 (wrap64 (x + y))) ∧ Grew w w' :=
  (sum_any _ _ _ [x, y] _ (by simp) (pair_ints w x y)).mono fun e w' ⟨he, hg⟩ => ⟨by rw [he, sumW_pair], ((Grew.refl _).alloc _).trans hg⟩
theorem sub_add {a g : Int} (h0 : -9223372036854775808 ≤ a) (h1 : a ≤ 9223372036854775807) : wrap64 (wrap64 (a - g) + g) = a := by unfold wrap64; omega
end Go.Proofs.Ytciocdjpgknihaa
