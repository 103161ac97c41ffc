/- The even division: sizes, and the range that has an index; a condition on four cells that is kept. No condition. -/
import Derived.Test.YtfnffpogbkefaaaPm
import Derived.Deep.RegionHeld3
namespace Go.Proofs.Ytfnffpogbkefaaa
open Go.RowKit

theorem ofV_even {n k i : Nat} {x : Int} (hi : i < k) (h1 : (stV n k i : Int) ≤ x) (h2 : x < (stV n k (i + 1) : Nat)) : ofV x (evenV n k) = i := by
  have hlen := evenV_len n k
  refine ofV_here (by omega) (fun j hj => ?_) (by rw [evenV_at hi]; exact h1) (by rw [evenV_at hi]; exact h2)
  rw [evenV_at (by omega)]
  have := stV_mono n k (j + 1) (i - (j + 1))
  rw [show j + 1 + (i - (j + 1)) = i from by omega] at this
  rintro ⟨_, h⟩
  simp only at h
  omega
theorem ofV_even_out {n k : Nat} {x : Int} (hk : 0 < k) (h : x < 0 ∨ (n : Int) ≤ x) : ofV x (evenV n k) = -1 := by
  apply ofV_none
  rw [evenV_len]
  intro j hj
  rw [evenV_at hj]
  have := stV_le (n := n) (k := k) (i := j + 1) (by omega) hk
  rintro ⟨h1, h2⟩
  simp only at h1 h2
  omega
/-- The sizes go down by steps of 1 at most. -/
theorem size_cases {n k i q : Nat} (hq : n / k = q) : (stV n k (i + 1) = stV n k i + q + 1 ∧ i < n % k) ∨ (stV n k (i + 1) = stV n k i + q ∧ ¬ i < n % k) := by
  subst hq
  by_cases h : i < n % k
  · exact .inl ⟨by rw [stV_succ_lt h]; rfl, h⟩
  · exact .inr ⟨stV_succ_ge h, h⟩

/-- Two cells hold, and of what lay in W0 nothing has changed. -/
theorem keep_two {W0 W W' : World} {a b : Addr} {x y : Value} (g : Grew W W') (h : Grew W0 W ∧ W.cell? a = some x ∧ W.cell? b = some y) : Grew W0 W' ∧ W'.cell? a = some x ∧ W'.cell? b = some y :=
  ⟨h.1.trans g, (Below.cell g (World.block_lt_of_cell? W a h.2.1)).trans h.2.1, (Below.cell g (World.block_lt_of_cell? W b h.2.2)).trans h.2.2⟩
theorem keep_four {W0 W W' : World} {a b c d : Addr} {x y z u : Value} (g : Grew W W') (h : Grew W0 W ∧ W.cell? a = some x ∧ W.cell? b = some y ∧ W.cell? c = some z ∧ W.cell? d = some u) : Grew W0 W' ∧ W'.cell? a = some x ∧ W'.cell? b = some y ∧ W'.cell? c = some z ∧ W'.cell? d = some u :=
  ⟨h.1.trans g, (Below.cell g (World.block_lt_of_cell? W a h.2.1)).trans h.2.1, (Below.cell g (World.block_lt_of_cell? W b h.2.2.1)).trans h.2.2.1, (Below.cell g (World.block_lt_of_cell? W c h.2.2.2.1)).trans h.2.2.2.1, (Below.cell g (World.block_lt_of_cell? W d h.2.2.2.2)).trans h.2.2.2.2⟩
end Go.Proofs.Ytfnffpogbkefaaa
