/- A slice of int64 numbers that can be read (Seen), and what is within the bounds. No condition. -/
import Derived.Test.YtciocdjpgknihaaUo
namespace Go.Proofs.Ytciocdjpgknihaa
open Go.RowKit

/-- A slice that can be read. -/
def Seen (W : World) (s : Option Addr) (n c : Nat) (zs : List Int) : Prop := zs.length = n ∧ n ≤ c ∧ c ≤ 9223372036854775807 ∧ n ≤ 1099511627776 ∧ Rd W.heap.size W s zs ∧ Fit zs
section
variable {W W' : World} {s : Option Addr} {n c : Nat} {zs : List Int}
theorem Seen.grow (h : Seen W s n c zs) (g : Grew W W') : Seen W' s n c zs := ⟨h.1, h.2.1, h.2.2.1, h.2.2.2.1, h.2.2.2.2.1.grow g, h.2.2.2.2.2⟩
theorem Seen.rd (h : Seen W s n c zs) : Rd W.heap.size W s zs := h.2.2.2.2.1
theorem Seen.fit (h : Seen W s n c zs) : Fit zs := h.2.2.2.2.2
theorem Seen.none : Seen W none 0 0 [] := ⟨rfl, Nat.le_refl _, Nat.zero_le _, Nat.zero_le _, .inl rfl, fun j hj => by simp at hj⟩
theorem buf_fits {B : Nat} (h : Buf B W s n c zs) : n ≤ c ∧ c ≤ 9223372036854775807 := by
  rcases h.2 with ⟨e, _⟩ | ⟨g, cp, cur, e, _, _, hc, hm, _⟩
  · injection e with e1 e2 e3
    subst e2 e3
    exact ⟨Nat.le_refl _, Nat.zero_le _⟩
  · injection e with e1 e2 e3
    subst e3
    exact ⟨hc, by unfold maxLen at hm; exact hm⟩
theorem Buf.seen {B : Nat} (h : Buf B W s n c zs) (hn : n ≤ 1099511627776) (hf : Fit zs) : Seen W s n c zs := ⟨h.len, (buf_fits h).1, (buf_fits h).2, hn, h.rd, hf⟩
end
theorem fit_nil : Fit [] := fun j hj => by simp at hj
theorem fit_map {f : Nat → Int} {n : Nat} (h : ∀ j, j < n → In64 (f j)) : Fit ((List.range n).map f) := fun j hj => by
  rw [len_map] at hj
  rw [el_map hj]
  exact h j hj
theorem mul_fit (zs : List Int) (R C : Nat) (x : List Int) (q : Int) : Fit (mulL zs R C x q) := fit_map fun _ _ => pS_in _ _ _ _
theorem el_in {zs : List Int} (h : Fit zs) (k : Nat) : In64 (el zs k) := by
  by_cases hk : k < zs.length
  · exact h k hk
  · rw [el_out (by omega)]
    exact in_zero
theorem turn_fit {zs : List Int} (h : Fit zs) (R C : Nat) : Fit (turnL zs R C) := fit_map fun _ _ => el_in h _
theorem out_fit (y x : List Int) (q : Int) : Fit (outL y x q) := fit_map fun _ _ => mulV_in _ _ _
end Go.Proofs.Ytciocdjpgknihaa
