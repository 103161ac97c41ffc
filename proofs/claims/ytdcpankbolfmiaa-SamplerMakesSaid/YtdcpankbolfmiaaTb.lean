/- Package perm: permutation, Valid, Need, numbers, bounds, Inverse, Compose. Condition: at most 2^44 numbers. -/
import Derived.Test.YtdcpankbolfmiaaTa
import Derived.Test.YtdcpankbolfmiaaTm
namespace Go.Proofs.Ytdcpankbolfmiaa
open Go.RowKit

theorem wf_in64 {n : Int} (h : In64 n) : (Lit.int .i64 n).wf = true := by
  unfold In64 at h
  simp [Lit.wf, IntKind.min, IntKind.max, IntKind.signed, IntKind.bits]
  omega
/-- The first k numbers are below the length, none of them stands twice, and S has just them. -/
def PreP (zs : List Int) (S : Int → Bool) (k : Nat) : Prop :=
  (∀ j, j < k → 0 ≤ el zs j ∧ el zs j < zs.length) ∧ (∀ i j, i < j → j < k → el zs i ≠ el zs j) ∧ (∀ y, S y = true ↔ ∃ j, j < k ∧ el zs j = y)
theorem PreP.start (zs : List Int) : PreP zs (fun _ => false) 0 := ⟨fun j hj => by omega, fun i j _ hj => by omega, fun y => by simp⟩
theorem PreP.step {zs : List Int} {S : Int → Bool} {k : Nat} (h : PreP zs S k) (h0 : 0 ≤ el zs k) (h1 : el zs k < zs.length) (h2 : S (el zs k) = false) : PreP zs (fun y => decide (y = el zs k) || S y) (k + 1) := by
  refine ⟨fun j hj => ?_, fun i j hij hj e => ?_, fun y => ?_⟩
  · by_cases e : j = k
    · subst e; exact ⟨h0, h1⟩
    · exact h.1 j (by omega)
  · by_cases e' : j = k
    · subst e'
      have := (h.2.2 (el zs j)).2 ⟨i, hij, e⟩
      rw [h2] at this; cases this
    · exact h.2.1 i j hij (by omega) e
  · rw [Bool.or_eq_true, decide_eq_true_eq, h.2.2]
    constructor
    · rintro (rfl | ⟨j, hj, e⟩)
      · exact ⟨k, by omega, rfl⟩
      · exact ⟨j, by omega, e⟩
    · rintro ⟨j, hj, e⟩
      by_cases e' : j = k
      · subst e'; exact .inl e.symm
      · exact .inr ⟨j, by omega, e⟩
theorem PreP.twice {zs : List Int} {S : Int → Bool} {k : Nat} (h : PreP zs S k) (hk : k < zs.length) (h2 : S (el zs k) = true) : validB zs = false := by
  refine validB_no (fun hp => ?_)
  obtain ⟨j, hj, e⟩ := (h.2.2 _).1 h2
  have := hp.2 j k (by omega) hk e
  omega
theorem out_of {zs : List Int} {k : Nat} (hk : k < zs.length) (h : el zs k < 0 ∨ zs.length ≤ el zs k) : validB zs = false := by
  refine validB_no (fun hp => ?_)
  have := hp.1 k hk
  omega
theorem PreP.all {zs : List Int} {S : Int → Bool} (h : PreP zs S zs.length) : validB zs = true := by
  refine validB_yes ⟨h.1, fun i j hi hj e => ?_⟩
  rcases Nat.lt_trichotomy i j with h' | h' | h'
  · exact absurd e (h.2.1 i j h' hj)
  · exact h'
  · exact absurd e.symm (h.2.1 j i h' hi)

end Go.Proofs.Ytdcpankbolfmiaa
