/- Differ and Same of vectors, of the package and of the reference: the least index at which two lists differ, or -1. Condition: the lists have at most 2^45 elements. -/
import Derived.Test.YthcahpgandappaaVa
import Derived.Deep.QuietTactic
import Derived.BigQuiet
namespace Go.Proofs.Ythcahpgandappaa
open Go.RowKit

/-- The least index at which two lists differ; -1 if they are the same. -/
def dif : List Int → List Int → Int
  | [], [] => -1
  | x :: xs, y :: ys => if x = y then (if dif xs ys < 0 then -1 else dif xs ys + 1) else 0
  | _, _ => 0
theorem dif_hit : ∀ (k : Nat) (xs ys : List Int), (∀ j, j < k → xs[j]? = ys[j]?) → xs[k]? ≠ ys[k]? → dif xs ys = k := by
  intro k
  induction k with
  | zero =>
    intro xs ys _ hn
    cases xs with
    | nil => cases ys with
      | nil => exact absurd rfl hn
      | cons y ys => rfl
    | cons x xs => cases ys with
      | nil => rfl
      | cons y ys =>
        have : ¬ x = y := fun e => hn (by simp [e])
        simp [dif, this]
  | succ k ih =>
    intro xs ys h hn
    have h0 := h 0 (by omega)
    cases xs with
    | nil => cases ys with
      | nil => exact absurd rfl hn
      | cons y ys => simp at h0
    | cons x xs => cases ys with
      | nil => simp at h0
      | cons y ys =>
        have e : x = y := by simpa using h0
        have := ih xs ys (fun j hj => by have := h (j + 1) (by omega); simpa using this) (by simpa using hn)
        simp only [dif, e, if_true, this]
        rw [if_neg (by omega)]
        omega
theorem dif_self : ∀ xs : List Int, dif xs xs = -1
  | [] => rfl
  | x :: xs => by simp [dif, dif_self xs]
theorem dif_comm : ∀ xs ys : List Int, dif xs ys = dif ys xs
  | [], [] => rfl
  | [], _ :: _ => rfl
  | _ :: _, [] => rfl
  | x :: xs, y :: ys => by
    simp only [dif]
    rw [dif_comm xs ys]
    by_cases h : x = y
    · rw [if_pos h, if_pos h.symm]
    · rw [if_neg h, if_neg (fun e => h e.symm)]
theorem dif_neg {xs ys : List Int} (h : dif xs ys < 0) : xs = ys := by
  induction xs generalizing ys with
  | nil => cases ys with
    | nil => rfl
    | cons y ys => simp [dif] at h
  | cons x xs ih => cases ys with
    | nil => simp [dif] at h
    | cons y ys =>
      simp only [dif] at h
      by_cases e : x = y
      · rw [if_pos e] at h
        by_cases e2 : dif xs ys < 0
        · rw [e, ih e2]
        · rw [if_neg e2] at h; omega
      · rw [if_neg e] at h; omega
theorem dif_same (xs ys : List Int) : decide (dif xs ys < 0) = decide (xs = ys) := by
  by_cases h : xs = ys
  · subst h; rw [dif_self]; simp
  · rw [decide_eq_false h, decide_eq_false (fun e => h (dif_neg e))]
theorem same_at {xs ys : List Int} {k : Nat} (h1 : k < xs.length) (h2 : k < ys.length) (h : el xs k = el ys k) : xs[k]? = ys[k]? := by rw [el_lt h1, el_lt h2, h]
theorem other_at {xs ys : List Int} {k : Nat} (h1 : k < xs.length) (h2 : k < ys.length) (h : ¬ el xs k = el ys k) : xs[k]? ≠ ys[k]? := by rw [el_lt h1, el_lt h2]; exact fun e => h (by injection e)
theorem longer_at {xs ys : List Int} {k : Nat} (h1 : k < xs.length) (h2 : ys.length ≤ k) : xs[k]? ≠ ys[k]? := by rw [el_lt h1, List.getElem?_eq_none h2]; exact fun e => by cases e
theorem shorter_at {xs ys : List Int} {k : Nat} (h1 : xs.length ≤ k) (h2 : k < ys.length) : xs[k]? ≠ ys[k]? := fun e => longer_at h2 h1 e.symm
theorem till {xs ys : List Int} {k : Nat} (h : ∀ j, j < k → xs[j]? = ys[j]?) (h1 : xs[k]? = ys[k]?) : ∀ j, j < k + 1 → xs[j]? = ys[j]? := by
  intro j hj
  by_cases e : j = k
  · subst e; exact h1
  · exact h j (by omega)
theorem to_end {xs ys : List Int} {k : Nat} (h : ∀ j, j < k → xs[j]? = ys[j]?) (h1 : xs.length ≤ k) (h2 : ys.length ≤ k) : xs = ys := by
  apply List.ext_getElem?
  intro j
  by_cases e : j < k
  · exact h j e
  · rw [List.getElem?_eq_none (by omega), List.getElem?_eq_none (by omega)]

theorem grew_drewN (w : World) (q : Nat) : Grew w (w.drewN q) := (Grew.refl _).drewN _
end Go.Proofs.Ythcahpgandappaa
