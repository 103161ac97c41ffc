/- The draws that make a permutation (plain): the exchanges undone one after the other; that shuffling with them makes it. No condition. -/
import Derived.Test.YthhhbopigehbhaaTg
namespace Go.Proofs.Ythhhbopigehbhaa
open Go.RowKit

def tr (i j m : Nat) : Nat := if m = j then i else if m = i then j else m
theorem tr_lt {i j m n : Nat} (hi : i < n) (hj : j < n) (hm : m < n) : tr i j m < n := by
  unfold tr
  by_cases h1 : m = j
  · rw [if_pos h1]; exact hi
  · rw [if_neg h1]
    split <;> omega
theorem tr_inj {i j m m' : Nat} (h : tr i j m = tr i j m') : m = m' := by
  unfold tr at h
  split at h <;> split at h <;> (try split at h) <;> (try split at h) <;> omega
theorem tr_other {i j m : Nat} (hi : m ≠ i) (hj : m ≠ j) : tr i j m = m := by simp [tr, hi, hj]
theorem tr_left (i j : Nat) : tr i j i = j := by unfold tr; split <;> simp_all
theorem tr_right (i j : Nat) : tr i j j = i := by simp [tr]
theorem swapL_el {l : List Int} {i j m : Nat} (hi : i < l.length) (hj : j < l.length) : el (swapL l i j) m = el l (tr i j m) := by
  unfold swapL tr
  by_cases h1 : m = j
  · subst h1
    rw [el_set_same _ (by simpa using hj), if_pos rfl]
  · rw [el_set_other _ (fun e => h1 e.symm), if_neg h1]
    by_cases h2 : m = i
    · subst h2
      rw [el_set_same _ hi, if_pos rfl]
    · rw [el_set_other _ (fun e => h2 e.symm), if_neg h2]
theorem swapL_isP {l : List Int} {i j : Nat} (hi : i < l.length) (hj : j < l.length) (h : IsP l) : IsP (swapL l i j) := by
  constructor
  · intro m hm
    rw [swapL_len] at hm ⊢
    rw [swapL_el hi hj]
    exact h.1 _ (tr_lt hi hj hm)
  · intro m m' hm hm' e
    rw [swapL_len] at hm hm'
    rw [swapL_el hi hj, swapL_el hi hj] at e
    exact tr_inj (h.2 _ _ (tr_lt hi hj hm) (tr_lt hi hj hm') e)
/-- The exchange, written the other way round. -/
theorem swapL_back {l : List Int} {i j : Nat} : (l.set j (el l i)).set i (el l j) = swapL l i j := by
  unfold swapL
  by_cases e : i = j
  · subst e; rfl
  · exact List.set_comm _ _ (fun e' => e e'.symm)

/-- Where a number stands. -/
def posn (l : List Int) (x : Int) : Nat := (el (invL l) x.toNat).toNat
theorem posn_at {l : List Int} (h : IsP l) {j : Nat} (hj : j < l.length) {x : Int} (e : el l j = x) : posn l x = j := by
  obtain ⟨y, hy, e'⟩ := isP_ran h hj
  unfold posn
  rw [← e, e', Int.toNat_natCast, invL_el h hj e', Int.toNat_natCast]
theorem posn_is {l : List Int} (h : IsP l) {y : Nat} (hy : y < l.length) : posn l y < l.length ∧ el l (posn l y) = y := by
  obtain ⟨j, hj, e, e2⟩ := invL_at h hy
  unfold posn
  rw [Int.toNat_natCast, e2, Int.toNat_natCast]
  exact ⟨hj, e⟩

/-- The numbers when k of the exchanges are done; the next one's index. -/
def dL (p : List Int) : Nat → List Int
  | 0 => nums p.length
  | k + 1 => swapL (dL p k) (p.length - 1 - k) (posn (dL p k) (el p (p.length - 1 - k)))
def dJ (p : List Int) (k : Nat) : Nat := posn (dL p k) (el p (p.length - 1 - k))
theorem dL_succ (p : List Int) (k : Nat) : dL p (k + 1) = swapL (dL p k) (p.length - 1 - k) (dJ p k) := rfl
theorem dL_len (p : List Int) : ∀ k, (dL p k).length = p.length
  | 0 => nums_len _
  | k + 1 => by rw [dL_succ, swapL_len, dL_len p k]
/-- What holds when k exchanges are done. -/
def DInv (p : List Int) (k : Nat) : Prop := IsP (dL p k) ∧ ∀ m, p.length - k ≤ m → m < p.length → el (dL p k) m = el p m
theorem dJ_at {p : List Int} (hp : IsP p) {k : Nat} (hk : k < p.length - 1) (h : DInv p k) : dJ p k ≤ p.length - 1 - k ∧ el (dL p k) (dJ p k) = el p (p.length - 1 - k) := by
  obtain ⟨y, hy, e⟩ := isP_ran hp (j := p.length - 1 - k) (by omega)
  obtain ⟨h1, h2⟩ := posn_is h.1 (y := y) (by rw [dL_len]; exact hy)
  rw [← e] at h1 h2
  rw [dL_len] at h1
  refine ⟨?_, h2⟩
  unfold dJ
  apply Classical.byContradiction
  intro hn
  have h3 := h.2 (posn (dL p k) (el p (p.length - 1 - k))) (by omega) h1
  rw [h2] at h3
  have := hp.2 _ _ (by omega) h1 h3
  omega
theorem dInv_all {p : List Int} (hp : IsP p) : ∀ k, k ≤ p.length - 1 → DInv p k
  | 0, _ => ⟨nums_isP _, fun m h1 h2 => by omega⟩
  | k + 1, hk => by
    have h := dInv_all hp k (by omega)
    obtain ⟨h1, h2⟩ := dJ_at hp (k := k) (by omega) h
    have hi : p.length - 1 - k < (dL p k).length := by rw [dL_len]; omega
    have hj : dJ p k < (dL p k).length := by rw [dL_len]; omega
    refine ⟨by rw [dL_succ]; exact swapL_isP hi hj h.1, fun m hm1 hm2 => ?_⟩
    rw [dL_succ, swapL_el hi hj]
    by_cases e : m = p.length - 1 - k
    · subst e
      rw [tr_left, h2]
    · rw [tr_other e (by omega)]
      exact h.2 m (by omega) hm2
theorem dL_end {p : List Int} (hp : IsP p) : dL p (p.length - 1) = p := by
  have h := dInv_all hp (p.length - 1) (Nat.le_refl _)
  refine el_ext (dL_len _ _) (fun m hm => ?_)
  rw [dL_len] at hm
  by_cases e : m = 0
  · subst e
    obtain ⟨y, hy, e⟩ := isP_ran h.1 (j := 0) (by rw [dL_len]; exact hm)
    rw [dL_len] at hy
    obtain ⟨j, hj, e'⟩ := sur_of_isP hp y hy
    by_cases e2 : j = 0
    · subst e2; rw [e, e']
    · have h3 := h.2 j (by omega) hj
      have := h.1.2 0 j (by rw [dL_len]; exact hm) (by rw [dL_len]; exact hj) (by rw [e, h3, e'])
      omega
  · exact h.2 m (by omega) hm
/-- The list of the draws. -/
def drawsL (p : List Int) : List Int := (List.range (p.length - 1)).map fun (k : Nat) => (dJ p k : Int)
theorem drawsL_len (p : List Int) : (drawsL p).length = p.length - 1 := by simp [drawsL]
theorem drawsL_el {p : List Int} {k : Nat} (h : k < p.length - 1) : el (drawsL p) k = dJ p k := by unfold el drawsL; simp [h]
theorem drawsL_u64 {p : List Int} (hl : p.length ≤ 17592186044416) (hp : IsP p) : U64 (drawsL p) := fun j hj => by
  rw [drawsL_len] at hj
  rw [drawsL_el hj]
  have := (dJ_at hp hj (dInv_all hp j (by omega))).1
  omega
theorem shuf_is {p : List Int} (hp : IsP p) : ∀ m, m ≤ p.length - 1 → shufK p.length (drawsB (drawsL p) 0 p.length) m = dL p m
  | 0, _ => rfl
  | m + 1, hm => by
    have h1 := (dJ_at hp (k := m) (by omega) (dInv_all hp m (by omega))).1
    rw [shufK, dL_succ, shuf_is hp m (by omega), drawsB_at (by omega), Nat.zero_add, drawsL_el (by omega), Int.emod_eq_of_lt (by omega) (by omega), Int.toNat_natCast]
theorem shuf_draws {p : List Int} (hp : IsP p) : shufK p.length (drawsB (drawsL p) 0 p.length) (p.length - 1) = p := by
  rw [shuf_is hp _ (Nat.le_refl _), dL_end hp]

/-- The second list says where each number stands, as far as it is still asked. -/
def WInv (p ws : List Int) (k : Nat) : Prop := ws.length = p.length ∧ ∀ m, m < p.length - k → el ws (el (dL p k) m).toNat = m
theorem wInv_start (p : List Int) : WInv p (nums p.length) 0 := by
  refine ⟨nums_len _, fun m hm => ?_⟩
  have hm' : m < p.length := by omega
  rw [dL, nums_el hm', Int.toNat_natCast, nums_el hm']
theorem wInv_at {p ws : List Int} (hp : IsP p) {k : Nat} (hk : k < p.length - 1) (h : WInv p ws k) : el ws (el p (p.length - 1 - k)).toNat = dJ p k := by
  obtain ⟨h1, h2⟩ := dJ_at hp hk (dInv_all hp k (by omega))
  rw [← h2]
  exact h.2 _ (by omega)
theorem wInv_step {p ws : List Int} (hp : IsP p) {k : Nat} (hk : k < p.length - 1) (h : WInv p ws k) : WInv p (ws.set (el (dL p (k + 1)) (dJ p k)).toNat (dJ p k)) (k + 1) := by
  have hI := dInv_all hp k (by omega)
  obtain ⟨h1, h2⟩ := dJ_at hp hk hI
  have hi : p.length - 1 - k < (dL p k).length := by rw [dL_len]; omega
  have hj : dJ p k < (dL p k).length := by rw [dL_len]; omega
  have hP := (dInv_all hp (k + 1) (by omega)).1
  refine ⟨by rw [List.length_set, h.1], fun m hm => ?_⟩
  obtain ⟨y, hy, e⟩ := isP_ran hP (j := dJ p k) (by rw [dL_len]; omega)
  rw [dL_len] at hy
  by_cases e1 : m = dJ p k
  · subst e1
    rw [e, Int.toNat_natCast]
    exact el_set_same _ (by rw [h.1]; exact hy)
  · rw [el_set_other _ ?_]
    · rw [dL_succ, swapL_el hi hj, tr_other (by omega) e1]
      exact h.2 m (by omega)
    · intro e2
      obtain ⟨y', hy', e'⟩ := isP_ran hP (j := m) (by rw [dL_len]; omega)
      rw [e, e', Int.toNat_natCast, Int.toNat_natCast] at e2
      exact e1 (hP.2 m (dJ p k) (by rw [dL_len]; omega) (by rw [dL_len]; omega) (by rw [e, e', e2]))
end Go.Proofs.Ythhhbopigehbhaa
