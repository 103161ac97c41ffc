/- Permutations as lists of integers (plain): which lists are some; a list that holds each number is one; the index of a number; inverse, composition, numbers in their places. No condition. -/
import Derived.Test.YtdcpankbolfmiaaVa
namespace Go.Proofs.Ytdcpankbolfmiaa
open Go.RowKit

def Ran (zs : List Int) : Prop := ∀ j, j < zs.length → 0 ≤ el zs j ∧ el zs j < zs.length
def Inj (zs : List Int) : Prop := ∀ i j, i < zs.length → j < zs.length → el zs i = el zs j → i = j
def Sur (zs : List Int) : Prop := ∀ y : Nat, y < zs.length → ∃ j, j < zs.length ∧ el zs j = y
/-- Each of the numbers below the length stands there once. -/
def IsP (zs : List Int) : Prop := Ran zs ∧ Inj zs
open Classical in
noncomputable def validB (zs : List Int) : Bool := decide (IsP zs)
open Classical in
theorem validB_yes {zs : List Int} (h : IsP zs) : validB zs = true := by unfold validB; exact decide_eq_true h
open Classical in
theorem validB_no {zs : List Int} (h : ¬ IsP zs) : validB zs = false := by unfold validB; exact decide_eq_false h
open Classical in
theorem validB_is {zs : List Int} (h : validB zs = true) : IsP zs := by unfold validB at h; exact of_decide_eq_true h
open Classical in
theorem validB_not {zs : List Int} (h : validB zs = false) : ¬ IsP zs := by unfold validB at h; exact of_decide_eq_false h

theorem el_get {zs : List Int} {k : Nat} (h : k < zs.length) : el zs k = zs[k] := by unfold el; rw [List.getElem?_eq_getElem h]; rfl
theorem el_mem {zs : List Int} {k : Nat} (h : k < zs.length) : el zs k ∈ zs := by rw [el_get h]; exact List.getElem_mem _
theorem el_append_left {xs ys : List Int} {k : Nat} (h : k < xs.length) : el (xs ++ ys) k = el xs k := by unfold el; rw [List.getElem?_append_left h]
theorem el_append_here {xs : List Int} {v : Int} : el (xs ++ [v]) xs.length = v := by unfold el; simp
theorem take_el {zs : List Int} {k : Nat} (h : k < zs.length) : zs.take (k + 1) = zs.take k ++ [el zs k] := by rw [List.take_add_one, el_lt h]; rfl
def nums (n : Nat) : List Int := (List.range n).map fun (k : Nat) => (k : Int)
theorem nums_len (n : Nat) : (nums n).length = n := by simp [nums]
theorem nums_el {n k : Nat} (h : k < n) : el (nums n) k = k := by unfold el nums; simp [h]
theorem nums_mem {n : Nat} {x : Int} : x ∈ nums n ↔ ∃ k : Nat, k < n ∧ x = k := by
  unfold nums
  rw [List.mem_map]
  constructor
  · rintro ⟨k, hk, rfl⟩; exact ⟨k, List.mem_range.1 hk, rfl⟩
  · rintro ⟨k, hk, rfl⟩; exact ⟨k, List.mem_range.2 hk, rfl⟩
theorem nums_nodup (n : Nat) : (nums n).Nodup := by
  unfold nums List.Nodup
  rw [List.pairwise_map]
  exact (List.nodup_range (n := n)).imp (fun {a b} h e => h (by omega))
theorem nums_snoc (n : Nat) : nums (n + 1) = nums n ++ [(n : Int)] := by unfold nums; rw [List.range_succ, List.map_append]; rfl
theorem nums_isP (n : Nat) : IsP (nums n) := by
  constructor
  · intro j hj
    rw [nums_len] at hj ⊢
    rw [nums_el hj]
    omega
  · intro i j hi hj h
    rw [nums_len] at hi hj
    rw [nums_el hi, nums_el hj] at h
    omega
theorem nodup_of_inj {zs : List Int} (h : Inj zs) : zs.Nodup := by
  unfold List.Nodup
  rw [List.pairwise_iff_getElem]
  intro i j hi hj hij e
  rw [← el_get hi, ← el_get hj] at e
  have := h i j hi hj e
  omega
theorem no_spare {zs : List Int} {j : Nat} (hj : j < zs.length) (h : ∀ y : Nat, y < zs.length → ∃ i, i < zs.length ∧ i ≠ j ∧ el zs i = y) : False := by
  have h1 : (nums zs.length).length ≤ (zs.eraseIdx j).length := by
    refine List.Nodup.length_le_of_subset (nums_nodup _) (fun x hx => ?_)
    obtain ⟨y, hy, rfl⟩ := nums_mem.1 hx
    obtain ⟨i, hi, hne, e⟩ := h y hy
    rw [List.mem_eraseIdx_iff_getElem?]
    exact ⟨i, hne, by rw [el_lt hi, e]⟩
  rw [nums_len, List.length_eraseIdx, if_pos hj] at h1
  omega
theorem isP_of_sur {zs : List Int} (h : Sur zs) : IsP zs := by
  constructor
  · intro j hj
    apply Classical.byContradiction
    intro hn
    refine no_spare hj (fun y hy => ?_)
    obtain ⟨i, hi, e⟩ := h y hy
    refine ⟨i, hi, ?_, e⟩
    rintro rfl
    omega
  · intro i j hi hj e
    apply Classical.byContradiction
    intro hn
    refine no_spare hj (fun y hy => ?_)
    obtain ⟨k, hk, e'⟩ := h y hy
    by_cases hkj : k = j
    · subst hkj; exact ⟨i, hi, hn, by rw [e, e']⟩
    · exact ⟨k, hk, hkj, e'⟩
theorem sur_of_isP {zs : List Int} (h : IsP zs) : Sur zs := by
  intro y hy
  apply Classical.byContradiction
  intro hn
  have h1 : zs.length ≤ ((nums zs.length).erase (y : Int)).length := by
    refine List.Nodup.length_le_of_subset (nodup_of_inj h.2) (fun x hx => ?_)
    obtain ⟨j, hj, rfl⟩ := List.getElem_of_mem hx
    rw [← el_get hj]
    have hr := h.1 j hj
    refine (List.mem_erase_of_ne (fun e => hn ⟨j, hj, e⟩)).2 (nums_mem.2 ⟨(el zs j).toNat, by omega, by omega⟩)
  rw [List.length_erase_of_mem (nums_mem.2 ⟨y, hy, rfl⟩), nums_len] at h1
  omega
theorem isP_ran {zs : List Int} (h : IsP zs) {j : Nat} (hj : j < zs.length) : ∃ y : Nat, y < zs.length ∧ el zs j = y := by
  have := h.1 j hj
  exact ⟨(el zs j).toNat, by omega, by omega⟩

/-! inverse -/
def invK (zs : List Int) : Nat → List Int
  | 0 => List.replicate zs.length 0
  | k + 1 => (invK zs k).set (el zs k).toNat k
def invL (zs : List Int) : List Int := invK zs zs.length
theorem invK_len (zs : List Int) : ∀ k, (invK zs k).length = zs.length
  | 0 => by simp [invK]
  | k + 1 => by rw [invK, List.length_set, invK_len zs k]
theorem invL_len (zs : List Int) : (invL zs).length = zs.length := invK_len zs _
theorem invK_el {zs : List Int} (h : IsP zs) {j : Nat} (hj : j < zs.length) : ∀ k, k ≤ zs.length → j < k → el (invK zs k) (el zs j).toNat = j
  | 0, _, hjk => by omega
  | k + 1, hk, hjk => by
    obtain ⟨y, hy, e⟩ := isP_ran h hj
    rw [invK]
    by_cases hkj : j = k
    · subst hkj
      exact el_set_same _ (by rw [invK_len, e]; omega)
    · rw [el_set_other _ ?_, invK_el h hj k (by omega) (by omega)]
      intro e'
      obtain ⟨y', hy', e2⟩ := isP_ran h (show k < zs.length by omega)
      rw [e, e2] at e'
      exact hkj (h.2 j k hj (by omega) (by rw [e, e2]; simp at e'; omega))
theorem invL_el {zs : List Int} (h : IsP zs) {j y : Nat} (hj : j < zs.length) (e : el zs j = y) : el (invL zs) y = j := by
  have := invK_el h hj zs.length (Nat.le_refl _) hj
  rw [e] at this
  exact this
theorem invL_at {zs : List Int} (h : IsP zs) {y : Nat} (hy : y < zs.length) : ∃ j, j < zs.length ∧ el zs j = y ∧ el (invL zs) y = j := by
  obtain ⟨j, hj, e⟩ := sur_of_isP h y hy
  exact ⟨j, hj, e, invL_el h hj e⟩
theorem invL_isP {zs : List Int} (h : IsP zs) : IsP (invL zs) := by
  constructor
  · intro y hy
    rw [invL_len] at hy ⊢
    obtain ⟨j, hj, _, e⟩ := invL_at h hy
    rw [e]
    omega
  · intro y y' hy hy' e
    rw [invL_len] at hy hy'
    obtain ⟨j, hj, e1, e2⟩ := invL_at h hy
    obtain ⟨j', hj', e1', e2'⟩ := invL_at h hy'
    rw [e2, e2'] at e
    have : j = j' := by omega
    subst this
    omega

/-! composition -/
def compK (ps qs : List Int) : Nat → List Int
  | 0 => List.replicate qs.length 0
  | k + 1 => (compK ps qs k).set k (el ps (el qs k).toNat)
def compL (ps qs : List Int) : List Int := compK ps qs qs.length
theorem compK_len (ps qs : List Int) : ∀ k, (compK ps qs k).length = qs.length
  | 0 => by simp [compK]
  | k + 1 => by rw [compK, List.length_set, compK_len ps qs k]
theorem compL_len (ps qs : List Int) : (compL ps qs).length = qs.length := compK_len ps qs _
theorem compK_el (ps qs : List Int) {j : Nat} (hj : j < qs.length) : ∀ k, k ≤ qs.length → j < k → el (compK ps qs k) j = el ps (el qs j).toNat
  | 0, _, hjk => by omega
  | k + 1, hk, hjk => by
    rw [compK]
    by_cases hkj : j = k
    · subst hkj
      exact el_set_same _ (by rw [compK_len]; omega)
    · rw [el_set_other _ (by omega), compK_el ps qs hj k (by omega) (by omega)]
theorem compL_el (ps qs : List Int) {j : Nat} (hj : j < qs.length) : el (compL ps qs) j = el ps (el qs j).toNat := compK_el ps qs hj _ (Nat.le_refl _) hj
theorem comp_inv {zs : List Int} (h : IsP zs) {j : Nat} (hj : j < zs.length) : el (compL zs (invL zs)) j = j := by
  rw [compL_el _ _ (by rw [invL_len]; exact hj)]
  obtain ⟨i, hi, e, e2⟩ := invL_at h hj
  rw [e2, Int.toNat_natCast, e]
end Go.Proofs.Ytdcpankbolfmiaa
