/- The cycles of a permutation (plain): following it from a number on; how soon it comes back; which number is its cycle's least; that all cycles together hold each number once. No condition. -/
import Derived.Test.YthhhbopigehbhaaTm
namespace Go.Proofs.Ythhhbopigehbhaa
open Go.RowKit

/-- m steps from i on. -/
def it (zs : List Int) (i : Nat) : Nat → Nat
  | 0 => i
  | m + 1 => (el zs (it zs i m)).toNat
section
variable {zs : List Int}
theorem it_lt (h : IsP zs) {i : Nat} (hi : i < zs.length) : ∀ m, it zs i m < zs.length
  | 0 => hi
  | m + 1 => by
    obtain ⟨y, hy, e⟩ := isP_ran h (it_lt h hi m)
    rw [it, e, Int.toNat_natCast]
    exact hy
theorem it_el (h : IsP zs) {i : Nat} (hi : i < zs.length) (m : Nat) : el zs (it zs i m) = it zs i (m + 1) := by
  obtain ⟨y, hy, e⟩ := isP_ran h (it_lt h hi m)
  rw [it, e, Int.toNat_natCast]
theorem it_add (zs : List Int) (i a : Nat) : ∀ b, it zs (it zs i a) b = it zs i (a + b)
  | 0 => rfl
  | b + 1 => by rw [it, it_add zs i a b]; rfl
theorem it_back (h : IsP zs) {i j : Nat} (hi : i < zs.length) (hj : j < zs.length) : ∀ m, it zs i m = it zs j m → i = j
  | 0, e => e
  | m + 1, e => by
    refine it_back h hi hj m (h.2 _ _ (it_lt h hi m) (it_lt h hj m) ?_)
    rw [it_el h hi, it_el h hj, e]
theorem it_sub (h : IsP zs) {i : Nat} (hi : i < zs.length) {a b : Nat} (hab : a ≤ b) (e : it zs i a = it zs i b) : it zs i (b - a) = i := by
  refine it_back h (it_lt h hi _) hi a ?_
  rw [it_add, show b - a + a = b by omega, e]
theorem it_again (h : IsP zs) {i : Nat} (hi : i < zs.length) : ∃ m, 0 < m ∧ m ≤ zs.length ∧ it zs i m = i := by
  apply Classical.byContradiction
  intro hn
  have hne : ∀ a b, a < b → b ≤ zs.length → it zs i a ≠ it zs i b := fun a b hab hb e => hn ⟨b - a, by omega, by omega, it_sub h hi (by omega) e⟩
  have h1 : ((List.range (zs.length + 1)).map (it zs i)).length ≤ (List.range zs.length).length := by
    refine List.Nodup.length_le_of_subset ?_ (fun x hx => ?_)
    · unfold List.Nodup
      rw [List.pairwise_map, List.pairwise_iff_getElem]
      intro a b ha hb hab
      rw [List.length_range] at ha hb
      rw [List.getElem_range, List.getElem_range]
      exact hne a b hab (by omega)
    · obtain ⟨m, _, rfl⟩ := List.mem_map.1 hx
      exact List.mem_range.2 (it_lt h hi m)
  simp at h1
  omega
end
theorem least_of {P : Nat → Prop} : ∀ m, P m → ∃ k, k ≤ m ∧ P k ∧ ∀ j, j < k → ¬ P j := by
  intro m
  induction m using Nat.strongRecOn with
  | _ m ih =>
    intro hm
    by_cases h : ∃ j, j < m ∧ P j
    · obtain ⟨j, hj, hp⟩ := h
      obtain ⟨k, hk, r⟩ := ih j hj hp
      exact ⟨k, by omega, r⟩
    · exact ⟨m, Nat.le_refl _, hm, fun j hj hp => h ⟨j, hj, hp⟩⟩
/-- It comes back for the first time after L steps. -/
def Per (zs : List Int) (i L : Nat) : Prop := 0 < L ∧ L ≤ zs.length ∧ it zs i L = i ∧ ∀ m, 0 < m → m < L → it zs i m ≠ i
open Classical in
noncomputable def per (zs : List Int) (i : Nat) : Nat := if h : ∃ L, Per zs i L then Classical.choose h else 0
section
variable {zs : List Int}
theorem per_is (h : IsP zs) {i : Nat} (hi : i < zs.length) : Per zs i (per zs i) := by
  have hex : ∃ L, Per zs i L := by
    obtain ⟨m, h0, hm, e⟩ := it_again h hi
    obtain ⟨k, hk, ⟨h1, h2⟩, h3⟩ := least_of (P := fun m => 0 < m ∧ it zs i m = i) m ⟨h0, e⟩
    exact ⟨k, h1, by omega, h2, fun j hj hjk e => h3 j hjk ⟨hj, e⟩⟩
  unfold per
  rw [dif_pos hex]
  exact Classical.choose_spec hex
theorem it_ne (h : IsP zs) {i : Nat} (hi : i < zs.length) {a b : Nat} (hab : a < b) (hb : b < per zs i) : it zs i a ≠ it zs i b := fun e =>
  (per_is h hi).2.2.2 (b - a) (by omega) (by omega) (it_sub h hi (by omega) e)
theorem it_mod (h : IsP zs) {i : Nat} (hi : i < zs.length) (m : Nat) : ∃ k, k < per zs i ∧ it zs i m = it zs i k := by
  induction m using Nat.strongRecOn with
  | _ m ih =>
    have hp := per_is h hi
    by_cases hm : m < per zs i
    · exact ⟨m, hm, rfl⟩
    · obtain ⟨k, hk, e⟩ := ih (m - per zs i) (by have := hp.1; omega)
      refine ⟨k, hk, ?_⟩
      rw [← e, show m = per zs i + (m - per zs i) by omega, ← it_add, hp.2.2.1]
      congr 1
      omega
/-- From i one comes to y. -/
def Rch (zs : List Int) (i y : Nat) : Prop := ∃ m, it zs i m = y
theorem Rch.refl (zs : List Int) (i : Nat) : Rch zs i i := ⟨0, rfl⟩
theorem Rch.trans {i j k : Nat} (h : Rch zs i j) (h' : Rch zs j k) : Rch zs i k := by
  obtain ⟨a, rfl⟩ := h
  obtain ⟨b, rfl⟩ := h'
  exact ⟨a + b, (it_add zs i a b).symm⟩
theorem Rch.symm (h : IsP zs) {i j : Nat} (hi : i < zs.length) (hr : Rch zs i j) : Rch zs j i := by
  obtain ⟨m, rfl⟩ := hr
  obtain ⟨k, hk, e⟩ := it_mod h hi m
  have hp := per_is h hi
  refine ⟨per zs i - k, ?_⟩
  rw [e, it_add, show k + (per zs i - k) = per zs i by omega]
  exact hp.2.2.1
theorem Rch.lt (h : IsP zs) {i j : Nat} (hi : i < zs.length) (hr : Rch zs i j) : j < zs.length := by
  obtain ⟨m, rfl⟩ := hr
  exact it_lt h hi m
end
/-- The first m numbers of a cycle; whether all of them but the first are above it. -/
def cycTo (zs : List Int) (i m : Nat) : List Int := (List.range m).map fun (j : Nat) => (it zs i j : Int)
def lsTo (zs : List Int) (i m : Nat) : Bool := (List.range m).all fun j => decide (j = 0) || decide ((i : Int) < (it zs i j : Int))
noncomputable def cyc (zs : List Int) (i : Nat) : List Int := cycTo zs i (per zs i)
noncomputable def lsB (zs : List Int) (i : Nat) : Bool := lsTo zs i (per zs i)
theorem cycTo_len (zs : List Int) (i m : Nat) : (cycTo zs i m).length = m := by simp [cycTo]
theorem cycTo_snoc (zs : List Int) (i m : Nat) : cycTo zs i (m + 1) = cycTo zs i m ++ [(it zs i m : Int)] := by unfold cycTo; rw [List.range_succ, List.map_append]; rfl
theorem lsTo_snoc (zs : List Int) (i : Nat) {m : Nat} (hm : 0 < m) : lsTo zs i (m + 1) = (lsTo zs i m && decide ((i : Int) < (it zs i m : Int))) := by
  unfold lsTo
  rw [List.range_succ, List.all_append]
  simp [show m ≠ 0 by omega]
theorem cyc_len (zs : List Int) (i : Nat) : (cyc zs i).length = per zs i := cycTo_len _ _ _
section
variable {zs : List Int}
theorem cyc_mem (h : IsP zs) {i : Nat} (hi : i < zs.length) {y : Int} : y ∈ cyc zs i ↔ ∃ k : Nat, Rch zs i k ∧ y = k := by
  unfold cyc cycTo
  rw [List.mem_map]
  constructor
  · rintro ⟨m, _, rfl⟩; exact ⟨_, ⟨m, rfl⟩, rfl⟩
  · rintro ⟨k, ⟨m, rfl⟩, rfl⟩
    obtain ⟨j, hj, e⟩ := it_mod h hi m
    exact ⟨j, List.mem_range.2 hj, by rw [e]⟩
theorem cyc_nodup (h : IsP zs) {i : Nat} (hi : i < zs.length) : (cyc zs i).Nodup := by
  unfold cyc cycTo List.Nodup
  rw [List.pairwise_map, List.pairwise_iff_getElem]
  intro a b ha hb hab
  rw [List.length_range] at ha hb
  rw [List.getElem_range, List.getElem_range]
  have := it_ne h hi hab hb
  omega
/-- A number is above none of its cycle if no smaller one leads to it. -/
theorem ls_yes (h : IsP zs) {k : Nat} (hk : k < zs.length) (hn : ∀ i, i < k → ¬ Rch zs i k) : lsB zs k = true := by
  unfold lsB lsTo
  rw [List.all_eq_true]
  intro m hm
  have hm := List.mem_range.1 hm
  by_cases e : m = 0
  · simp [e]
  · rw [Bool.or_eq_true, decide_eq_true_eq, decide_eq_true_eq]
    right
    have hne := (per_is h hk).2.2.2 m (by omega) hm
    have hr : Rch zs k (it zs k m) := ⟨m, rfl⟩
    have : ¬ it zs k m < k := fun hlt => hn _ hlt (hr.symm h hk)
    omega
theorem ls_no (h : IsP zs) {k i : Nat} (hk : k < zs.length) (hi : i < k) (hr : Rch zs i k) : lsB zs k = false := by
  obtain ⟨m, e⟩ := hr.symm h (by omega)
  obtain ⟨j, hj, e'⟩ := it_mod h hk m
  unfold lsB lsTo
  rw [List.all_eq_false]
  refine ⟨j, List.mem_range.2 hj, ?_⟩
  have h0 : j ≠ 0 := by
    rintro rfl
    have : it zs k 0 = k := rfl
    omega
  rw [Bool.or_eq_true, decide_eq_true_eq, decide_eq_true_eq]
  omega
end
/-- The cycles whose least numbers are below k. -/
noncomputable def cycs (zs : List Int) : Nat → List (List Int)
  | 0 => []
  | k + 1 => if lsB zs k then cycs zs k ++ [cyc zs k] else cycs zs k
theorem cycs_yes {zs : List Int} {k : Nat} (h : lsB zs k = true) : cycs zs (k + 1) = cycs zs k ++ [cyc zs k] := by rw [cycs, h, if_pos rfl]
theorem cycs_no {zs : List Int} {k : Nat} (h : lsB zs k = false) : cycs zs (k + 1) = cycs zs k := by rw [cycs, h]; rfl
section
variable {zs : List Int}
/-- All that they hold: each once, just what is led to by numbers below k. -/
theorem cycs_inv (h : IsP zs) : ∀ k, k ≤ zs.length → (cycs zs k).flatten.Nodup ∧ ∀ y : Int, y ∈ (cycs zs k).flatten ↔ ∃ i j : Nat, i < k ∧ Rch zs i j ∧ y = j
  | 0, _ => ⟨List.Pairwise.nil, fun y => by simp [cycs]⟩
  | k + 1, hk => by
    obtain ⟨h1, h2⟩ := cycs_inv h k (by omega)
    by_cases hex : ∃ i, i < k ∧ Rch zs i k
    · obtain ⟨i, hi, hr⟩ := hex
      rw [cycs_no (ls_no h (by omega) hi hr)]
      refine ⟨h1, fun y => ?_⟩
      rw [h2]
      constructor
      · rintro ⟨i', j, hi', r⟩; exact ⟨i', j, by omega, r⟩
      · rintro ⟨i', j, hi', hr', e⟩
        by_cases e' : i' = k
        · subst e'; exact ⟨i, j, hi, hr.trans hr', e⟩
        · exact ⟨i', j, by omega, hr', e⟩
    · have hn : ∀ i, i < k → ¬ Rch zs i k := fun i hi hr => hex ⟨i, hi, hr⟩
      rw [cycs_yes (ls_yes h (by omega) hn), List.flatten_append]
      have e1 : ([cyc zs k] : List (List Int)).flatten = cyc zs k := by simp
      rw [e1]
      constructor
      · rw [List.nodup_append]
        refine ⟨h1, cyc_nodup h (by omega), fun a ha b hb e => ?_⟩
        obtain ⟨i, j, hi, hr, e1⟩ := (h2 a).1 ha
        obtain ⟨j', hr', e2⟩ := (cyc_mem h (by omega)).1 hb
        have : j = j' := by omega
        subst this
        exact hn i hi (hr.trans (hr'.symm h (by omega)))
      · intro y
        rw [List.mem_append, h2, cyc_mem h (by omega)]
        constructor
        · rintro (⟨i, j, hi, r⟩ | ⟨j, hr, e⟩)
          · exact ⟨i, j, by omega, r⟩
          · exact ⟨k, j, by omega, hr, e⟩
        · rintro ⟨i, j, hi, hr, e⟩
          by_cases e' : i = k
          · subst e'; exact .inr ⟨j, hr, e⟩
          · exact .inl ⟨i, j, by omega, hr, e⟩
theorem cycs_le (h : IsP zs) {k : Nat} (hk : k ≤ zs.length) : (cycs zs k).flatten.length ≤ zs.length := by
  obtain ⟨h1, h2⟩ := cycs_inv h k hk
  have := List.Nodup.length_le_of_subset (l₂ := nums zs.length) h1 (fun y hy => by
    obtain ⟨i, j, hi, hr, e⟩ := (h2 y).1 hy
    exact nums_mem.2 ⟨j, hr.lt h (by omega), e⟩)
  rwa [nums_len] at this
theorem cycs_all (h : IsP zs) : (cycs zs zs.length).flatten.length = zs.length := by
  refine Nat.le_antisymm (cycs_le h (Nat.le_refl _)) ?_
  have := List.Nodup.length_le_of_subset (l₂ := (cycs zs zs.length).flatten) (nums_nodup zs.length) (fun y hy => by
    obtain ⟨j, hj, e⟩ := nums_mem.1 hy
    exact ((cycs_inv h _ (Nat.le_refl _)).2 y).2 ⟨j, j, hj, Rch.refl _ _, e⟩)
  rwa [nums_len] at this
theorem cycs_few (zs : List Int) : ∀ k, (cycs zs k).length ≤ k
  | 0 => Nat.zero_le _
  | k + 1 => by
    have := cycs_few zs k
    cases hb : lsB zs k with
    | true => rw [cycs_yes hb, List.length_append, List.length_singleton]; omega
    | false => rw [cycs_no hb]; omega

/-- What is marked when the numbers below k have been looked at. -/
def SInv (zs : List Int) (S : Int → Bool) (k : Nat) : Prop := ∀ y : Int, S y = true ↔ ∃ i j : Nat, i < k ∧ Rch zs i j ∧ y = j
theorem sInv_start : SInv zs (fun _ => false) 0 := fun y => by simp
theorem sInv_ls (h : IsP zs) {S : Int → Bool} {k : Nat} (hk : k < zs.length) (hS : SInv zs S k) : lsB zs k = !(S k) := by
  cases hb : S k with
  | true =>
    obtain ⟨i, j, hi, hr, e⟩ := (hS k).1 hb
    have : j = k := by omega
    subst this
    exact ls_no h hk hi hr
  | false =>
    refine ls_yes h hk (fun i hi hr => ?_)
    have := (hS k).2 ⟨i, k, hi, hr, rfl⟩
    rw [hb] at this
    cases this
theorem sInv_free (h : IsP zs) {S : Int → Bool} {k : Nat} (hk : k < zs.length) (hS : SInv zs S k) (hb : S k = false) (m : Nat) : S (it zs k m) = false := by
  cases hb' : S (it zs k m) with
  | false => rfl
  | true =>
    obtain ⟨i, j, hi, hr, e⟩ := (hS _).1 hb'
    have hr' : Rch zs k (it zs k m) := ⟨m, rfl⟩
    have : j = it zs k m := by omega
    subst this
    have := (hS k).2 ⟨i, k, hi, hr.trans (hr'.symm h hk), rfl⟩
    rw [hb] at this
    cases this
theorem sInv_skip {S : Int → Bool} {k : Nat} (hS : SInv zs S k) (hb : S k = true) : SInv zs S (k + 1) := fun y => by
  obtain ⟨i0, j0, hi0, hr0, e0⟩ := (hS k).1 hb
  have : j0 = k := by omega
  subst this
  rw [hS]
  constructor
  · rintro ⟨i, j, hi, r⟩; exact ⟨i, j, by omega, r⟩
  · rintro ⟨i, j, hi, hr, e⟩
    by_cases e' : i = j0
    · subst e'; exact ⟨i0, j, hi0, hr0.trans hr, e⟩
    · exact ⟨i, j, by omega, hr, e⟩
/-- .. and when a cycle has been marked up to m of its numbers. -/
def CInv (zs : List Int) (S S' : Int → Bool) (k m : Nat) : Prop := ∀ y : Int, S' y = true ↔ S y = true ∨ ∃ j, j < m ∧ y = it zs k j
theorem cInv_start (S : Int → Bool) (k : Nat) : CInv zs S S k 0 := fun y => by simp
theorem cInv_step {S S' : Int → Bool} {k m : Nat} (h : CInv zs S S' k m) : CInv zs S (fun y => decide (y = it zs k m) || S' y) k (m + 1) := fun y => by
  rw [Bool.or_eq_true, decide_eq_true_eq, h]
  constructor
  · rintro (e | e | ⟨j, hj, e⟩)
    · exact .inr ⟨m, by omega, e⟩
    · exact .inl e
    · exact .inr ⟨j, by omega, e⟩
  · rintro (e | ⟨j, hj, e⟩)
    · exact .inr (.inl e)
    · by_cases e' : j = m
      · subst e'; exact .inl e
      · exact .inr (.inr ⟨j, by omega, e⟩)
theorem cInv_new (h : IsP zs) {S S' : Int → Bool} {k m : Nat} (hk : k < zs.length) (hfree : ∀ j, S (it zs k j) = false) (hm : m < per zs k) (hS : CInv zs S S' k m) : S' (it zs k m) = false := by
  cases hb : S' (it zs k m) with
  | false => rfl
  | true =>
    rcases (hS _).1 hb with e | ⟨j, hj, e⟩
    · rw [hfree] at e; cases e
    · exact absurd (by omega) (it_ne h hk hj hm)
theorem cInv_end (h : IsP zs) {S S' : Int → Bool} {k : Nat} (hk : k < zs.length) (hS : CInv zs S S' k (per zs k)) : S' (it zs k (per zs k)) = true := by
  have hp := per_is h hk
  rw [hp.2.2.1]
  exact (hS k).2 (.inr ⟨0, hp.1, rfl⟩)
theorem sInv_cyc (h : IsP zs) {S S' : Int → Bool} {k : Nat} (hk : k < zs.length) (hS : SInv zs S k) (hC : CInv zs S S' k (per zs k)) : SInv zs S' (k + 1) := fun y => by
  rw [hC, hS]
  constructor
  · rintro (⟨i, j, hi, r⟩ | ⟨j, hj, e⟩)
    · exact ⟨i, j, by omega, r⟩
    · exact ⟨k, _, by omega, ⟨j, rfl⟩, e⟩
  · rintro ⟨i, j, hi, hr, e⟩
    by_cases e' : i = k
    · subst e'
      obtain ⟨m, rfl⟩ := hr
      obtain ⟨j', hj', e2⟩ := it_mod h hk m
      exact .inr ⟨j', hj', by rw [e, e2]⟩
    · exact .inl ⟨i, j, by omega, hr, e⟩
end
end Go.Proofs.Ythhhbopigehbhaa
