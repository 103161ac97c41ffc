/- Sums of vectors in another order and in groups: plain facts on lists of vectors; no program is named. -/
import Derived.Test.YtdlhpamgjfipfaaVk
namespace Go.Proofs.Ytdlhpamgjfipfaa
open Go.RowKit

/-- The sum of the elements with one index. -/
def cs (vs : List Vec) (j : Nat) : Int := (vs.map fun v => el v.zs j).sum
theorem colsum_sum (vs : List Vec) (j : Nat) : ∀ k, k ≤ vs.length → colsum vs j k = ((vs.take k).map fun v => el v.zs j).sum
  | 0, _ => rfl
  | k + 1, h => by
    simp only [colsum]
    rw [colsum_sum vs j k (by omega), List.take_add_one, va_lt (by omega)]
    simp
theorem colsum_cs (vs : List Vec) (j : Nat) : colsum vs j vs.length = cs vs j := by rw [colsum_sum vs j _ (Nat.le_refl _), List.take_length]; rfl
theorem tot_cs (vs : List Vec) (n : Nat) : tot vs n = (List.range n).map fun j => wrap64 (cs vs j) := by
  unfold tot
  apply List.map_congr_left
  intro j _
  rw [colsum_cs]
/-- All have the same length. -/
def All (n : Nat) (vs : List Vec) : Prop := ∀ v ∈ vs, v.zs.length = n
theorem va_mem {vs : List Vec} {i : Nat} (h : i < vs.length) : va vs i ∈ vs := List.mem_of_getElem? (va_lt h)
theorem all_ok {n : Nat} {vs : List Vec} (h : All n vs) (hne : vs ≠ []) : okV vs = true ∧ sumV vs = tot vs n := by
  have h0 : (va vs 0).zs.length = n := h _ (va_mem (List.length_pos_iff.2 hne))
  have h1 : okV vs = true := by
    unfold okV
    rw [h0, mis_none _ (fun j hj => h _ (va_mem hj))]
    rfl
  exact ⟨h1, by rw [sumV_yes h1, h0]⟩
theorem ok_all {vs : List Vec} (h : okV vs = true) : All (va vs 0).zs.length vs := by
  intro v hv
  obtain ⟨i, hi, rfl⟩ := List.getElem_of_mem hv
  have := mis_no (by simpa [okV] using h) i hi
  rw [← this]
  unfold va
  rw [List.getElem?_eq_getElem hi]
  rfl
theorem sum_reverse {vs : List Vec} (h : okV vs = true) (hne : vs ≠ []) : okV vs.reverse = true ∧ sumV vs.reverse = sumV vs := by
  have ha := ok_all h
  have h1 := all_ok (vs := vs.reverse) (fun v hv => ha v (List.mem_reverse.1 hv)) (by simpa using hne)
  refine ⟨h1.1, ?_⟩
  rw [h1.2, (all_ok ha hne).2, tot_cs, tot_cs]
  apply List.map_congr_left
  intro j _
  unfold cs
  rw [List.map_reverse, List.sum_reverse]
theorem cs_append (us vs : List Vec) (j : Nat) : cs (us ++ vs) j = cs us j + cs vs j := by unfold cs; rw [List.map_append, List.sum_append]
theorem sum_groups {vs : List Vec} {k : Nat} (h : okV vs = true) (h1 : 1 ≤ k) (hk : k ≤ vs.length) (a : Option Addr) (c : Nat) :
    okV (vs.take k) = true ∧ (sumV (vs.take k)).length = (va vs 0).zs.length ∧ okV (vs.drop k ++ [⟨a, c, sumV (vs.take k)⟩]) = true ∧ sumV (vs.drop k ++ [⟨a, c, sumV (vs.take k)⟩]) = sumV vs := by
  have hne : vs ≠ [] := by intro e; rw [e] at hk; simp at hk; omega
  have ha := ok_all h
  have ht := all_ok (vs := vs.take k) (fun v hv => ha v (List.mem_of_mem_take hv)) (by intro e; have := congrArg List.length e; rw [List.length_take, List.length_nil] at this; omega)
  have hl : (sumV (vs.take k)).length = (va vs 0).zs.length := by rw [ht.2, tot_len]
  have hr := all_ok (vs := vs.drop k ++ [⟨a, c, sumV (vs.take k)⟩]) (n := (va vs 0).zs.length) (fun v hv => by
    rcases List.mem_append.1 hv with hv | hv
    · exact ha v (List.mem_of_mem_drop hv)
    · rw [List.mem_singleton.1 hv]; exact hl) (by simp)
  refine ⟨ht.1, hl, hr.1, ?_⟩
  rw [hr.2, (all_ok ha hne).2, tot_cs, tot_cs]
  apply List.map_congr_left
  intro j hj
  rw [cs_append]
  have e1 : cs [⟨a, c, sumV (vs.take k)⟩] j = wrap64 (cs (vs.take k) j) := by
    simp only [cs, List.map_cons, List.map_nil, List.sum_cons, List.sum_nil, Int.add_zero]
    rw [ht.2, tot_el _ (List.mem_range.1 hj), colsum_cs]
    rfl
  have e2 : cs vs j = cs (vs.take k) j + cs (vs.drop k) j := by rw [← cs_append, List.take_append_drop]
  rw [e1, e2]
  generalize cs (vs.take k) j = x
  generalize cs (vs.drop k) j = y
  unfold wrap64
  omega
theorem tot_fit (vs : List Vec) (n : Nat) : Fit (tot vs n) := by
  intro j hj
  rw [tot_len] at hj
  rw [tot_el vs hj]
  unfold In64 wrap64
  omega
theorem sum_fit (vs : List Vec) : Fit (sumV vs) := by
  cases h : okV vs with
  | true => rw [sumV_yes h]; exact tot_fit _ _
  | false => rw [sumV_no h]; exact fun j hj => by simp at hj
theorem va_reverse {vs : List Vec} {i : Nat} (h : i < vs.reverse.length) : ∃ j, j < vs.length ∧ va vs.reverse i = va vs j := by
  rw [List.length_reverse] at h
  refine ⟨vs.length - 1 - i, by omega, ?_⟩
  unfold va
  rw [List.getElem?_reverse h]
theorem va_take {vs : List Vec} {k i : Nat} (h : i < (vs.take k).length) : i < vs.length ∧ va (vs.take k) i = va vs i := by
  rw [List.length_take] at h
  refine ⟨by omega, ?_⟩
  unfold va
  rw [List.getElem?_take_of_lt (by omega)]
theorem va_drop {vs : List Vec} {k i : Nat} (h : i < (vs.drop k).length) : k + i < vs.length ∧ va (vs.drop k) i = va vs (k + i) := by
  rw [List.length_drop] at h
  refine ⟨by omega, ?_⟩
  unfold va
  rw [List.getElem?_drop]
theorem va_snoc {vs : List Vec} {v : Vec} {i : Nat} (h : i < (vs ++ [v]).length) : (i < vs.length ∧ va (vs ++ [v]) i = va vs i) ∨ va (vs ++ [v]) i = v := by
  rw [List.length_append] at h
  simp only [List.length_cons, List.length_nil] at h
  unfold va
  by_cases e : i < vs.length
  · exact .inl ⟨e, by rw [List.getElem?_append_left e]⟩
  · refine .inr ?_
    rw [List.getElem?_append_right (by omega), show i - vs.length = 0 from by omega]
    rfl
end Go.Proofs.Ytdlhpamgjfipfaa
