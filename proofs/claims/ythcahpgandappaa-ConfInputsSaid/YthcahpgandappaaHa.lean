/- The parameters of a network with given sizes, plain: how many there are, the ranges of each link, what each one belongs to. No program is named here. -/
import Derived.Test.YthcahpgandappaaPa
import Derived.Test.YthcahpgandappaaVa
namespace Go.Proofs.Ythcahpgandappaa
open Go.RowKit

/-- The number of weights of a link; that of the parameters of the first k links. -/
def wgt (zs : List Int) (k : Nat) : Int := el zs k * el zs (k + 1)
def cntN (zs : List Int) : Nat → Int
  | 0 => 0
  | k + 1 => cntN zs k + (wgt zs k + el zs (k + 1))
def lnk (zs : List Int) : Nat := zs.length - 1
def cnt (zs : List Int) : Int := cntN zs (lnk zs)
/-- Each size is in range. -/
def OkS (zs : List Int) : Prop := ∀ j, j < zs.length → 1 ≤ el zs j ∧ el zs j ≤ 1048576
def offS (z : Int) : Bool := decide (z < 1) || decide (1048576 < z)
def badS (zs : List Int) : Bool := (List.range zs.length).any fun j => offS (el zs j)
/-- Right sizes. -/
def Right (zs : List Int) : Prop := 2 ≤ zs.length ∧ zs.length ≤ 16 ∧ OkS zs ∧ cnt zs ≤ 1048576
/-- The code of sizes. -/
def codeV (zs : List Int) : Int := if zs.length < 2 ∨ 16 < zs.length ∨ badS zs = true then 5 else if 1048576 < cnt zs then 4 else 0

theorem offS_no {z : Int} : offS z = false ↔ 1 ≤ z ∧ z ≤ 1048576 := by
  unfold offS
  simp
theorem badS_yes {zs : List Int} {j : Nat} (hj : j < zs.length) (h : offS (el zs j) = true) : badS zs = true := by
  unfold badS
  rw [List.any_eq_true]
  exact ⟨j, List.mem_range.2 hj, h⟩
theorem badS_no {zs : List Int} (h : OkS zs) : badS zs = false := by
  unfold badS
  rw [List.any_eq_false]
  intro j hj
  rw [offS_no.2 (h j (List.mem_range.1 hj))]
  simp
theorem badS_false {zs : List Int} (h : badS zs = false) : OkS zs := by
  intro j hj
  unfold badS at h
  rw [List.any_eq_false] at h
  have := h j (List.mem_range.2 hj)
  exact offS_no.1 (by simpa using this)
theorem codeV_short {zs : List Int} (h : zs.length < 2) : codeV zs = 5 := by unfold codeV; rw [if_pos (.inl h)]
theorem codeV_long {zs : List Int} (h : 16 < zs.length) : codeV zs = 5 := by unfold codeV; rw [if_pos (.inr (.inl h))]
theorem codeV_bad {zs : List Int} (h : badS zs = true) : codeV zs = 5 := by unfold codeV; rw [if_pos (.inr (.inr h))]
theorem codeV_many {zs : List Int} (h1 : 2 ≤ zs.length) (h2 : zs.length ≤ 16) (h : OkS zs) (hc : 1048576 < cnt zs) : codeV zs = 4 := by
  unfold codeV
  rw [if_neg (by rw [badS_no h]; simp; omega), if_pos hc]
theorem codeV_ok {zs : List Int} (h : Right zs) : codeV zs = 0 := by
  unfold codeV
  rw [if_neg (by rw [badS_no h.2.2.1]; have := h.1; have := h.2.1; simp; omega), if_neg (by have := h.2.2.2; omega)]
theorem codeV_zero {zs : List Int} (h : codeV zs = 0) : Right zs := by
  unfold codeV at h
  split at h
  · cases h
  · rename_i h1
    split at h
    · cases h
    · rename_i h2
      refine ⟨by omega, by omega, badS_false ?_, by omega⟩
      cases hb : badS zs with
      | false => rfl
      | true => exact absurd (.inr (.inr hb)) h1
theorem codeV_cases (zs : List Int) : codeV zs = 5 ∨ codeV zs = 4 ∨ codeV zs = 0 := by
  unfold codeV
  split
  · exact .inl rfl
  · split
    · exact .inr (.inl rfl)
    · exact .inr (.inr rfl)

theorem wgt_in {zs : List Int} {k : Nat} (h : OkS zs) (hk : k < lnk zs) : 1 ≤ wgt zs k ∧ wgt zs k ≤ 1099511627776 := by
  unfold lnk at hk
  have a := h k (by omega)
  have b := h (k + 1) (by omega)
  unfold wgt
  have h1 := Int.mul_le_mul a.1 b.1 (by omega) (by omega)
  have h2 := Int.mul_le_mul a.2 b.2 (by omega) (by omega)
  omega
theorem size_in {zs : List Int} {k : Nat} (h : OkS zs) (hk : k ≤ lnk zs) (hn : 0 < zs.length) : 1 ≤ el zs k ∧ el zs k ≤ 1048576 := h k (by unfold lnk at hk; omega)
theorem next_in {zs : List Int} {k : Nat} (h : OkS zs) (hk : k < lnk zs) : 1 ≤ el zs (k + 1) ∧ el zs (k + 1) ≤ 1048576 := h (k + 1) (by unfold lnk at hk; omega)
theorem this_in {zs : List Int} {k : Nat} (h : OkS zs) (hk : k < lnk zs) : 1 ≤ el zs k ∧ el zs k ≤ 1048576 := h k (by unfold lnk at hk; omega)
theorem cntN_in {zs : List Int} (h : OkS zs) : ∀ {k : Nat}, k ≤ lnk zs → 0 ≤ cntN zs k ∧ cntN zs k ≤ k * 1099512676352
  | 0, _ => by simp [cntN]
  | k + 1, hk => by
    have ih := cntN_in h (k := k) (by omega)
    have a := wgt_in h (k := k) (by omega)
    have b := next_in h (k := k) (by omega)
    simp only [cntN]
    push_cast
    omega
theorem cntN_mono {zs : List Int} (h : OkS zs) {j : Nat} : ∀ {k : Nat}, j ≤ k → k ≤ lnk zs → cntN zs j ≤ cntN zs k
  | 0, hj, _ => by obtain rfl : j = 0 := by omega
                   exact Int.le_refl _
  | k + 1, hj, hk => by
    by_cases e : j = k + 1
    · rw [e]; exact Int.le_refl _
    · have ih := cntN_mono h (j := j) (k := k) (by omega) (by omega)
      have a := wgt_in h (k := k) (by omega)
      have b := next_in h (k := k) (by omega)
      simp only [cntN]
      omega
theorem cntN_room {zs : List Int} (h : Right zs) {k : Nat} (hk : k < lnk zs) : cntN zs k + (wgt zs k + el zs (k + 1)) ≤ 1048576 := by
  have := cntN_mono h.2.2.1 (j := k + 1) (k := lnk zs) (by omega) (Nat.le_refl _)
  have h4 := h.2.2.2
  simp only [cntN] at this
  unfold cnt at h4
  omega
theorem cnt_over {zs : List Int} (h : OkS zs) {k : Nat} (hk : k < lnk zs) (hc : 1048576 < cntN zs k + (wgt zs k + el zs (k + 1))) : 1048576 < cnt zs := by
  have := cntN_mono h (j := k + 1) (k := lnk zs) (by omega) (Nat.le_refl _)
  simp only [cntN] at this
  unfold cnt
  omega

/-- The ranges of a link; those of the first m links. -/
def rangeW (zs : List Int) (k : Nat) : Rg := (cntN zs k, cntN zs k + wgt zs k)
def rangeB (zs : List Int) (k : Nat) : Rg := (cntN zs k + wgt zs k, cntN zs k + (wgt zs k + el zs (k + 1)))
def wts (zs : List Int) (m : Nat) : List Rg := (List.range m).map (rangeW zs)
def bss (zs : List Int) (m : Nat) : List Rg := (List.range m).map (rangeB zs)
theorem wts_len (zs : List Int) (m : Nat) : (wts zs m).length = m := by simp [wts]
theorem bss_len (zs : List Int) (m : Nat) : (bss zs m).length = m := by simp [bss]
theorem wts_at {zs : List Int} {m k : Nat} (h : k < m) : rg (wts zs m) k = rangeW zs k := by simp [wts, rg, h]
theorem bss_at {zs : List Int} {m k : Nat} (h : k < m) : rg (bss zs m) k = rangeB zs k := by simp [bss, rg, h]
theorem wts_succ (zs : List Int) (m : Nat) : wts zs (m + 1) = wts zs m ++ [rangeW zs m] := by simp [wts, List.range_succ]
theorem bss_succ (zs : List Int) (m : Nat) : bss zs (m + 1) = bss zs m ++ [rangeB zs m] := by simp [bss, List.range_succ]

/-- The parameter i is the weight in row r and column c of the link k, or the bias in row r (c is -1 then). -/
def At (zs : List Int) (i : Int) (k r : Nat) (c : Int) : Prop :=
  k < lnk zs ∧ (r : Int) < el zs (k + 1) ∧ ((0 ≤ c ∧ c < el zs k ∧ i = cntN zs k + (r * el zs k + c)) ∨ (c = -1 ∧ i = cntN zs k + wgt zs k + r))
theorem row_in {zs : List Int} {k r : Nat} {c : Int} (h : OkS zs) (hk : k < lnk zs) (hr : (r : Int) < el zs (k + 1)) (h0 : 0 ≤ c) (h1 : c < el zs k) : 0 ≤ r * el zs k + c ∧ r * el zs k + c < wgt zs k := by
  have a := this_in h hk
  have h2 : 0 ≤ (r : Int) * el zs k := Int.mul_nonneg (by omega) (by omega)
  have h3 : ((r : Int) + 1) * el zs k ≤ el zs (k + 1) * el zs k := Int.mul_le_mul_of_nonneg_right (by omega) (by omega)
  unfold wgt
  rw [Int.mul_comm (el zs k)]
  rw [Int.add_mul, Int.one_mul] at h3
  omega
theorem At.inside {zs : List Int} {i c : Int} {k r : Nat} (h : OkS zs) (ha : At zs i k r c) : cntN zs k ≤ i ∧ i < cntN zs k + (wgt zs k + el zs (k + 1)) := by
  obtain ⟨hk, hr, ⟨h0, h1, rfl⟩ | ⟨rfl, rfl⟩⟩ := ha
  · have := row_in h hk hr h0 h1
    have := next_in h hk
    omega
  · have := wgt_in h hk
    omega
theorem At.range {zs : List Int} {i c : Int} {k r : Nat} (h : OkS zs) (ha : At zs i k r c) : 0 ≤ i ∧ i < cnt zs := by
  have h1 := ha.inside h
  have h2 := cntN_in h (Nat.le_of_lt ha.1)
  have h3 := cntN_mono h (j := k + 1) (k := lnk zs) ha.1 (Nat.le_refl _)
  simp only [cntN] at h3
  unfold cnt
  omega
theorem link_ex {zs : List Int} {i : Int} (h0 : 0 ≤ i) : ∀ {m : Nat}, i < cntN zs m → ∃ k, k < m ∧ cntN zs k ≤ i ∧ i < cntN zs k + (wgt zs k + el zs (k + 1))
  | 0, h => by simp only [cntN] at h; omega
  | m + 1, h => by
    by_cases e : i < cntN zs m
    · obtain ⟨k, hk, h1, h2⟩ := link_ex h0 e
      exact ⟨k, by omega, h1, h2⟩
    · simp only [cntN] at h
      exact ⟨m, by omega, by omega, h⟩
theorem at_ex {zs : List Int} {i : Int} (h : OkS zs) (h0 : 0 ≤ i) (h1 : i < cnt zs) : ∃ k r c, At zs i k r c := by
  obtain ⟨k, hk, h2, h3⟩ := link_ex h0 h1
  have a := this_in h hk
  by_cases e : i < cntN zs k + wgt zs k
  · have hd : 0 ≤ (i - cntN zs k) / el zs k := Int.ediv_nonneg (by omega) (by omega)
    have hm0 := Int.emod_nonneg (i - cntN zs k) (show el zs k ≠ 0 by omega)
    have hm1 := Int.emod_lt_of_pos (i - cntN zs k) (show 0 < el zs k by omega)
    have hme := Int.mul_ediv_add_emod (i - cntN zs k) (el zs k)
    refine ⟨k, ((i - cntN zs k) / el zs k).toNat, (i - cntN zs k) % el zs k, hk, ?_, .inl ⟨hm0, hm1, ?_⟩⟩
    · rw [Int.toNat_of_nonneg hd]
      refine Int.ediv_lt_of_lt_mul (by omega) ?_
      rw [Int.mul_comm]
      unfold wgt at e
      omega
    · rw [Int.toNat_of_nonneg hd, Int.mul_comm]
      omega
  · exact ⟨k, (i - (cntN zs k + wgt zs k)).toNat, -1, hk, by omega, .inr ⟨rfl, by omega⟩⟩

/-- Where the ranges have a parameter. -/
theorem at_noneW {zs : List Int} {i c : Int} {k r : Nat} (h : OkS zs) (ha : At zs i k r c) : noneV i (wts zs (lnk zs)) k := by
  intro j hj
  have hk := ha.1
  rw [wts_at (by omega)]
  have h1 := ha.inside h
  have h3 := cntN_mono h (j := j + 1) (k := k) hj (Nat.le_of_lt hk)
  have h4 := next_in h (k := j) (by omega)
  simp only [cntN] at h3
  unfold rangeW
  simp only
  omega
theorem at_noneB {zs : List Int} {i c : Int} {k r : Nat} (h : OkS zs) (ha : At zs i k r c) : noneV i (bss zs (lnk zs)) k := by
  intro j hj
  have hk := ha.1
  rw [bss_at (by omega)]
  have h1 := ha.inside h
  have h3 := cntN_mono h (j := j + 1) (k := k) hj (Nat.le_of_lt hk)
  simp only [cntN] at h3
  unfold rangeB
  simp only
  omega
theorem at_ofW {zs : List Int} {i c : Int} {k r : Nat} (h : OkS zs) (ha : At zs i k r c) (h0 : 0 ≤ c) : ofV i (wts zs (lnk zs)) = k := by
  have hn := at_noneW h ha
  obtain ⟨hk, hr, ⟨_, h1, rfl⟩ | ⟨rfl, _⟩⟩ := ha
  · have := row_in h hk hr h0 h1
    refine ofV_here (by rw [wts_len]; exact hk) hn ?_ ?_
    · rw [wts_at hk]; unfold rangeW; simp only; omega
    · rw [wts_at hk]; unfold rangeW; simp only; omega
  · omega
theorem at_noW {zs : List Int} {i : Int} {k r : Nat} (h : OkS zs) (ha : At zs i k r (-1)) : ofV i (wts zs (lnk zs)) = -1 := by
  refine ofV_none fun j hj => ?_
  rw [wts_len] at hj
  rw [wts_at hj]
  obtain ⟨hk, hr, ⟨h0, _⟩ | ⟨_, rfl⟩⟩ := ha
  · omega
  · have h2 := wgt_in h hk
    have h5 := next_in h hk
    rcases Nat.lt_trichotomy j k with hjk | rfl | hjk
    · have h3 := cntN_mono h (j := j + 1) (k := k) hjk (Nat.le_of_lt hk)
      have h4 := next_in h (k := j) hj
      simp only [cntN] at h3
      unfold rangeW
      simp only
      omega
    · unfold rangeW
      simp only
      omega
    · have h3 := cntN_mono h (j := k + 1) (k := j) hjk (Nat.le_of_lt hj)
      simp only [cntN] at h3
      unfold rangeW
      simp only
      omega
theorem at_ofB {zs : List Int} {i : Int} {k r : Nat} (h : OkS zs) (ha : At zs i k r (-1)) : ofV i (bss zs (lnk zs)) = k := by
  have hn := at_noneB h ha
  obtain ⟨hk, hr, ⟨h0, _⟩ | ⟨_, rfl⟩⟩ := ha
  · omega
  · refine ofV_here (by rw [bss_len]; exact hk) hn ?_ ?_
    · rw [bss_at hk]; unfold rangeB; simp only; omega
    · rw [bss_at hk]; unfold rangeB; simp only; omega
theorem out_noW {zs : List Int} {i : Int} (h : OkS zs) (ho : i < 0 ∨ cnt zs ≤ i) : ofV i (wts zs (lnk zs)) = -1 := by
  refine ofV_none fun j hj => ?_
  rw [wts_len] at hj
  rw [wts_at hj]
  have h2 := cntN_in h (Nat.le_of_lt hj)
  have h3 := cntN_mono h (j := j + 1) (k := lnk zs) hj (Nat.le_refl _)
  have h4 := next_in h hj
  simp only [cntN] at h3
  unfold cnt at ho
  unfold rangeW
  simp only
  omega
theorem out_noB {zs : List Int} {i : Int} (h : OkS zs) (ho : i < 0 ∨ cnt zs ≤ i) : ofV i (bss zs (lnk zs)) = -1 := by
  refine ofV_none fun j hj => ?_
  rw [bss_len] at hj
  rw [bss_at hj]
  have h2 := cntN_in h (Nat.le_of_lt hj)
  have h3 := cntN_mono h (j := j + 1) (k := lnk zs) hj (Nat.le_refl _)
  have h4 := wgt_in h hj
  simp only [cntN] at h3
  unfold cnt at ho
  unfold rangeB
  simp only
  omega

/-- What the parameter i belongs to. -/
def plT (zs : List Int) (i : Int) : Int × Int × Int :=
  if 0 ≤ ofV i (wts zs (lnk zs)) then (ofV i (wts zs (lnk zs)), (i - cntN zs (ofV i (wts zs (lnk zs))).toNat) / el zs (ofV i (wts zs (lnk zs))).toNat, (i - cntN zs (ofV i (wts zs (lnk zs))).toNat) % el zs (ofV i (wts zs (lnk zs))).toNat)
  else (ofV i (bss zs (lnk zs)), i - (cntN zs (ofV i (bss zs (lnk zs))).toNat + wgt zs (ofV i (bss zs (lnk zs))).toNat), -1)
theorem row_div {z c : Int} {r : Nat} (h0 : 0 ≤ c) (h1 : c < z) : ((r : Int) * z + c) / z = r ∧ ((r : Int) * z + c) % z = c := by
  rw [Int.add_comm, Int.add_mul_ediv_right _ _ (by omega), Int.add_mul_emod_self_right, Int.ediv_eq_zero_of_lt h0 h1, Int.emod_eq_of_lt h0 h1]
  omega
theorem at_plT {zs : List Int} {i c : Int} {k r : Nat} (h : OkS zs) (ha : At zs i k r c) : plT zs i = ((k : Int), (r : Int), c) := by
  unfold plT
  by_cases h0 : 0 ≤ c
  · rw [at_ofW h ha h0, if_pos (by omega), Int.toNat_natCast]
    obtain ⟨hk, hr, ⟨_, h1, rfl⟩ | ⟨rfl, _⟩⟩ := ha
    · rw [show cntN zs k + ((r : Int) * el zs k + c) - cntN zs k = (r : Int) * el zs k + c by omega, (row_div h0 h1).1, (row_div h0 h1).2]
    · omega
  · obtain rfl : c = -1 := by
      obtain ⟨_, _, ⟨h1, _⟩ | ⟨h1, _⟩⟩ := ha
      · omega
      · exact h1
    rw [at_noW h ha, at_ofB h ha, if_neg (by omega), Int.toNat_natCast]
    obtain ⟨hk, hr, ⟨h1, _⟩ | ⟨_, rfl⟩⟩ := ha
    · omega
    · rw [show cntN zs k + wgt zs k + (r : Int) - (cntN zs k + wgt zs k) = r by omega]
theorem at_uniq {zs : List Int} {i c c' : Int} {k r k' r' : Nat} (h : OkS zs) (ha : At zs i k r c) (hb : At zs i k' r' c') : k = k' ∧ r = r' ∧ c = c' := by
  have h1 := (at_plT h ha).symm.trans (at_plT h hb)
  simp only [Prod.mk.injEq] at h1
  omega
theorem at_same {zs : List Int} {i i' c : Int} {k r : Nat} (ha : At zs i k r c) (hb : At zs i' k r c) : i = i' := by
  obtain ⟨_, _, ⟨h0, _, rfl⟩ | ⟨h0, rfl⟩⟩ := ha <;> obtain ⟨_, _, ⟨h1, _, rfl⟩ | ⟨h1, rfl⟩⟩ := hb <;> omega
theorem at_low {zs : List Int} {i c : Int} {k r : Nat} (ha : At zs i k r c) : -1 ≤ c := by
  obtain ⟨_, _, ⟨h0, _⟩ | ⟨h0, _⟩⟩ := ha <;> omega
end Go.Proofs.Ythcahpgandappaa
