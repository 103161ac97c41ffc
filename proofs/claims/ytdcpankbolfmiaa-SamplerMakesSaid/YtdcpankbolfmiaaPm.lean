/- Plain mathematics of divisions of indices: the even division, the blocks. No condition. -/
import Derived.Test.YtdcpankbolfmiaaPa
import Derived.Test.YtdcpankbolfmiaaVa
namespace Go.Proofs.Ytdcpankbolfmiaa

/-- Where range i of the even division of n into k begins. -/
def stV (n k i : Nat) : Nat := i * (n / k) + min i (n % k)
theorem stV_zero (n k : Nat) : stV n k 0 = 0 := by simp [stV]
theorem stV_succ_lt {n k i : Nat} (h : i < n % k) : stV n k (i + 1) = stV n k i + (n / k + 1) := by
  simp only [stV, Nat.succ_mul]; generalize n / k = q; omega
theorem stV_succ_ge {n k i : Nat} (h : ¬ i < n % k) : stV n k (i + 1) = stV n k i + n / k := by
  simp only [stV, Nat.succ_mul]; generalize n / k = q; omega
theorem stV_le_succ (n k i : Nat) : stV n k i ≤ stV n k (i + 1) := by
  by_cases h : i < n % k
  · rw [stV_succ_lt h]; exact Nat.le_add_right _ _
  · rw [stV_succ_ge h]; exact Nat.le_add_right _ _
theorem stV_mono (n k i : Nat) : ∀ m, stV n k i ≤ stV n k (i + m)
  | 0 => Nat.le_refl _
  | m + 1 => Nat.le_trans (stV_mono n k i m) (stV_le_succ n k (i + m))
theorem stV_end {n k : Nat} (h : 0 < k) : stV n k k = n := by
  have := Nat.div_add_mod n k
  have h2 := Nat.mod_lt n h
  simp only [stV]
  rw [Nat.min_eq_right (by omega)]
  exact this
theorem stV_le {n k i : Nat} (h : i ≤ k) (hk : 0 < k) : stV n k i ≤ n := by
  have := stV_mono n k i (k - i)
  rw [show i + (k - i) = k from by omega, stV_end hk] at this
  exact this
/-- The even division of n into k ranges. -/
def evenV (n k : Nat) : List Rg := (List.range k).map fun i => ((stV n k i : Int), (stV n k (i + 1) : Int))
theorem evenV_len (n k : Nat) : (evenV n k).length = k := by simp [evenV]
theorem evenV_at {n k i : Nat} (h : i < k) : rg (evenV n k) i = ((stV n k i : Int), (stV n k (i + 1) : Int)) := by
  simp [rg, evenV, h]

/-- The first i of them laid into k empty ones. -/
def fillP (n k : Nat) : Nat → List Rg
  | 0 => List.replicate k (0, 0)
  | i + 1 => (fillP n k i).set i ((stV n k i : Int), (stV n k (i + 1) : Int))
theorem fillP_len (n k i : Nat) : (fillP n k i).length = k := by
  induction i with
  | zero => simp [fillP]
  | succ i ih => simp [fillP, ih]
theorem fillP_at {n k j : Nat} : ∀ {i : Nat}, i ≤ k → j < i → rg (fillP n k i) j = ((stV n k j : Int), (stV n k (j + 1) : Int)) := by
  intro i
  induction i with
  | zero => intro _ h; omega
  | succ i ih =>
    intro hi hj
    simp only [fillP]
    by_cases e : i = j
    · subst e; exact rg_set_same _ (by rw [fillP_len]; omega)
    · rw [rg_set_other _ e]; exact ih (by omega) (by omega)
theorem fillP_end (n k : Nat) : fillP n k k = evenV n k := by
  apply rg_ext
  · rw [fillP_len, evenV_len]
  · intro j hj
    rw [fillP_len] at hj
    rw [fillP_at (Nat.le_refl _) hj, evenV_at hj]

/-- The sizes after i indices are dealt out. -/
def szK (k : Nat) : Nat → List Int
  | 0 => List.replicate k 0
  | i + 1 => (szK k i).set (i % k) (el (szK k i) (i % k) + 1)
theorem szK_len (k i : Nat) : (szK k i).length = k := by
  induction i with
  | zero => simp [szK]
  | succ i ih => simp [szK, ih]
theorem div_mod_succ {i k : Nat} (hk : 0 < k) : (i % k + 1 = k ∧ (i + 1) / k = i / k + 1 ∧ (i + 1) % k = 0) ∨ (i % k + 1 < k ∧ (i + 1) / k = i / k ∧ (i + 1) % k = i % k + 1) := by
  have h1 := Nat.div_add_mod i k
  have h2 := Nat.mod_lt i hk
  rcases Nat.lt_or_ge (i % k + 1) k with h | h
  · refine .inr ⟨h, ?_⟩
    have e : i + 1 = (i % k + 1) + k * (i / k) := by omega
    constructor
    · rw [e, Nat.add_mul_div_left _ _ hk, Nat.div_eq_of_lt h, Nat.zero_add]
    · rw [e, Nat.add_mul_mod_self_left, Nat.mod_eq_of_lt h]
  · have h3 : i % k + 1 = k := by omega
    refine .inl ⟨h3, ?_⟩
    have e : i + 1 = 0 + k * (i / k + 1) := by rw [Nat.mul_add]; omega
    constructor
    · rw [e, Nat.add_mul_div_left _ _ hk]; simp
    · rw [e, Nat.add_mul_mod_self_left]; simp
theorem szK_at {k j : Nat} (hk : 0 < k) (hj : j < k) : ∀ i, el (szK k i) j = (i / k : Nat) + (if j < i % k then 1 else 0) := by
  intro i
  induction i with
  | zero => simp [szK, el, hj]
  | succ i ih =>
    have hm := Nat.mod_lt i hk
    simp only [szK]
    by_cases e : i % k = j
    · rw [e, el_set_same _ (by rw [szK_len]; exact hj), ih]
      rcases div_mod_succ (i := i) hk with ⟨h1, h2, h3⟩ | ⟨h1, h2, h3⟩
      · rw [h2, h3, if_neg (by omega), if_neg (by omega)]; omega
      · rw [h2, h3, if_neg (by omega), if_pos (by omega)]; omega
    · rw [el_set_other _ e, ih]
      rcases div_mod_succ (i := i) hk with ⟨h1, h2, h3⟩ | ⟨h1, h2, h3⟩
      · rw [h2, h3, if_pos (by omega), if_neg (by omega)]; omega
      · rw [h2, h3]
        by_cases hjm : j < i % k
        · rw [if_pos hjm, if_pos (by omega)]
        · rw [if_neg hjm, if_neg (by omega)]
theorem szK_step {n k j : Nat} (hk : 0 < k) (hj : j < k) : (stV n k (j + 1) : Int) = stV n k j + el (szK k n) j := by
  rw [szK_at hk hj]
  by_cases h : j < n % k
  · rw [if_pos h, stV_succ_lt h]; omega
  · rw [if_neg h, stV_succ_ge h]; omega
theorem szK_small {k j i : Nat} (hk : 0 < k) (hj : j < k) : 0 ≤ el (szK k i) j ∧ el (szK k i) j ≤ i + 1 := by
  rw [szK_at hk hj]
  have := Nat.div_le_self i k
  generalize i / k = q at *
  split <;> omega

/-- How many blocks of a size n indices make. -/
def cntV (n s : Nat) : Nat := (n - 1) / s + 1
theorem cntV_iff {n s i : Nat} (hn : 0 < n) (hs : 0 < s) : i < cntV n s ↔ i * s < n := by
  unfold cntV
  have := Nat.le_div_iff_mul_le (x := i) (y := n - 1) hs
  omega
theorem cntV_le {n s : Nat} (hn : 0 < n) : cntV n s ≤ n := by
  unfold cntV
  have := Nat.div_le_self (n - 1) s
  omega
/-- The blocks. -/
def blkV (n s : Nat) : List Rg := (List.range (cntV n s)).map fun i => (((i * s : Nat) : Int), ((min n ((i + 1) * s) : Nat) : Int))
theorem blkV_len (n s : Nat) : (blkV n s).length = cntV n s := by simp [blkV]
theorem blkV_at {n s i : Nat} (h : i < cntV n s) : rg (blkV n s) i = (((i * s : Nat) : Int), ((min n ((i + 1) * s) : Nat) : Int)) := by
  simp [rg, blkV, h]
/-- The first i blocks laid into empty ranges. -/
def blkK (n s : Nat) : Nat → List Rg
  | 0 => List.replicate (cntV n s) (0, 0)
  | i + 1 => (blkK n s i).set i (((i * s : Nat) : Int), ((min n ((i + 1) * s) : Nat) : Int))
theorem blkK_len (n s i : Nat) : (blkK n s i).length = cntV n s := by
  induction i with
  | zero => simp [blkK]
  | succ i ih => simp [blkK, ih]
theorem blkK_at {n s j : Nat} : ∀ {i : Nat}, i ≤ cntV n s → j < i → rg (blkK n s i) j = (((j * s : Nat) : Int), ((min n ((j + 1) * s) : Nat) : Int)) := by
  intro i
  induction i with
  | zero => intro _ h; omega
  | succ i ih =>
    intro hi hj
    simp only [blkK]
    by_cases e : i = j
    · subst e; exact rg_set_same _ (by rw [blkK_len]; omega)
    · rw [rg_set_other _ e]; exact ih (by omega) (by omega)
theorem blkK_end (n s : Nat) : blkK n s (cntV n s) = blkV n s := by
  apply rg_ext
  · rw [blkK_len, blkV_len]
  · intro j hj
    rw [blkK_len] at hj
    rw [blkK_at (Nat.le_refl _) hj, blkV_at hj]

theorem rcells_zero (n : Nat) : (madeCells #[.int .i64 0, .int .i64 0] (n * 2)).toList = rcells (List.replicate n (0, 0)) := by
  have h1 : rcells (List.replicate n (0, 0)) = List.replicate (n * 2) (.int .i64 0) := by
    induction n with
    | zero => rfl
    | succ n ih =>
      rw [show (n + 1) * 2 = n * 2 + 1 + 1 from by omega, List.replicate_succ, List.replicate_succ, List.replicate_succ, ← ih]
      rfl
  rw [h1]
  apply List.ext_getElem?
  intro j
  by_cases hj : j < n * 2
  · rcases Nat.mod_two_eq_zero_or_one j with h | h <;> simp [madeCells, hj, h]
  · simp [madeCells, hj]
/-- The even division covers n, and so do the blocks. -/
theorem evenV_covers {n k : Nat} (hk : 0 < k) : coversV n (evenV n k) = true := by
  have he : ∀ j, j ≤ k → endV (evenV n k) j = stV n k j := by
    intro j hj
    cases j with
    | zero => simp [endV, stV_zero]
    | succ j => simp only [endV]; rw [evenV_at (by omega)]
  unfold coversV
  rw [evenV_len, chainB_all (fun j hj => ?_), he k (Nat.le_refl _), stV_end hk]
  · simp
  · unfold stepB
    rw [he j (by omega), evenV_at hj]
    have := stV_le_succ n k j
    simp; omega
theorem blkV_covers {n s : Nat} (hn : 0 < n) (hs : 0 < s) : coversV n (blkV n s) = true := by
  have he : ∀ j, j ≤ cntV n s → endV (blkV n s) j = ((min n (j * s) : Nat) : Int) := by
    intro j hj
    cases j with
    | zero => simp [endV]
    | succ j => simp only [endV]; rw [blkV_at (by omega)]
  unfold coversV
  have hend : n ≤ cntV n s * s := by
    have := (cntV_iff (i := cntV n s) hn hs)
    omega
  rw [blkV_len, chainB_all (fun j hj => ?_), he _ (Nat.le_refl _), Nat.min_eq_left hend]
  · simp
  · unfold stepB
    have h1 := (cntV_iff hn hs).1 hj
    have h2 : (j + 1) * s = j * s + s := Nat.succ_mul j s
    rw [he j (by omega), blkV_at hj, h2]
    generalize j * s = x at *
    simp; omega
end Go.Proofs.Ytdcpankbolfmiaa
