/- Package sampler, plain facts: how many epochs are begun, the orders, the batches, the parts of a list in an even division. -/
import Derived.Test.YtdcpankbolfmiaaTg
import Derived.Test.YtdcpankbolfmiaaPm
namespace Go.Proofs.Ytdcpankbolfmiaa

/-- How many epochs of ea steps are begun. -/
def epoN (st ea : Nat) : Nat := if st = 0 then 0 else cntV st ea
theorem epoN_iff {st ea i : Nat} (he : 0 < ea) : i < epoN st ea ↔ i * ea < st := by
  unfold epoN
  by_cases h : st = 0
  · rw [if_pos h]; omega
  · rw [if_neg h]; exact cntV_iff (by omega) he
theorem epoN_le (st ea : Nat) : epoN st ea ≤ st := by
  unfold epoN
  by_cases h : st = 0
  · rw [if_pos h]; omega
  · rw [if_neg h]; exact cntV_le (by omega)
theorem epoN_of {st ea t : Nat} (he : 0 < ea) (h : t < st) : t / ea < epoN st ea :=
  (epoN_iff he).2 (Nat.lt_of_le_of_lt (Nat.div_mul_le_self t ea) h)

/-- The order of an epoch. -/
def ordE (n : Nat) (zs : List Int) (e : Nat) : List Int := shufK n (drawsB zs (e * (n - 1)) n) (n - 1)
theorem ordE_len (n : Nat) (zs : List Int) (e : Nat) : (ordE n zs e).length = n := shufK_len _ _ _
def ordL (n : Nat) (zs : List Int) (E : Nat) : List (List Int) := (List.range E).map (ordE n zs)
theorem ordL_len (n : Nat) (zs : List Int) (E : Nat) : (ordL n zs E).length = E := by simp [ordL]
theorem ordL_snoc (n : Nat) (zs : List Int) (E : Nat) : ordL n zs (E + 1) = ordL n zs E ++ [ordE n zs E] := by unfold ordL; rw [List.range_succ, List.map_append]; rfl
theorem ordL_get {n E e : Nat} {zs : List Int} (h : e < E) : (ordL n zs E)[e]? = some (ordE n zs e) := by unfold ordL; simp [h]
/-- The orders when the first e of E are made. -/
def ordK (n : Nat) (zs : List Int) (E e : Nat) : List (List Int) := (List.range E).map fun j => if j < e then ordE n zs j else []
theorem ordK_len (n : Nat) (zs : List Int) (E e : Nat) : (ordK n zs E e).length = E := by simp [ordK]
theorem ordK_zero (n : Nat) (zs : List Int) (E : Nat) : ordK n zs E 0 = List.replicate E [] := by
  unfold ordK
  apply List.ext_getElem?
  intro j
  by_cases h : j < E
  · simp [h]
  · simp [h]
theorem ordK_all (n : Nat) (zs : List Int) (E : Nat) : ordK n zs E E = ordL n zs E := by
  unfold ordK ordL
  exact List.map_congr_left (fun j hj => by rw [if_pos (List.mem_range.1 hj)])
theorem ordK_step (n : Nat) (zs : List Int) (E e : Nat) : (ordK n zs E e).set e (ordE n zs e) = ordK n zs E (e + 1) := by
  apply List.ext_getElem?
  intro j
  unfold ordK
  rw [List.getElem?_set]
  by_cases h : e = j
  · subst h
    by_cases h2 : e < E
    · simp [h2]
    · simp [h2]
  · rw [if_neg h]
    by_cases h2 : j < E
    · simp only [List.getElem?_map, List.getElem?_range h2, Option.map_some]
      by_cases h3 : j < e
      · rw [if_pos h3, if_pos (by omega)]
      · rw [if_neg h3, if_neg (by omega)]
    · simp [h2]

/-- The batch of a step. -/
def batL (n sz st : Nat) (zs : List Int) (t : Int) : List Int :=
  if 0 ≤ t ∧ t < st then ((ordE n zs (t.toNat / (n / sz))).drop (t.toNat % (n / sz) * sz)).take sz else []
theorem batL_no {n sz st : Nat} {zs : List Int} {t : Int} (h : t < 0 ∨ st ≤ t) : batL n sz st zs t = [] := if_neg (by omega)
theorem batL_yes {n sz st t : Nat} {zs : List Int} (h : t < st) : batL n sz st zs t = ((ordE n zs (t / (n / sz))).drop (t % (n / sz) * sz)).take sz := by
  unfold batL
  rw [if_pos ⟨by omega, by omega⟩, Int.toNat_natCast]
theorem place_le {n sz t : Nat} (h1 : 0 < sz) (h2 : sz ≤ n) : t % (n / sz) * sz + sz ≤ n := by
  have he : 0 < n / sz := Nat.div_pos h2 h1
  have h3 := Nat.mul_le_mul_right sz (show t % (n / sz) + 1 ≤ n / sz from Nat.mod_lt t he)
  have h4 := Nat.div_mul_le_self n sz
  rw [Nat.add_mul, Nat.one_mul] at h3
  omega
theorem batL_len_yes {n sz st t : Nat} {zs : List Int} (h1 : 0 < sz) (h2 : sz ≤ n) (h : t < st) : (batL n sz st zs t).length = sz := by
  rw [batL_yes h, List.length_take, List.length_drop, ordE_len]
  have := place_le (t := t) h1 h2
  omega
theorem batL_le (n sz st : Nat) (zs : List Int) (t : Int) : (batL n sz st zs t).length ≤ n := by
  unfold batL
  split
  · rw [List.length_take, List.length_drop, ordE_len]; omega
  · exact Nat.zero_le _

/-- A part of a list in the even division into k parts. -/
def pieceL (l : List Int) (i : Int) (k : Nat) : List Int :=
  if 0 ≤ i ∧ i < k then (l.drop (stV l.length k i.toNat)).take (stV l.length k (i.toNat + 1) - stV l.length k i.toNat) else []
theorem pieceL_no {l : List Int} {i : Int} {k : Nat} (h : i < 0 ∨ k ≤ i) : pieceL l i k = [] := if_neg (by omega)
theorem pieceL_yes {l : List Int} {i k : Nat} (h : i < k) : pieceL l i k = (l.drop (stV l.length k i)).take (stV l.length k (i + 1) - stV l.length k i) := by
  unfold pieceL
  rw [if_pos ⟨by omega, by omega⟩, Int.toNat_natCast]
theorem stV_in {n k i : Nat} (h : i < k) : stV n k i ≤ stV n k (i + 1) ∧ stV n k (i + 1) ≤ n := ⟨stV_le_succ n k i, stV_le (by omega) (by omega)⟩
theorem pieceL_len {l : List Int} {i k : Nat} (h : i < k) : (pieceL l i k).length = stV l.length k (i + 1) - stV l.length k i := by
  have := stV_in (n := l.length) h
  rw [pieceL_yes h, List.length_take, List.length_drop]
  omega
theorem pieceL_le (l : List Int) (i : Int) (k : Nat) : (pieceL l i k).length ≤ l.length := by
  unfold pieceL
  split
  · rw [List.length_take, List.length_drop]; omega
  · exact Nat.zero_le _
/-- Parts beyond the length are empty. -/
theorem stV_many {n k i : Nat} (h : n < k) : stV n k i = min i n := by
  unfold stV
  rw [Nat.div_eq_of_lt h, Nat.mod_eq_of_lt h, Nat.mul_zero, Nat.zero_add]
theorem stV_same {n i : Nat} (h : 0 < n) : stV n n i = i := by
  unfold stV
  rw [Nat.div_self h, Nat.mod_self]
  omega
theorem pieceL_min (l : List Int) (i : Int) (k : Nat) : pieceL l i (min k l.length) = pieceL l i k := by
  rcases Nat.lt_or_ge l.length k with h | h
  · rw [Nat.min_eq_right (by omega)]
    by_cases h1 : 0 ≤ i ∧ i < k
    · obtain ⟨h0, h2⟩ := h1
      obtain ⟨j, rfl⟩ := Int.eq_ofNat_of_zero_le h0
      have h2 : j < k := by omega
      by_cases h3 : j < l.length
      · rw [pieceL_yes h3, pieceL_yes h2, stV_same (by omega), stV_same (by omega), stV_many h, stV_many h, Nat.min_eq_left (by omega), Nat.min_eq_left (by omega)]
      · rw [pieceL_no (.inr (by omega)), pieceL_yes h2, stV_many h, stV_many h, Nat.min_eq_right (by omega), Nat.min_eq_right (by omega), Nat.sub_self, List.take_zero]
    · rw [pieceL_no (by omega), pieceL_no (by omega)]
  · rw [Nat.min_eq_left h]
/-- The first m parts, from the part -1 on, one after the other. -/
def firstL (l : List Int) (k m : Nat) : List Int := l.take (stV l.length k (min (m - 1) k))
theorem firstL_zero (l : List Int) (k : Nat) : firstL l k 0 = [] := by
  unfold firstL
  rw [Nat.zero_sub, Nat.zero_min, stV_zero, List.take_zero]
theorem firstL_snoc (l : List Int) (k m : Nat) : firstL l k m ++ pieceL l ((m : Int) - 1) k = firstL l k (m + 1) := by
  unfold firstL
  rw [Nat.add_sub_cancel]
  rcases Nat.eq_zero_or_pos m with h | h
  · subst h
    rw [pieceL_no (.inl (by omega)), List.append_nil, Nat.zero_sub]
  · obtain ⟨j, rfl⟩ : ∃ j, m = j + 1 := ⟨m - 1, by omega⟩
    rw [Nat.add_sub_cancel, show (((j + 1 : Nat) : Int) - 1) = (j : Int) by omega]
    by_cases h2 : j < k
    · have h3 := stV_in (n := l.length) h2
      rw [pieceL_yes h2, Nat.min_eq_left (by omega), Nat.min_eq_left (by omega)]
      have h4 := List.take_add (l := l) (i := stV l.length k j) (j := stV l.length k (j + 1) - stV l.length k j)
      rw [show stV l.length k j + (stV l.length k (j + 1) - stV l.length k j) = stV l.length k (j + 1) by omega] at h4
      exact h4.symm
    · rw [pieceL_no (.inr (by omega)), List.append_nil, Nat.min_eq_right (by omega), Nat.min_eq_right (by omega)]
theorem firstL_le (l : List Int) (k m : Nat) : (firstL l k m).length ≤ l.length := by unfold firstL; rw [List.length_take]; omega
theorem firstL_all {l : List Int} {k m : Nat} (hk : 0 < k) (h : k < m) : firstL l k m = l := by
  unfold firstL
  rw [Nat.min_eq_right (by omega), stV_end hk]
  exact List.take_of_length_le (Nat.le_refl _)
theorem firstL_none (l : List Int) (m : Nat) : firstL l 0 m = [] := by
  unfold firstL
  rw [Nat.min_eq_right (by omega), stV_zero, List.take_zero]
end Go.Proofs.Ytdcpankbolfmiaa
