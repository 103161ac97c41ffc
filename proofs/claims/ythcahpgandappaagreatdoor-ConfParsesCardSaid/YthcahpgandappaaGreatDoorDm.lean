/- Decimal digits of numbers and fractions as plain functions on lists of bytes: the text of a fixed-point number, what reads it again, and that it is read again. No program is named here. -/
import Derived.Lib.ItoaNum
import Derived.RowKit
namespace Go.Proofs.YthcahpgandappaaGreatDoor
open Go.Lib Go.RowKit

/-- The character of a digit. -/
def ch (d : Nat) : UInt8 := UInt8.ofNat (48 + d)
/-- The digits of p/M, one by one until nothing is left, k at most. -/
def run (M : Nat) : Nat → Nat → List Nat
  | 0, _ => []
  | k + 1, p => if p = 0 then [] else (p * 10 / M) :: run M k (p * 10 % M)
/-- The number of a list of digits. -/
def valN : List Nat → Nat
  | [] => 0
  | d :: r => d * 10 ^ r.length + valN r
/-- The number of a list of characters, digits. -/
def val : List UInt8 → Nat
  | [] => 0
  | c :: r => (c.toNat - 48) * 10 ^ r.length + val r
def isDig (c : UInt8) : Bool := decide (48 ≤ c.toNat ∧ c.toNat ≤ 57)
def allDig (l : List UInt8) : Bool := l.all isDig
/-- A point and the digits of p/2^q, if it is not 0. -/
def fracL (q p : Nat) : List UInt8 := if p = 0 then [] else 46 :: (run (2 ^ q) q p).map ch
/-- The text of x with q fraction bits. -/
def textL (x : Int) (q : Nat) : List UInt8 := (if x < 0 then [45] else []) ++ (decDigits (x.natAbs / 2 ^ q) ++ fracL q (x.natAbs % 2 ^ q))

theorem ch_toNat {d : Nat} (h : d < 10) : (ch d).toNat = 48 + d := by
  unfold ch; rw [UInt8.toNat_ofNat']; omega
theorem ch_dig {d : Nat} (h : d < 10) : isDig (ch d) = true := by
  unfold isDig; rw [ch_toNat h]; simp; omega
theorem run_zero (M k : Nat) : run M k 0 = [] := by cases k <;> simp [run]
theorem run_len (M : Nat) : ∀ (k p : Nat), (run M k p).length ≤ k
  | 0, _ => by simp [run]
  | k + 1, p => by
    unfold run; split
    · simp
    · have := run_len M k (p * 10 % M); simp; omega
theorem run_lt {M : Nat} (hM : 0 < M) : ∀ (k p : Nat), p < M → ∀ d ∈ run M k p, d < 10
  | 0, _, _, d, hd => by simp [run] at hd
  | k + 1, p, hp, d, hd => by
    unfold run at hd; split at hd
    · simp at hd
    · rcases List.mem_cons.1 hd with rfl | hd
      · rw [Nat.div_lt_iff_lt_mul hM]; omega
      · exact run_lt hM k _ (Nat.mod_lt _ hM) d hd
/-- The digits are exact. -/
theorem run_exact {M : Nat} (hM : 0 < M) : ∀ (k p : Nat), p < M → M ∣ p * 10 ^ k → valN (run M k p) * M = p * 10 ^ (run M k p).length
  | 0, p, hp, hd => by
    have : p = 0 := by
      rw [Nat.pow_zero, Nat.mul_one] at hd
      exact Nat.eq_zero_of_dvd_of_lt hd hp
    subst this; simp [run, valN]
  | k + 1, p, hp, hd => by
    unfold run; split
    · rename_i h; subst h; simp [valN]
    · have hd' : M ∣ p * 10 % M * 10 ^ k := by
        have h1 : M ∣ p * 10 * 10 ^ k := by rw [Nat.pow_succ] at hd; rw [Nat.mul_assoc, Nat.mul_comm 10]; exact hd
        have h2 := Nat.div_add_mod (p * 10) M
        have h3 : p * 10 * 10 ^ k = M * (p * 10 / M * 10 ^ k) + p * 10 % M * 10 ^ k := by
          conv => lhs; rw [← h2]
          rw [Nat.add_mul, Nat.mul_assoc]
        rw [h3] at h1
        exact (Nat.dvd_add_right (Nat.dvd_mul_right _ _)).1 h1
      have ih := run_exact hM k _ (Nat.mod_lt (p * 10) hM) hd'
      simp only [valN, List.length_cons]
      rw [Nat.add_mul, ih, Nat.pow_succ]
      have h2 := Nat.div_add_mod (p * 10) M
      generalize 10 ^ (run M k (p * 10 % M)).length = T at *
      generalize p * 10 / M = a at *
      generalize p * 10 % M = b at *
      calc a * T * M + b * T = (M * a + b) * T := by rw [Nat.add_mul, Nat.mul_comm (a * T), Nat.mul_assoc]
        _ = p * 10 * T := by rw [h2]
        _ = p * (T * 10) := by rw [Nat.mul_assoc, Nat.mul_comm 10]
theorem pow_dvd {q p : Nat} : 2 ^ q ∣ p * 10 ^ q := Nat.dvd_mul_left_of_dvd (by rw [show (10 : Nat) = 2 * 5 by rfl, Nat.mul_pow]; exact Nat.dvd_mul_right _ _) _

/-! ### Values -/
theorem val_append : ∀ (a b : List UInt8), val (a ++ b) = val a * 10 ^ b.length + val b
  | [], b => by simp [val]
  | c :: a, b => by
    simp only [List.cons_append, val, val_append a b, List.length_append, Nat.pow_add]
    rw [Nat.add_mul, ← Nat.mul_assoc, Nat.add_assoc]
theorem val_snoc (a : List UInt8) (c : UInt8) : val (a ++ [c]) = val a * 10 + (c.toNat - 48) := by
  rw [val_append]; simp [val]
theorem val_lt : ∀ (l : List UInt8), allDig l = true → val l < 10 ^ l.length
  | [], _ => by simp [val]
  | c :: r, h => by
    simp only [allDig, List.all_cons, Bool.and_eq_true] at h
    have h1 := val_lt r h.2
    have h2 : c.toNat - 48 ≤ 9 := by have := h.1; simp [isDig] at this; omega
    simp only [val, List.length_cons, Nat.pow_succ]
    have h3 := Nat.mul_le_mul_right (10 ^ r.length) h2
    omega
theorem val_map_ch : ∀ (l : List Nat), (∀ d ∈ l, d < 10) → val (l.map ch) = valN l
  | [], _ => rfl
  | d :: r, h => by
    simp only [List.map_cons, val, valN, List.length_map]
    rw [val_map_ch r (fun x hx => h x (List.mem_cons_of_mem _ hx)), ch_toNat (h d (List.mem_cons_self))]
    congr 2; omega
theorem allDig_map_ch (l : List Nat) (h : ∀ d ∈ l, d < 10) : allDig (l.map ch) = true := by
  unfold allDig; rw [List.all_map, List.all_eq_true]; exact fun d hd => ch_dig (h d hd)
theorem allDig_append (a b : List UInt8) : allDig (a ++ b) = (allDig a && allDig b) := by unfold allDig; rw [List.all_append]
theorem val_zeros (n : Nat) : val (List.replicate n 48) = 0 := by
  induction n with
  | zero => rfl
  | succ n ih => rw [List.replicate_succ]; simp [val, ih]
theorem allDig_zeros (n : Nat) : allDig (List.replicate n 48) = true := by
  unfold allDig; rw [List.all_eq_true]; intro c hc; rw [(List.mem_replicate.1 hc).2]; rfl
theorem dec_snoc {u : Nat} (h : ¬ u < 10) : decDigits u = decDigits (u / 10) ++ [ch (u % 10)] := by rw [decDigits, dif_neg h]; rfl
theorem val_dec (u : Nat) : val (decDigits u) = u := by
  induction u using Nat.strongRecOn with
  | _ u ih =>
    by_cases h : u < 10
    · rw [decDigits_one h]
      simp only [val, List.length_nil, Nat.pow_zero]
      have := ch_toNat h; unfold ch at this; omega
    · rw [dec_snoc h, val_snoc, ih (u / 10) (by omega), ch_toNat (by omega)]; omega
theorem allDig_dec (u : Nat) : allDig (decDigits u) = true := by
  induction u using Nat.strongRecOn with
  | _ u ih =>
    by_cases h : u < 10
    · rw [decDigits_one h]
      show (isDig (ch u) && true) = true
      rw [ch_dig h]; rfl
    · rw [dec_snoc h, allDig_append, ih (u / 10) (by omega)]
      show (true && (isDig (ch (u % 10)) && true)) = true
      rw [ch_dig (by omega)]; rfl
theorem dec_len {u k : Nat} (hk : 1 ≤ k) (h : u < 10 ^ k) : (decDigits u).length ≤ k := by
  rw [decDigits_length]
  induction k generalizing u with
  | zero => omega
  | succ k ih =>
    by_cases h1 : u < 10
    · rw [nDigits_small h1]; omega
    · rw [nDigits_big h1]
      have : 1 ≤ k := by
        cases k with
        | zero => simp at h; omega
        | succ k => omega
      have := ih this (u := u / 10) (by rw [Nat.pow_succ] at h; omega)
      omega
theorem dec_ne (u : Nat) : decDigits u ≠ [] := by
  intro h; have := nDigits_pos u; rw [← decDigits_length, h] at this; simp at this
/-- The first t digits, zeros behind them, are the fraction's, rounded down. -/
theorem run_take {M : Nat} (hM : 0 < M) : ∀ (t k p : Nat), p < M → M ∣ p * 10 ^ k →
    valN ((run M k p).take t) * 10 ^ (t - ((run M k p).take t).length) = p * 10 ^ t / M
  | 0, k, p, hp, _ => by simp [valN, Nat.div_eq_of_lt hp]
  | t + 1, 0, p, hp, hd => by
    have : p = 0 := by
      rw [Nat.pow_zero, Nat.mul_one] at hd
      exact Nat.eq_zero_of_dvd_of_lt hd hp
    subst this; simp [run, valN]
  | t + 1, k + 1, p, hp, hd => by
    unfold run; split
    · rename_i h; subst h; simp [valN]
    · have hd' : M ∣ p * 10 % M * 10 ^ k := by
        have h1 : M ∣ p * 10 * 10 ^ k := by rw [Nat.pow_succ] at hd; rw [Nat.mul_assoc, Nat.mul_comm 10]; exact hd
        have h2 := Nat.div_add_mod (p * 10) M
        have h3 : p * 10 * 10 ^ k = M * (p * 10 / M * 10 ^ k) + p * 10 % M * 10 ^ k := by
          conv => lhs; rw [← h2]
          rw [Nat.add_mul, Nat.mul_assoc]
        rw [h3] at h1
        exact (Nat.dvd_add_right (Nat.dvd_mul_right _ _)).1 h1
      have ih := run_take hM t k _ (Nat.mod_lt (p * 10) hM) hd'
      have hl : ((run M k (p * 10 % M)).take t).length ≤ t := by rw [List.length_take]; omega
      simp only [List.take_succ_cons, valN, List.length_cons]
      rw [show t + 1 - (((run M k (p * 10 % M)).take t).length + 1) = t - ((run M k (p * 10 % M)).take t).length by omega, Nat.add_mul, ih, Nat.mul_assoc, ← Nat.pow_add,
        show ((run M k (p * 10 % M)).take t).length + (t - ((run M k (p * 10 % M)).take t).length) = t by omega]
      have h2 := Nat.div_add_mod (p * 10) M
      have h4 : p * 10 ^ (t + 1) = M * (p * 10 / M * 10 ^ t) + p * 10 % M * 10 ^ t := by
        rw [Nat.pow_succ, Nat.mul_comm (10 ^ t), ← Nat.mul_assoc]
        conv => lhs; rw [← h2]
        rw [Nat.add_mul, Nat.mul_assoc]
      rw [h4, Nat.mul_add_div hM]

/-! ### What the program reads -/
def digitsV (l : List UInt8) : Nat × Bool := if l.length ≤ 19 ∧ allDig l = true then (val l, true) else (0, false)
def padL (t : List UInt8) : List UInt8 := t.take 19 ++ List.replicate (19 - (t.take 19).length) 48
def fractionV (t : List UInt8) (q : Nat) : Nat × Bool :=
  if (digitsV (padL t)).2 = true then (((digitsV (padL t)).1 * 2 ^ q + 9999999999999999999) / 10000000000000000000, true) else (0, false)
def headL (l : List UInt8) : List UInt8 := l.takeWhile (fun c => c != 46)
def tailL (l : List UInt8) : List UInt8 := (l.dropWhile (fun c => c != 46)).drop 1
def negL (l : List UInt8) : Bool := l.head? == some 45
def bodyL (l : List UInt8) : List UInt8 := if negL l = true then l.tail else l
def signed (b : Bool) (n : Nat) : Int := if b = true then wrap64 (-wrap64 n) else wrap64 n
def candV (l : List UInt8) (q : Nat) : Int × Bool :=
  if (digitsV (headL (bodyL l))).2 = false then (0, false)
  else if (fractionV (tailL (bodyL l)) q).2 = false then (0, false)
  else (signed (negL l) ((digitsV (headL (bodyL l))).1 * 2 ^ q + (fractionV (tailL (bodyL l)) q).1), true)

theorem digitsV_yes {l : List UInt8} (h : l.length ≤ 19) (h2 : allDig l = true) : digitsV l = (val l, true) := by unfold digitsV; rw [if_pos ⟨h, h2⟩]
theorem digitsV_no {l : List UInt8} (h : ¬ (l.length ≤ 19 ∧ allDig l = true)) : digitsV l = (0, false) := by unfold digitsV; rw [if_neg h]
theorem dig_ne {c : UInt8} (h : isDig c = true) : c ≠ 46 ∧ c ≠ 45 := by
  constructor <;> (rintro rfl; revert h; decide)
theorem takeWhile_dig : ∀ (a b : List UInt8), allDig a = true → (b = [] ∨ ∃ r, b = 46 :: r) → headL (a ++ b) = a ∧ tailL (a ++ b) = b.drop 1
  | [], b, _, hb => by
    rcases hb with rfl | ⟨r, rfl⟩ <;> simp [headL, tailL]
  | c :: a, b, h, hb => by
    simp only [allDig, List.all_cons, Bool.and_eq_true] at h
    have h1 := (dig_ne h.1).1
    have ih := takeWhile_dig a b h.2 hb
    unfold headL tailL at *
    simp only [List.cons_append, List.takeWhile_cons, List.dropWhile_cons, bne_iff_ne, ne_eq, h1, not_false_eq_true, if_true]
    exact ⟨by rw [ih.1], ih.2⟩
theorem dec_head (u : Nat) (b : List UInt8) : negL (decDigits u ++ b) = false := by
  have h1 := dec_ne u
  have h2 := allDig_dec u
  cases h : decDigits u with
  | nil => exact absurd h h1
  | cons c r =>
    rw [h] at h2
    simp only [allDig, List.all_cons, Bool.and_eq_true] at h2
    have := (dig_ne h2.1).2
    simp [negL, this]
theorem text_neg (x : Int) (q : Nat) : negL (textL x q) = decide (x < 0) := by
  unfold textL
  by_cases h : x < 0
  · simp [h, negL]
  · rw [if_neg h, List.nil_append, dec_head]; simp [h]
theorem text_body (x : Int) (q : Nat) : bodyL (textL x q) = decDigits (x.natAbs / 2 ^ q) ++ fracL q (x.natAbs % 2 ^ q) := by
  unfold bodyL
  rw [text_neg]
  by_cases h : x < 0
  · simp [h, textL]
  · simp [h, textL]
theorem frac_form (q p : Nat) : fracL q p = [] ∨ ∃ r, fracL q p = 46 :: r := by
  unfold fracL; split
  · exact Or.inl rfl
  · exact Or.inr ⟨_, rfl⟩
theorem frac_drop (q p : Nat) : (fracL q p).drop 1 = (run (2 ^ q) q p).map ch := by
  unfold fracL; split
  · rename_i h; subst h; simp [run_zero]
  · simp
theorem text_head (x : Int) (q : Nat) : headL (bodyL (textL x q)) = decDigits (x.natAbs / 2 ^ q) := by
  rw [text_body]; exact (takeWhile_dig _ _ (allDig_dec _) (frac_form _ _)).1
theorem text_tail (x : Int) (q : Nat) : tailL (bodyL (textL x q)) = (run (2 ^ q) q (x.natAbs % 2 ^ q)).map ch := by
  rw [text_body, (takeWhile_dig _ _ (allDig_dec _) (frac_form _ _)).2, frac_drop]
theorem two_pos (q : Nat) : 0 < 2 ^ q := Nat.pow_pos (by omega)
theorem two_le {q : Nat} (h : q ≤ 62) : 2 ^ q ≤ 4611686018427387904 := by
  have := Nat.pow_le_pow_right (show 0 < 2 by omega) h
  simpa using this
theorem pad_len (t : List UInt8) : (padL t).length = 19 := by
  unfold padL; rw [List.length_append, List.length_replicate, List.length_take]; omega
theorem fraction_text {q p : Nat} (hq : q ≤ 62) (hp : p < 2 ^ q) : fractionV ((run (2 ^ q) q p).map ch) q = (p, true) := by
  have hlt := run_lt (two_pos q) q p hp
  have hlt' : ∀ d ∈ (run (2 ^ q) q p).take 19, d < 10 := fun d hd => hlt d (List.mem_of_mem_take hd)
  have hd : allDig (padL ((run (2 ^ q) q p).map ch)) = true := by
    unfold padL
    rw [allDig_append, allDig_zeros, ← List.map_take, allDig_map_ch _ hlt']; rfl
  have hv : val (padL ((run (2 ^ q) q p).map ch)) = p * 10 ^ 19 / 2 ^ q := by
    unfold padL
    rw [val_append, val_zeros, ← List.map_take, val_map_ch _ hlt', List.length_replicate, List.length_map, Nat.add_zero]
    exact run_take (two_pos q) 19 q p hp pow_dvd
  have hD := digitsV_yes (Nat.le_of_eq (pad_len _)) hd
  unfold fractionV
  rw [hD, hv]
  simp only [if_true]
  have h1 := Nat.div_add_mod (p * 10 ^ 19) (2 ^ q)
  have h2 := Nat.mod_lt (p * 10 ^ 19) (two_pos q)
  have h3 := two_le hq
  rw [Nat.mul_comm] at h1
  generalize p * 10 ^ 19 / 2 ^ q * 2 ^ q = z at *
  congr 1
  omega
theorem abs_le {x : Int} (h0 : -9223372036854775808 ≤ x) (h1 : x ≤ 9223372036854775807) : x.natAbs ≤ 9223372036854775808 := by omega
theorem signed_abs {x : Int} (h0 : -9223372036854775808 ≤ x) (h1 : x ≤ 9223372036854775807) : signed (decide (x < 0)) x.natAbs = x := by
  unfold signed wrap64
  by_cases h : x < 0
  · simp only [h, decide_true, if_true]; omega
  · simp only [h, decide_false]; simp; omega
theorem signed_range (b : Bool) (n : Nat) : -9223372036854775808 ≤ signed b n ∧ signed b n ≤ 9223372036854775807 := by
  unfold signed wrap64; split <;> omega
/-- A text is read again. -/
theorem cand_text {x : Int} {q : Nat} (hq : q ≤ 62) (h0 : -9223372036854775808 ≤ x) (h1 : x ≤ 9223372036854775807) : candV (textL x q) q = (x, true) := by
  have ha := abs_le h0 h1
  have hh : digitsV (decDigits (x.natAbs / 2 ^ q)) = (x.natAbs / 2 ^ q, true) := by
    have hle : x.natAbs / 2 ^ q ≤ x.natAbs := Nat.div_le_self _ _
    rw [digitsV_yes (dec_len (by omega) (by omega)) (allDig_dec _), val_dec]
  have hf := fraction_text hq (Nat.mod_lt x.natAbs (two_pos q))
  unfold candV
  rw [text_head, text_tail, text_neg, hh, hf]
  simp only [Bool.true_eq_false, if_false]
  rw [Nat.mul_comm, Nat.div_add_mod, signed_abs h0 h1]
theorem text_inj {x y : Int} {q : Nat} (hq : q ≤ 62) (h0 : -9223372036854775808 ≤ x) (h1 : x ≤ 9223372036854775807) (k0 : -9223372036854775808 ≤ y) (k1 : y ≤ 9223372036854775807) (h : textL x q = textL y q) : x = y := by
  have a := cand_text hq h0 h1
  have b := cand_text hq k0 k1
  rw [h, b] at a
  exact (Prod.mk.inj a).1.symm
theorem cand_range (l : List UInt8) (q : Nat) : -9223372036854775808 ≤ (candV l q).1 ∧ (candV l q).1 ≤ 9223372036854775807 := by
  unfold candV; split
  · simp
  · split
    · simp
    · exact signed_range _ _
/-- What Parse returns. -/
def parseV (l : List UInt8) (q : Nat) : Int × Bool := if (candV l q).2 = true ∧ textL (candV l q).1 q = l then ((candV l q).1, true) else (0, false)
theorem parse_text {x : Int} {q : Nat} (hq : q ≤ 62) (h0 : -9223372036854775808 ≤ x) (h1 : x ≤ 9223372036854775807) : parseV (textL x q) q = (x, true) := by
  unfold parseV; rw [cand_text hq h0 h1]; simp
theorem parse_none {l : List UInt8} {q : Nat} (h : ∀ x : Int, -9223372036854775808 ≤ x → x ≤ 9223372036854775807 → textL x q ≠ l) : parseV l q = (0, false) := by
  unfold parseV; rw [if_neg]; rintro ⟨_, h2⟩
  exact h _ (cand_range l q).1 (cand_range l q).2 h2
theorem parse_ok {l : List UInt8} {q : Nat} (h : (parseV l q).2 = true) : textL (parseV l q).1 q = l := by
  unfold parseV at *; split at h
  · rename_i h2; rw [if_pos h2]; exact h2.2
  · cases h
theorem parse_range (l : List UInt8) (q : Nat) : -9223372036854775808 ≤ (parseV l q).1 ∧ (parseV l q).1 ≤ 9223372036854775807 := by
  unfold parseV; split
  · exact cand_range l q
  · simp
theorem text_len {x : Int} {q : Nat} (hq : q ≤ 62) (h0 : -9223372036854775808 ≤ x) (h1 : x ≤ 9223372036854775807) : (textL x q).length ≤ 83 := by
  have ha := abs_le h0 h1
  have hle : x.natAbs / 2 ^ q ≤ x.natAbs := Nat.div_le_self _ _
  have h2 := dec_len (u := x.natAbs / 2 ^ q) (k := 19) (by omega) (by omega)
  have h3 : (fracL q (x.natAbs % 2 ^ q)).length ≤ 63 := by
    unfold fracL; split
    · simp
    · have := run_len (2 ^ q) q (x.natAbs % 2 ^ q); simp; omega
  unfold textL
  rw [List.length_append, List.length_append]
  have : (if x < 0 then ([45] : List UInt8) else []).length ≤ 1 := by split <;> simp
  omega
end Go.Proofs.YthcahpgandappaaGreatDoor
