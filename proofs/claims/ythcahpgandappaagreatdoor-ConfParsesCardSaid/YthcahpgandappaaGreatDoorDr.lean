/- What the reference reads and writes, as plain functions on lists of bytes: digits that are halved and doubled; and that it reads and writes the same as the program. No program is named here. -/
import Derived.Test.YthcahpgandappaaGreatDoorDm
namespace Go.Proofs.YthcahpgandappaaGreatDoor
open Go.Lib Go.RowKit

/-! ### Halves -/
/-- Half of some digits, with a carry ahead of them; a 5 behind them if a 1 is left. -/
def hv : Nat → List Nat → List Nat
  | c, [] => if 0 < c then [5] else []
  | c, d :: r => (10 * c + d) / 2 :: hv ((10 * c + d) % 2) r
theorem hv_run {M : Nat} (hM : 0 < M) : ∀ (k p b : Nat), p < M → b < 2 → M ∣ p * 10 ^ k → hv b (run M k p) = run (2 * M) (k + 1) (b * M + p)
  | k, 0, b, _, hb, _ => by
    rw [run_zero]
    rcases (show b = 0 ∨ b = 1 by omega) with rfl | rfl
    · simp [hv, run]
    · have e1 : M * 10 / (2 * M) = 5 := by rw [show M * 10 = 5 * (2 * M) by omega]; exact Nat.mul_div_cancel _ (by omega)
      have e2 : M * 10 % (2 * M) = 0 := by rw [show M * 10 = 5 * (2 * M) by omega]; exact Nat.mul_mod_left _ _
      have hM' : ¬ (1 * M + 0 = 0) := by omega
      simp only [hv, run, if_neg hM', Nat.zero_lt_one, if_true]
      rw [show 1 * M + 0 = M by omega, e1, e2, run_zero]
  | 0, p + 1, b, hp, _, hd => by
    rw [Nat.pow_zero, Nat.mul_one] at hd
    exact absurd (Nat.eq_zero_of_dvd_of_lt hd hp) (by omega)
  | k + 1, p + 1, b, hp, hb, hd => by
    have hd' : M ∣ (p + 1) * 10 % M * 10 ^ k := by
      have h1 : M ∣ (p + 1) * 10 * 10 ^ k := by rw [Nat.pow_succ] at hd; rw [Nat.mul_assoc, Nat.mul_comm 10]; exact hd
      have h2 := Nat.div_add_mod ((p + 1) * 10) M
      have h3 : (p + 1) * 10 * 10 ^ k = M * ((p + 1) * 10 / M * 10 ^ k) + (p + 1) * 10 % M * 10 ^ k := by
        conv => lhs; rw [← h2]
        rw [Nat.add_mul, Nat.mul_assoc]
      rw [h3] at h1
      exact (Nat.dvd_add_right (Nat.dvd_mul_right _ _)).1 h1
    have ih := hv_run hM k ((p + 1) * 10 % M) ((10 * b + (p + 1) * 10 / M) % 2) (Nat.mod_lt _ hM) (Nat.mod_lt _ (by omega)) hd'
    have hne : ¬ (b * M + (p + 1) = 0) := by omega
    have hne2 : ¬ (p + 1 = 0) := by omega
    have hdiv : (b * M + (p + 1)) * 10 / M = 10 * b + (p + 1) * 10 / M := by
      rw [show (b * M + (p + 1)) * 10 = M * (10 * b) + (p + 1) * 10 by rw [Nat.add_mul, Nat.mul_comm b, Nat.mul_assoc, Nat.mul_comm b], Nat.mul_add_div hM]
    have hmod : (b * M + (p + 1)) * 10 % M = (p + 1) * 10 % M := by
      rw [show (b * M + (p + 1)) * 10 = M * (10 * b) + (p + 1) * 10 by rw [Nat.add_mul, Nat.mul_comm b, Nat.mul_assoc, Nat.mul_comm b], Nat.mul_add_mod]
    rw [show run M (k + 1) (p + 1) = ((p + 1) * 10 / M) :: run M k ((p + 1) * 10 % M) by simp [run],
      show run (2 * M) (k + 1 + 1) (b * M + (p + 1)) = ((b * M + (p + 1)) * 10 / (2 * M)) :: run (2 * M) (k + 1) ((b * M + (p + 1)) * 10 % (2 * M)) by rw [run, if_neg hne]]
    unfold hv
    rw [ih]
    congr 1
    · rw [Nat.mul_comm 2 M, ← Nat.div_div_eq_div_mul, hdiv]
    · congr 1
      rw [Nat.mul_comm 2 M, Nat.mod_mul, hmod, hdiv, Nat.add_comm, Nat.mul_comm M]
/-- The digits of a fraction with one bit more. -/
theorem half_step {n i : Nat} : hv (n / 2 ^ i % 2) (run (2 ^ i) i (n % 2 ^ i)) = run (2 ^ (i + 1)) (i + 1) (n % 2 ^ (i + 1)) := by
  have e : n % 2 ^ (i + 1) = n / 2 ^ i % 2 * 2 ^ i + n % 2 ^ i := by rw [Nat.pow_succ, Nat.mod_mul, Nat.add_comm, Nat.mul_comm (2 ^ i)]
  rw [hv_run (two_pos i) i _ _ (Nat.mod_lt _ (two_pos i)) (Nat.mod_lt _ (by omega)) pow_dvd, e, Nat.pow_succ, Nat.mul_comm 2]
theorem hv_lt : ∀ (l : List Nat) (c : Nat), c < 2 → (∀ d ∈ l, d < 10) → ∀ d ∈ hv c l, d < 10
  | [], c, _, _, d, hd => by
    unfold hv at hd; split at hd
    · simp at hd; omega
    · simp at hd
  | x :: r, c, hc, h, d, hd => by
    unfold hv at hd
    have hx := h x (List.mem_cons_self)
    rcases List.mem_cons.1 hd with rfl | hd
    · omega
    · exact hv_lt r _ (Nat.mod_lt _ (by omega)) (fun y hy => h y (List.mem_cons_of_mem _ hy)) d hd
theorem hv_len : ∀ (l : List Nat) (c : Nat), (hv c l).length ≤ l.length + 1
  | [], c => by unfold hv; split <;> simp
  | x :: r, c => by unfold hv; have := hv_len r ((10 * c + x) % 2); simp; omega
/-- The digits of run do not end in a zero. -/
theorem run_last {M : Nat} (hM : 0 < M) : ∀ (k p : Nat), p < M → M ∣ p * 10 ^ k → (run M k p).getLast? ≠ some 0
  | 0, _, _, _ => by simp [run]
  | k + 1, p, hp, hd => by
    unfold run; split
    · simp
    · rename_i h0
      have hd' : M ∣ p * 10 % M * 10 ^ k := by
        have h1 : M ∣ p * 10 * 10 ^ k := by rw [Nat.pow_succ] at hd; rw [Nat.mul_assoc, Nat.mul_comm 10]; exact hd
        have h2 := Nat.div_add_mod (p * 10) M
        have h3 : p * 10 * 10 ^ k = M * (p * 10 / M * 10 ^ k) + p * 10 % M * 10 ^ k := by
          conv => lhs; rw [← h2]
          rw [Nat.add_mul, Nat.mul_assoc]
        rw [h3] at h1
        exact (Nat.dvd_add_right (Nat.dvd_mul_right _ _)).1 h1
      have ih := run_last hM k _ (Nat.mod_lt (p * 10) hM) hd'
      cases hr : run M k (p * 10 % M) with
      | nil =>
        rw [List.getLast?_singleton]
        intro h
        have hz : p * 10 / M = 0 := Option.some.inj h
        have hlt : p * 10 < M := by rw [Nat.div_eq_zero_iff] at hz; omega
        have hm : p * 10 % M = p * 10 := Nat.mod_eq_of_lt hlt
        rw [hm] at hr hd'
        cases k with
        | zero =>
          rw [Nat.pow_zero, Nat.mul_one] at hd'
          have := Nat.eq_zero_of_dvd_of_lt hd' hlt
          omega
        | succ k => unfold run at hr; rw [if_neg (by omega)] at hr; cases hr
      | cons a b => rw [List.getLast?_cons_cons, ← hr]; exact ih

/-! ### Numbers -/
/-- The number of some characters, as the reference finds it; none if it is greater than 2^63. -/
def valueGo : Nat → List UInt8 → Nat × Bool
  | n, [] => (n, decide (n ≤ 9223372036854775808))
  | n, c :: r => if 1000000000000000000 < n then (0, false) else valueGo (10 * n + (c.toNat + 208) % 256) r
theorem valueGo_dig : ∀ (l : List UInt8) (n : Nat), allDig l = true → n * 10 ^ l.length + val l ≤ 9223372036854775808 → valueGo n l = (n * 10 ^ l.length + val l, true)
  | [], n, _, h => by simp [valueGo, val] at *; omega
  | c :: r, n, hd, h => by
    simp only [allDig, List.all_cons, Bool.and_eq_true] at hd
    have hc := hd.1; simp [isDig] at hc
    have e1 : (c.toNat + 208) % 256 = c.toNat - 48 := by omega
    have e : (10 * n + (c.toNat - 48)) * 10 ^ r.length + val r = n * 10 ^ (r.length + 1) + ((c.toNat - 48) * 10 ^ r.length + val r) := by
      rw [Nat.add_mul, Nat.pow_succ, Nat.mul_comm 10 n, Nat.mul_assoc, Nat.mul_comm 10, Nat.add_assoc]
    simp only [val, List.length_cons] at h ⊢
    have hn : n ≤ 1000000000000000000 := by
      have h1 : 1 ≤ 10 ^ r.length := Nat.one_le_pow _ _ (by omega)
      have h2 : n * 10 ≤ n * 10 ^ (r.length + 1) := by
        rw [Nat.pow_succ]; exact Nat.mul_le_mul_left _ (Nat.le_mul_of_pos_left 10 h1)
      omega
    unfold valueGo
    rw [if_neg (by omega), e1, valueGo_dig r _ hd.2 (by rw [e]; exact h), e]
theorem value_dec {u : Nat} (h : u ≤ 9223372036854775808) : valueGo 0 (decDigits u) = (u, true) := by
  rw [valueGo_dig _ _ (allDig_dec u) (by rw [val_dec]; omega), val_dec]; simp
theorem valueGo_le : ∀ (l : List UInt8) (n : Nat), n ≤ 10000000000000000255 → (valueGo n l).1 ≤ 10000000000000000255
  | [], n, h => by simpa [valueGo] using h
  | c :: r, n, h => by
    unfold valueGo; split
    · simp
    · exact valueGo_le r _ (by have := Nat.mod_lt (c.toNat + 208) (show 0 < 256 by omega); omega)
/-- Digits, at least one. -/
def digitsR (l : List UInt8) : Bool := allDig l && decide (0 < l.length)
theorem digitsR_dec (u : Nat) : digitsR (decDigits u) = true := by
  unfold digitsR; rw [allDig_dec, decDigits_length]; have := nDigits_pos u; simp; omega

/-! ### Doubles -/
/-- Twice some digits, and the digit that comes out. -/
def dbl : List UInt8 → Nat × List UInt8
  | [] => (0, [])
  | c :: r => ((2 * (c.toNat - 48) + (dbl r).1) / 10, ch ((2 * (c.toNat - 48) + (dbl r).1) % 10) :: (dbl r).2)
theorem dbl_spec : ∀ (l : List UInt8), allDig l = true → (dbl l).1 ≤ 1 ∧ (dbl l).2.length = l.length ∧ allDig (dbl l).2 = true ∧ (dbl l).1 * 10 ^ l.length + val (dbl l).2 = 2 * val l
  | [], _ => by simp [dbl, val, allDig]
  | c :: r, h => by
    simp only [allDig, List.all_cons, Bool.and_eq_true] at h
    obtain ⟨h1, h2, h3, h4⟩ := dbl_spec r h.2
    have hc := h.1; simp [isDig] at hc
    unfold dbl
    refine ⟨by omega, by simp [h2], ?_, ?_⟩
    · show (isDig (ch _) && allDig (dbl r).2) = true
      rw [ch_dig (by omega), h3]; rfl
    · simp only [val, List.length_cons, h2]
      rw [ch_toNat (by omega), Nat.pow_succ]
      have hm := Nat.div_add_mod (2 * (c.toNat - 48) + (dbl r).1) 10
      generalize (2 * (c.toNat - 48) + (dbl r).1) / 10 = a at *
      generalize (2 * (c.toNat - 48) + (dbl r).1) % 10 = b at *
      generalize hT : 10 ^ r.length = T at *
      have e : a * (T * 10) + ((48 + b - 48) * T + val (dbl r).2) = (10 * a + b) * T + val (dbl r).2 := by
        rw [show 48 + b - 48 = b by omega, Nat.add_mul, Nat.mul_comm 10 a, Nat.mul_assoc, Nat.mul_comm T, Nat.add_assoc]
      rw [e, hm, Nat.add_mul, Nat.add_assoc, h4, Nat.mul_add, Nat.mul_assoc]
/-- i doublings: the bits that came out, behind a number, and what is left. -/
def iterD : Nat → Nat → List UInt8 → Nat × List UInt8
  | 0, n, l => (n, l)
  | i + 1, n, l => ((2 * (iterD i n l).1 + (dbl (iterD i n l).2).1) % 18446744073709551616, (dbl (iterD i n l).2).2)
theorem iterD_dig (n : Nat) (l : List UInt8) (h : allDig l = true) : ∀ i, allDig (iterD i n l).2 = true ∧ (iterD i n l).2.length = l.length
  | 0 => ⟨h, rfl⟩
  | i + 1 => by
    obtain ⟨h1, h2⟩ := iterD_dig n l h i
    obtain ⟨_, k2, k3, _⟩ := dbl_spec _ h1
    exact ⟨k3, by unfold iterD; rw [k2, h2]⟩
theorem iterD_lt (n : Nat) (l : List UInt8) (hn : n < 18446744073709551616) : ∀ i, (iterD i n l).1 < 18446744073709551616
  | 0 => hn
  | i + 1 => Nat.mod_lt _ (by omega)
theorem iterD_val (n : Nat) (l : List UInt8) (h : allDig l = true) : ∀ i, (n * 10 ^ l.length + val l) * 2 ^ i < 18446744073709551616 * 10 ^ l.length →
    (iterD i n l).1 * 10 ^ l.length + val (iterD i n l).2 = (n * 10 ^ l.length + val l) * 2 ^ i
  | 0, _ => by simp [iterD]
  | i + 1, hlt => by
    have hlt' : (n * 10 ^ l.length + val l) * 2 ^ i < 18446744073709551616 * 10 ^ l.length := by
      rw [Nat.pow_succ, ← Nat.mul_assoc] at hlt; omega
    have ih := iterD_val n l h i hlt'
    obtain ⟨h1, h2⟩ := iterD_dig n l h i
    obtain ⟨k1, k2, k3, k4⟩ := dbl_spec _ h1
    rw [h2] at k4
    unfold iterD
    show (2 * (iterD i n l).1 + (dbl (iterD i n l).2).1) % 18446744073709551616 * 10 ^ l.length + val (dbl (iterD i n l).2).2 = _
    generalize (iterD i n l).1 = a at *
    generalize (dbl (iterD i n l).2).1 = b at *
    generalize val (dbl (iterD i n l).2).2 = v at *
    generalize val (iterD i n l).2 = u at *
    generalize 10 ^ l.length = T at *
    have e : (2 * a + b) * T + v = (n * T + val l) * 2 ^ (i + 1) := by
      rw [Nat.add_mul, Nat.add_assoc, k4, Nat.mul_assoc, ← Nat.mul_add, ih, Nat.pow_succ, Nat.mul_comm 2, Nat.mul_assoc]
    have hs : 2 * a + b < 18446744073709551616 := by
      apply Nat.lt_of_mul_lt_mul_right (a := T)
      omega
    rw [Nat.mod_eq_of_lt hs, e]

/-! ### What the reference reads -/
def hasPoint (l : List UInt8) : Bool := l.any (fun c => c == 46)
def candR (l : List UInt8) (q : Nat) : Int × Bool :=
  if 100 < l.length then (0, false)
  else if (digitsR (headL (bodyL l)) && (valueGo 0 (headL (bodyL l))).2 && (!hasPoint (bodyL l) || digitsR (tailL (bodyL l)))) = false then (0, false)
  else (signed (negL l) (iterD q (valueGo 0 (headL (bodyL l))).1 (tailL (bodyL l))).1, true)
theorem any_dig (l : List UInt8) (h : allDig l = true) : l.any (fun c => c == 46) = false := by
  rw [List.any_eq_false]
  intro c hc
  have := (dig_ne (List.all_eq_true.1 h c hc)).1
  simpa using this
theorem text_point (x : Int) (q : Nat) : hasPoint (bodyL (textL x q)) = true → x.natAbs % 2 ^ q ≠ 0 := by
  rw [text_body]
  unfold hasPoint
  rw [List.any_append, any_dig _ (allDig_dec _)]
  intro h h0
  rw [h0] at h
  simp [fracL] at h
theorem candR_text {x : Int} {q : Nat} (hq : q ≤ 62) (h0 : -9223372036854775808 ≤ x) (h1 : x ≤ 9223372036854775807) : candR (textL x q) q = (x, true) := by
  have ha := abs_le h0 h1
  have hl := text_len hq h0 h1
  have hle : x.natAbs / 2 ^ q ≤ x.natAbs := Nat.div_le_self _ _
  have hp := Nat.mod_lt x.natAbs (two_pos q)
  have hlt := run_lt (two_pos q) q _ hp
  have hd : allDig ((run (2 ^ q) q (x.natAbs % 2 ^ q)).map ch) = true := allDig_map_ch _ hlt
  have hc : (!hasPoint (bodyL (textL x q)) || digitsR ((run (2 ^ q) q (x.natAbs % 2 ^ q)).map ch)) = true := by
    cases h : hasPoint (bodyL (textL x q)) with
    | false => rfl
    | true =>
      have hne := text_point x q h
      have hq0 : 1 ≤ q := by
        rcases Nat.eq_zero_or_pos q with rfl | h; · simp [Nat.mod_one] at hne
        · exact h
      obtain ⟨k, rfl⟩ : ∃ k, q = k + 1 := ⟨q - 1, by omega⟩
      unfold digitsR
      rw [hd, run, if_neg hne]
      simp
  unfold candR
  rw [if_neg (by omega), text_head, text_tail, text_neg, digitsR_dec, value_dec (by omega), hc]
  simp only [Bool.and_self, Bool.true_eq_false, if_false]
  have hex := run_exact (two_pos q) q _ hp pow_dvd
  have hv := val_map_ch _ hlt
  rw [← hv] at hex
  have hL : ((run (2 ^ q) q (x.natAbs % 2 ^ q)).map ch).length = (run (2 ^ q) q (x.natAbs % 2 ^ q)).length := List.length_map _
  rw [← hL] at hex
  have hsum : (x.natAbs / 2 ^ q * 10 ^ ((run (2 ^ q) q (x.natAbs % 2 ^ q)).map ch).length + val ((run (2 ^ q) q (x.natAbs % 2 ^ q)).map ch)) * 2 ^ q = x.natAbs * 10 ^ ((run (2 ^ q) q (x.natAbs % 2 ^ q)).map ch).length := by
    rw [Nat.add_mul, hex, Nat.mul_right_comm, ← Nat.add_mul, Nat.mul_comm (x.natAbs / 2 ^ q), Nat.div_add_mod]
  have hT : 0 < 10 ^ ((run (2 ^ q) q (x.natAbs % 2 ^ q)).map ch).length := Nat.pow_pos (by omega)
  have hi := iterD_val (x.natAbs / 2 ^ q) _ hd q (by rw [hsum]; exact Nat.mul_lt_mul_of_pos_right (by omega) hT)
  rw [hsum] at hi
  obtain ⟨g1, g2⟩ := iterD_dig (x.natAbs / 2 ^ q) _ hd q
  have g3 := val_lt _ g1
  rw [g2] at g3
  have hfin : (iterD q (x.natAbs / 2 ^ q) ((run (2 ^ q) q (x.natAbs % 2 ^ q)).map ch)).1 = x.natAbs := by
    generalize (iterD q (x.natAbs / 2 ^ q) ((run (2 ^ q) q (x.natAbs % 2 ^ q)).map ch)).1 = a at *
    generalize val (iterD q (x.natAbs / 2 ^ q) ((run (2 ^ q) q (x.natAbs % 2 ^ q)).map ch)).2 = b at *
    generalize 10 ^ ((run (2 ^ q) q (x.natAbs % 2 ^ q)).map ch).length = T at *
    have e1 : (a * T + b) / T = a := by rw [Nat.mul_comm, Nat.mul_add_div hT, Nat.div_eq_of_lt g3]; rfl
    rw [← e1, hi]; exact Nat.mul_div_cancel _ hT
  rw [hfin, signed_abs h0 h1]
theorem candR_range (l : List UInt8) (q : Nat) : -9223372036854775808 ≤ (candR l q).1 ∧ (candR l q).1 ≤ 9223372036854775807 := by
  unfold candR; split
  · simp
  · split
    · simp
    · exact signed_range _ _
def parseR (l : List UInt8) (q : Nat) : Int × Bool := if (candR l q).2 = true ∧ textL (candR l q).1 q = l then ((candR l q).1, true) else (0, false)
/-- The program and the reference read the same. -/
theorem parse_same {l : List UInt8} {q : Nat} (hq : q ≤ 62) : parseR l q = parseV l q := by
  by_cases h : ∃ x : Int, -9223372036854775808 ≤ x ∧ x ≤ 9223372036854775807 ∧ textL x q = l
  · obtain ⟨x, h0, h1, rfl⟩ := h
    rw [parse_text hq h0 h1]
    unfold parseR; rw [candR_text hq h0 h1]; simp
  · rw [parse_none (fun x h0 h1 h2 => h ⟨x, h0, h1, h2⟩)]
    unfold parseR; rw [if_neg]; rintro ⟨_, h2⟩
    exact h ⟨_, (candR_range l q).1, (candR_range l q).2, h2⟩
/-- What the reference's Number returns. -/
def candN (l : List UInt8) : Int × Bool :=
  if (digitsR (bodyL l) && (valueGo 0 (bodyL l)).2 && decide ((bodyL l).length ≤ 19)) = false then (0, false)
  else (signed (negL l) (valueGo 0 (bodyL l)).1, true)
def numR (l : List UInt8) : Int × Bool := if (candN l).2 = true ∧ itoa (candN l).1 = l then ((candN l).1, true) else (0, false)
theorem text_itoa (x : Int) : textL x 0 = itoa x := by
  unfold textL itoa fracL
  simp only [Nat.pow_zero, Nat.div_one, Nat.mod_one, if_true, List.append_nil]
  by_cases h : x < 0
  · simp [h]
  · simp [h]; congr 1; omega
theorem candN_text {x : Int} (h0 : -9223372036854775808 ≤ x) (h1 : x ≤ 9223372036854775807) : candN (textL x 0) = (x, true) := by
  have ha := abs_le h0 h1
  have hb : bodyL (textL x 0) = decDigits x.natAbs := by rw [text_body]; simp [fracL, Nat.mod_one]
  unfold candN
  have hln := dec_len (u := x.natAbs) (k := 19) (by omega) (by omega)
  rw [hb, text_neg, digitsR_dec, value_dec (by omega), decide_eq_true hln]
  simp only [Bool.and_self, Bool.true_eq_false, if_false]
  rw [signed_abs h0 h1]
theorem candN_range (l : List UInt8) : -9223372036854775808 ≤ (candN l).1 ∧ (candN l).1 ≤ 9223372036854775807 := by
  unfold candN; split
  · simp
  · exact signed_range _ _
theorem num_same {l : List UInt8} : numR l = parseV l 0 := by
  by_cases h : ∃ x : Int, -9223372036854775808 ≤ x ∧ x ≤ 9223372036854775807 ∧ textL x 0 = l
  · obtain ⟨x, h0, h1, rfl⟩ := h
    rw [parse_text (by omega) h0 h1]
    unfold numR; rw [candN_text h0 h1, text_itoa]; simp
  · rw [parse_none (fun x h0 h1 h2 => h ⟨x, h0, h1, h2⟩)]
    unfold numR; rw [if_neg]; rintro ⟨_, h2⟩
    exact h ⟨_, (candN_range l).1, (candN_range l).2, by rw [text_itoa]; exact h2⟩
end Go.Proofs.YthcahpgandappaaGreatDoor
