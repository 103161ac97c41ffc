/- Package deci: fraction and candidate, Parse, Number, Natural: each returns what the plain functions say; of what lay in memory nothing has changed. Conditions: the string is one of Go's; the other arguments are within their bounds; the table of powers of ten holds its numbers. -/
import Derived.Test.YthcahpgandappaaGreatDoorYd
import Derived.Test.YthcahpgandappaaGreatDoorYe
import Derived.Test.YthcahpgandappaaGreatDoorYv
import Derived.Lib.Repeat
namespace Go.Proofs.YthcahpgandappaaGreatDoor
open Go.RowKit
set_option linter.unusedVariables false

theorem repeat_zeros : ∀ n : Nat, Lib.repeatL [48] n = List.replicate n (48 : UInt8)
  | 0 => rfl
  | n + 1 => by rw [Lib.repeatL, repeat_zeros n, List.replicate_succ]; rfl
theorem pad_bytes (s : ByteArray) (m : Nat) (hm : min s.size 19 = m) : s.extract 0 m ++ (⟨(Lib.repeatL [48] (19 - m)).toArray⟩ : ByteArray) = ⟨(padL s.data.toList).toArray⟩ := by
  have hl : (s.data.toList.take 19).length = m := by rw [List.length_take, ← Lib.size_eq]; omega
  have ht : s.data.toList.take m = s.data.toList.take 19 := by
    rcases Nat.le_total s.size 19 with h | h
    · rw [List.take_of_length_le (by rw [← Lib.size_eq]; omega), List.take_of_length_le (by rw [← Lib.size_eq]; omega)]
    · rw [show m = 19 by omega]
  rw [repeat_zeros, str_take, ht]
  unfold padL
  rw [hl]
  apply ByteArray.ext
  simp
theorem scaled {l : List UInt8} {q : Nat} (hq : q ≤ 62) (hv : val (padL l) < 10 ^ 19) : val (padL l) * 2 ^ q / 18446744073709551616 < 10000000000000000000 := by
  have h2 := two_le hq
  have h3 : val (padL l) * 2 ^ q ≤ 9999999999999999999 * 4611686018427387904 := Nat.mul_le_mul (by omega) h2
  omega

set_option maxHeartbeats 4000000 in
set_option maxRecDepth 100000 in
theorem fraction_any (s : ByteArray) (q : Nat) (w : World) (hq : q ≤ 62) (hs : s.size ≤ 140737488355328) :
    Calls Tryz.prog 101 #[.string s, .int .i64 (q : Int)] w fun e w' => e = .returned (.tuple #[.int .u64 (((fractionV s.data.toList q).1 : Nat) : Int), .bool (fractionV s.data.toList q).2]) ∧ Grew w w' := by
  obtain ⟨m, hm⟩ : ∃ m, min s.size 19 = m := ⟨_, rfl⟩
  have r1 : min (s.size : Int) 19 = (m : Int) := by omega
  have r2 : min m s.size = m := by omega
  have hm19 : m ≤ 19 := by omega
  have hms : m ≤ s.size := by omega
  have HM := Lib.hid hm
  clear hm
  have H19 := Lib.hid (show (19 : Int) - (m : Int) = ((19 - m : Nat) : Int) by omega)
  go_enter Tryz.func101, Tryz.ntmps101
  go_wp2_with fail
  rw [H19.out]
  refine (Tryz.strings_Repeat ⟨#[48]⟩ (19 - m) _ (by omega) (by have : (⟨#[48]⟩ : ByteArray).size = 1 := rfl; rw [this]; omega)).mono ?_
  rintro e w1 ⟨rfl, g1⟩
  have hrl : (Lib.repeatL [48] (19 - m)).length ≤ 19 := by rw [Lib.repeatL_length]; simp
  have HP := Lib.hid (pad_bytes s m HM.out)
  go_wp2_with fail
  rw [HP.out]
  refine (digits_any ⟨(padL s.data.toList).toArray⟩ _).mono ?_
  rintro e w2 ⟨rfl, g2⟩
  cases hd : allDig (padL s.data.toList) with
  | false =>
    have e1 : digitsV (padL s.data.toList) = (0, false) := digitsV_no (by simp [hd])
    have HV := Lib.hid (show fractionV s.data.toList q = (0, false) by unfold fractionV; rw [e1]; rfl)
    rw [show digitsV (⟨(padL s.data.toList).toArray⟩ : ByteArray).data.toList = (0, false) from e1]
    clear e1 hd
    go_wp2_with fail
    go_ret2
    exact ⟨by rw [HV.out]; rfl, Grew.trans g1 g2⟩
  | true =>
    have e1 : digitsV (padL s.data.toList) = (val (padL s.data.toList), true) := digitsV_yes (Nat.le_of_eq (pad_len _)) hd
    have hv := val_lt _ hd
    rw [pad_len] at hv
    have HV := Lib.hid (show fractionV s.data.toList q = ((val (padL s.data.toList) * 2 ^ q + 9999999999999999999) / 10000000000000000000, true) by unfold fractionV; rw [e1]; rfl)
    have hsc := scaled hq hv
    obtain ⟨v, hvv⟩ : ∃ v, val (padL s.data.toList) = v := ⟨_, rfl⟩
    rw [show digitsV (⟨(padL s.data.toList).toArray⟩ : ByteArray).data.toList = (v, true) by rw [← hvv]; exact e1]
    rw [hvv] at hv hsc
    have HVV := Lib.hid hvv
    have h2 := two_le hq
    have h2i := pow_lt (n := q) hq
    have h2p := pow_pos' q
    have H2 := Lib.hid (show (2 : Int) ^ q = ((2 ^ q : Nat) : Int) by simp)
    clear e1 hd hvv
    have hv64 : v < 18446744073709551616 := by omega
    have h264 : 2 ^ q < 18446744073709551616 := by omega
    have HSC := Lib.hid hsc
    have HVL := Lib.hid (show v < 10000000000000000000 from hv)
    have HDM := Lib.hid (Nat.div_add_mod (v * 2 ^ q) 18446744073709551616)
    clear hsc hv
    go_wp2_with fail
    rw [H2.out]
    refine (Tryz.bits_Mul64 v (2 ^ q) hv64 h264 _).mono ?_
    rintro e w3 ⟨rfl, rfl⟩
    obtain ⟨hi, hhi⟩ : ∃ hi, v * 2 ^ q / 18446744073709551616 = hi := ⟨_, rfl⟩
    obtain ⟨lo, hlo⟩ : ∃ lo, v * 2 ^ q % 18446744073709551616 = lo := ⟨_, rfl⟩
    rw [hhi, hlo]
    have HHI := Lib.hid hhi
    have HLO := Lib.hid hlo
    clear hhi hlo
    go_wp2_with fail
    refine (div64_any hi lo _ (by rw [← HHI.out]; exact HSC.out) (by rw [← HLO.out]; exact Nat.mod_lt _ (by decide))).mono ?_
    rintro e w4 ⟨rfl, g4⟩
    have HZ := Lib.hid (show hi * 18446744073709551616 + lo = v * 2 ^ q by rw [← HHI.out, ← HLO.out, Nat.mul_comm]; exact HDM.out)
    rw [HZ.out]
    obtain ⟨z, hz⟩ : ∃ z, v * 2 ^ q = z := ⟨_, rfl⟩
    rw [hz]
    have HZZ := Lib.hid hz
    clear hz
    have hzb : z < 10000000000000000000 * 4611686018427387905 := by
      rw [← HZZ.out]
      have hv19 := HVL.out
      exact Nat.lt_of_le_of_lt (Nat.mul_le_mul (Nat.le_of_lt hv19) h2) (by decide)
    have hQ : z / 10000000000000000000 < 4611686018427387905 := Nat.div_lt_of_lt_mul hzb
    obtain ⟨Q, hq1⟩ : ∃ Q, z / 10000000000000000000 = Q := ⟨_, rfl⟩
    obtain ⟨R, hr1⟩ : ∃ R, z % 10000000000000000000 = R := ⟨_, rfl⟩
    rw [hq1, hr1]
    rw [hq1] at hQ
    have HQ := Lib.hid hq1
    have HR := Lib.hid hr1
    clear hq1 hr1 hzb
    by_cases hr0 : R = 0
    · have hb : ((R : Int) != 0) = false := by simp [hr0]
      have HE := Lib.hid (show ((z + 9999999999999999999) / 10000000000000000000 : Nat) = Q by have := HQ.out; have := HR.out; omega)
      clear hr0
      go_wp2_with fail
      go_ret2
      exact ⟨by rw [HV.out, HVV.out, HZZ.out, HE.out]; rfl, (Grew.trans g1 g2).trans g4⟩
    · have hb : ((R : Int) != 0) = true := by simpa using hr0
      have HE := Lib.hid (show ((z + 9999999999999999999) / 10000000000000000000 : Nat) = Q + 1 by have := HQ.out; have := HR.out; omega)
      clear hr0
      go_wp2_with fail
      go_ret2
      exact ⟨by rw [HV.out, HVV.out, HZZ.out, HE.out]; rfl, (Grew.trans g1 g2).trans g4⟩

theorem prefix_neg (l : List UInt8) : Lib.hasPrefix l [45] = negL l ∧ Lib.trimPrefix l [45] = bodyL l := by
  cases l with
  | nil => exact ⟨rfl, rfl⟩
  | cons c r =>
    have h : Lib.hasPrefix (c :: r) [45] = negL (c :: r) := by
      by_cases hc : c = 45
      · subst hc; simp [Lib.hasPrefix, negL, List.isPrefixOf]
      · have h1 : (45 == c) = false := by rw [beq_eq_false_iff_ne]; exact fun e => hc e.symm
        simp [Lib.hasPrefix, negL, List.isPrefixOf, h1, hc]
    refine ⟨h, ?_⟩
    unfold Lib.trimPrefix bodyL
    rw [h]
    by_cases hn : negL (c :: r) = true
    · rw [if_pos hn, if_pos hn]; rfl
    · rw [if_neg hn, if_neg hn]

theorem signed_no (n : Nat) : signed false n = wrap64 n := by simp [signed]
theorem signed_yes (n : Nat) : signed true n = wrap64 (-wrap64 n) := by simp [signed]
theorem head_len (l : List UInt8) : (headL l).length ≤ l.length := List.Sublist.length_le (List.takeWhile_sublist _)
theorem tail_len (l : List UInt8) : (tailL l).length ≤ l.length := by
  have h := List.Sublist.length_le (List.dropWhile_sublist (fun c : UInt8 => c != 46) (l := l))
  unfold tailL; rw [List.length_drop]; omega
theorem body_len (l : List UInt8) : (bodyL l).length ≤ l.length := by unfold bodyL; split <;> simp
theorem join_nat (n p q : Nat) : wrap64 (IntKind.u64.wrap (IntKind.u64.wrap ((n : Int) * 2 ^ q) + (p : Int))) = wrap64 (((n * 2 ^ q + p : Nat) : Int)) := by
  apply wrap64_congr
  rw [u64wrap, u64wrap]
  have e : ((n * 2 ^ q + p : Nat) : Int) = (n : Int) * 2 ^ q + p := by simp
  rw [e, Int.emod_emod, Int.emod_add_emod]

set_option maxHeartbeats 4000000 in
set_option maxRecDepth 100000 in
theorem candidate_any (s : ByteArray) (q : Nat) (w : World) (hq : q ≤ 62) (hs : s.size ≤ 140737488355328) :
    Calls Tryz.prog 85 #[.string s, .int .i64 (q : Int)] w fun e w' => e = .returned (.tuple #[.int .i64 (candV s.data.toList q).1, .bool (candV s.data.toList q).2]) ∧ Grew w w' := by
  obtain ⟨hp1, hp2⟩ := prefix_neg s.data.toList
  have HP := Lib.hid (And.intro hp1 hp2)
  clear hp1 hp2
  obtain ⟨B, hB⟩ : ∃ B, bodyL s.data.toList = B := ⟨_, rfl⟩
  obtain ⟨ng, hng⟩ : ∃ ng, negL s.data.toList = ng := ⟨_, rfl⟩
  have hBl : B.length ≤ s.size := by rw [← hB, Lib.size_eq]; exact body_len _
  have hhl := head_len B
  have htl := tail_len B
  obtain ⟨n, ok, hD⟩ : ∃ n ok, digitsV (headL B) = (n, ok) := ⟨_, _, rfl⟩
  obtain ⟨p, ok2, hF⟩ : ∃ p ok2, fractionV (tailL B) q = (p, ok2) := ⟨_, _, rfl⟩
  have HV := Lib.hid (show candV s.data.toList q = if ok = false then (0, false) else if ok2 = false then (0, false) else (signed ng (n * 2 ^ q + p), true) by unfold candV; rw [hB, hng, hD, hF])
  have HB := Lib.hid hB
  have HNG := Lib.hid hng
  have HD := Lib.hid hD
  have HF := Lib.hid hF
  have HJ := Lib.hid (join_nat n p q)
  clear hB hng hD hF
  go_enter Tryz.func85, Tryz.ntmps85
  go_wp2_with fail
  refine (Tryz.strings_CutPrefix s ⟨#[45]⟩ _).mono ?_
  rintro e w1 ⟨rfl, rfl⟩
  rw [show (⟨#[45]⟩ : ByteArray).data.toList = [45] from rfl, HP.out.1, HP.out.2, HB.out, HNG.out]
  go_wp2_with fail
  refine (cut_point ⟨B.toArray⟩ _ (by show B.toArray.size ≤ _; simp; omega)).mono ?_
  rintro e w2 ⟨rfl, g2⟩
  rw [show (⟨B.toArray⟩ : ByteArray).data.toList = B from rfl]
  go_wp2_with fail
  refine (digits_any ⟨(headL B).toArray⟩ _).mono ?_
  rintro e w3 ⟨rfl, g3⟩
  rw [show (⟨(headL B).toArray⟩ : ByteArray).data.toList = headL B from rfl, HD.out]
  cases ok with
  | false =>
    go_wp2_with fail
    go_ret2
    exact ⟨by rw [HV.out]; rfl, g2.trans g3⟩
  | true =>
    go_wp2_with fail
    refine (fraction_any ⟨(tailL B).toArray⟩ q _ hq (by show (tailL B).toArray.size ≤ _; simp; omega)).mono ?_
    rintro e w4 ⟨rfl, g4⟩
    rw [show (⟨(tailL B).toArray⟩ : ByteArray).data.toList = tailL B from rfl, HF.out]
    cases ok2 with
    | false =>
      go_wp2_with fail
      go_ret2
      exact ⟨by rw [HV.out]; rfl, (g2.trans g3).trans g4⟩
    | true =>
      cases ng with
      | false =>
        go_wp2_with fail
        go_ret2
        refine ⟨?_, (g2.trans g3).trans g4⟩
        have HVn := HV.out
        rw [if_neg Bool.noConfusion, if_neg Bool.noConfusion, signed_no] at HVn
        rw [HVn]
        show Ending.returned (.tuple #[.int .i64 (wrap64 (IntKind.u64.wrap (IntKind.u64.wrap ((n : Int) * 2 ^ q) + (p : Int)))), .bool true]) = Ending.returned (.tuple #[.int .i64 (wrap64 ((n * 2 ^ q + p : Nat) : Int)), .bool true])
        rw [HJ.out]
      | true =>
        go_wp2_with fail
        go_ret2
        refine ⟨?_, (g2.trans g3).trans g4⟩
        have HVn := HV.out
        rw [if_neg Bool.noConfusion, if_neg Bool.noConfusion, signed_yes] at HVn
        rw [HVn]
        show Ending.returned (.tuple #[.int .i64 (wrap64 (-wrap64 (IntKind.u64.wrap (IntKind.u64.wrap ((n : Int) * 2 ^ q) + (p : Int))))), .bool true]) = Ending.returned (.tuple #[.int .i64 (wrap64 (-wrap64 ((n * 2 ^ q + p : Nat) : Int))), .bool true])
        rw [HJ.out]

/-- What Parse returns. -/
def parseQ (l : List UInt8) (q : Int) : Int × Bool := if 0 ≤ q ∧ q ≤ 62 then parseV l q.toNat else (0, false)
theorem parseQ_yes {l : List UInt8} {q : Nat} (h : q ≤ 62) : parseQ l (q : Int) = parseV l q := by unfold parseQ; rw [if_pos ⟨by omega, by omega⟩, Int.toNat_natCast]
theorem parseQ_no {l : List UInt8} {q : Int} (h : ¬ (0 ≤ q ∧ q ≤ 62)) : parseQ l q = (0, false) := by unfold parseQ; rw [if_neg h]

set_option maxHeartbeats 4000000 in
set_option maxRecDepth 100000 in
theorem parse_yes (s : ByteArray) (q : Nat) (w : World) (hq : q ≤ 62) (hs : s.size ≤ 140737488355328) (hT : Lib.TabIs Tryz.prog w "internal/strconv.uint64pow10" .u64 Lib.pow10Tab) :
    Calls Tryz.prog 68 #[.string s, .int .i64 (q : Int)] w fun e w' => e = .returned (.tuple #[.int .i64 (parseV s.data.toList q).1, .bool (parseV s.data.toList q).2]) ∧ Grew w w' := by
  obtain ⟨hr0, hr1⟩ := cand_range s.data.toList q
  obtain ⟨x, ok, hC⟩ : ∃ x ok, candV s.data.toList q = (x, ok) := ⟨_, _, rfl⟩
  rw [hC] at hr0 hr1
  have HV := Lib.hid (show parseV s.data.toList q = if ok = true ∧ textL x q = s.data.toList then (x, true) else (0, false) by unfold parseV; rw [hC])
  have HC := Lib.hid hC
  clear hC
  have hr0' : -9223372036854775808 ≤ x := hr0
  have hr1' : x ≤ 9223372036854775807 := hr1
  clear hr0 hr1
  go_enter Tryz.func68, Tryz.ntmps68
  go_wp2_with fail
  refine (dfb_yes q _ hq).mono ?_
  rintro e w1 ⟨rfl, rfl⟩
  go_wp2_with fail
  refine (candidate_any s q _ hq hs).mono ?_
  rintro e w1 ⟨rfl, g1⟩
  rw [HC.out]
  cases ok with
  | false =>
    go_wp2_with fail
    go_ret2
    exact ⟨by rw [HV.out]; rfl, g1⟩
  | true =>
    go_wp2_with fail
    refine (text_yes x q _ hq hr0' hr1' (tab_below hT (Nat.le_refl _) g1)).mono ?_
    rintro e w2 ⟨rfl, g2⟩
    go_wp2_with fail
    · have hne : ¬ textL x q = s.data.toList := by
        have h : (!textL x q == s.toList) = true := by assumption
        rw [Lib.toList_data] at h
        simpa using h
      go_ret2
      exact ⟨by rw [HV.out, if_neg (fun h => hne h.2)]; rfl, g1.trans g2⟩
    · have he : textL x q = s.data.toList := by
        have h : (!textL x q == s.toList) = false := by assumption
        rw [Lib.toList_data] at h
        simpa using h
      go_ret2
      exact ⟨by rw [HV.out, if_pos ⟨by trivial, he⟩]; rfl, g1.trans g2⟩
theorem parse_no (s : ByteArray) (q : Int) (w : World) (hq : ¬ (0 ≤ q ∧ q ≤ 62)) :
    Calls Tryz.prog 68 #[.string s, .int .i64 q] w fun e w' => e = .returned (.tuple #[.int .i64 0, .bool false]) ∧ Grew w w' := by
  go_enter Tryz.func68, Tryz.ntmps68
  go_wp2_with fail
  refine (dfb_no q _ hq).mono ?_
  rintro e w1 ⟨rfl, rfl⟩
  go_wp2_with fail
  go_ret2
  exact ⟨rfl, Grew.refl _⟩
theorem parse_any (s : ByteArray) (q : Int) (w : World) (hs : s.size ≤ 140737488355328) (hT : Lib.TabIs Tryz.prog w "internal/strconv.uint64pow10" .u64 Lib.pow10Tab) :
    Calls Tryz.prog 68 #[.string s, .int .i64 q] w fun e w' => e = .returned (.tuple #[.int .i64 (parseQ s.data.toList q).1, .bool (parseQ s.data.toList q).2]) ∧ Grew w w' := by
  by_cases h : 0 ≤ q ∧ q ≤ 62
  · obtain ⟨n, rfl⟩ := Int.eq_ofNat_of_zero_le h.1
    rw [show parseQ s.data.toList ((n : Nat) : Int) = parseV s.data.toList n from parseQ_yes (by omega)]
    exact parse_yes s n w (by omega) hs hT
  · rw [parseQ_no h]
    exact parse_no s q w h
theorem number_any (s : ByteArray) (w : World) (hs : s.size ≤ 140737488355328) (hT : Lib.TabIs Tryz.prog w "internal/strconv.uint64pow10" .u64 Lib.pow10Tab) :
    Calls Tryz.prog 93 #[.string s] w fun e w' => e = .returned (.tuple #[.int .i64 (parseV s.data.toList 0).1, .bool (parseV s.data.toList 0).2]) ∧ Grew w w' := by
  go_enter Tryz.func93, Tryz.ntmps93
  go_wp2_with fail
  refine (parse_yes s 0 _ (by omega) hs hT).mono ?_
  rintro e w1 ⟨rfl, g1⟩
  go_wp2_with fail
  go_ret2
  exact ⟨rfl, g1⟩
/-- What Natural returns. -/
def natV (l : List UInt8) (most : Int) : Int × Bool := if (parseV l 0).2 = true ∧ 0 ≤ (parseV l 0).1 ∧ (parseV l 0).1 ≤ most then ((parseV l 0).1, true) else (0, false)
set_option maxHeartbeats 4000000 in
theorem natural_any (s : ByteArray) (most : Int) (w : World) (hs : s.size ≤ 140737488355328) (m0 : -9223372036854775808 ≤ most) (m1 : most ≤ 9223372036854775807) (hT : Lib.TabIs Tryz.prog w "internal/strconv.uint64pow10" .u64 Lib.pow10Tab) :
    Calls Tryz.prog 79 #[.string s, .int .i64 most] w fun e w' => e = .returned (.tuple #[.int .i64 (natV s.data.toList most).1, .bool (natV s.data.toList most).2]) ∧ Grew w w' := by
  obtain ⟨hr0, hr1⟩ := parse_range s.data.toList 0
  obtain ⟨x, ok, hC⟩ : ∃ x ok, parseV s.data.toList 0 = (x, ok) := ⟨_, _, rfl⟩
  rw [hC] at hr0 hr1
  have hr0' : -9223372036854775808 ≤ x := hr0
  have hr1' : x ≤ 9223372036854775807 := hr1
  have HV := Lib.hid (show natV s.data.toList most = if ok = true ∧ 0 ≤ x ∧ x ≤ most then (x, true) else (0, false) by unfold natV; rw [hC])
  have HC := Lib.hid hC
  clear hC hr0 hr1
  go_enter Tryz.func79, Tryz.ntmps79
  go_wp2_with fail
  refine (number_any s _ hs hT).mono ?_
  rintro e w1 ⟨rfl, g1⟩
  rw [HC.out]
  cases ok with
  | false =>
    go_wp2_with fail
    go_ret2
    exact ⟨by rw [HV.out]; rfl, g1⟩
  | true =>
    by_cases h0 : x < 0
    · go_wp2_with fail
      go_ret2
      exact ⟨by rw [HV.out, if_neg (by omega)]; rfl, g1⟩
    · by_cases h1 : most < x
      · go_wp2_with fail
        go_ret2
        exact ⟨by rw [HV.out, if_neg (by omega)]; rfl, g1⟩
      · go_wp2_with fail
        go_ret2
        exact ⟨by rw [HV.out, if_pos ⟨by trivial, by omega, by omega⟩]; rfl, g1⟩
end Go.Proofs.YthcahpgandappaaGreatDoor
