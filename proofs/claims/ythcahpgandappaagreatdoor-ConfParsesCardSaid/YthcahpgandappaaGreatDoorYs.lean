/- The reference of layer 2: value, digits, doubled, Number, Parse: each returns what the plain functions say; of what lay in memory nothing has changed. Conditions: the strings are no longer than the statements let them be. -/
import Derived.Test.YthcahpgandappaaGreatDoorYr
namespace Go.Proofs.YthcahpgandappaaGreatDoor
open Go.RowKit
set_option linter.unusedVariables false

theorem drop_at (s : ByteArray) (k : Nat) (hk : k < s.size) : s.data.toList.drop k = (s[k]'hk) :: s.data.toList.drop (k + 1) :=
  List.drop_eq_getElem_cons (by simpa using hk)
theorem word_neg (n : Nat) : wrap64 (IntKind.u64.wrap (-(n : Int))) = signed true n := by
  unfold signed
  rw [if_pos rfl]
  apply wrap64_congr
  have e : wrap64 (n : Int) = (n : Int) - 18446744073709551616 * (((n : Int) + 9223372036854775808) / 18446744073709551616) := by
    unfold wrap64; rw [Int.emod_def]; omega
  rw [u64wrap, Int.emod_emod, e]
  generalize ((n : Int) + 9223372036854775808) / 18446744073709551616 = k
  rw [show -((n : Int) - 18446744073709551616 * k) = -(n : Int) + 18446744073709551616 * k by omega, Int.add_mul_emod_self_left]
theorem word_pos (n : Nat) : wrap64 (n : Int) = signed false n := by simp [signed]
theorem str_cons (c : UInt8) (l : List UInt8) : (⟨#[c]⟩ : ByteArray) ++ ⟨l.toArray⟩ = ⟨(c :: l).toArray⟩ := str_append [c] l
theorem take_snoc' (s : ByteArray) (k : Nat) (h : k < s.size) : allDig (s.data.toList.take (k + 1)) = (allDig (s.data.toList.take k) && isDig (s[k]'h)) := by
  rw [List.take_succ_eq_append_getElem (by simpa using h), allDig_append]
  have e : (s.data.toList)[k]'(by simpa using h) = (s[k]'h) := rfl
  rw [e]; simp [allDig]
theorem allDig_drop {l : List UInt8} (h : allDig l = true) (k : Nat) : allDig (l.drop k) = true := by
  unfold allDig at *; rw [List.all_eq_true] at *; exact fun c hc => h c (List.mem_of_mem_drop hc)
theorem sub_byte {c : Nat} (hc : c < 256) : IntKind.u8.wrap ((c : Int) - 48) = (((c + 208) % 256 : Nat) : Int) := by
  simp [IntKind.wrap, IntKind.bits, IntKind.signed]; omega

set_option maxHeartbeats 4000000 in
theorem value_any (s : ByteArray) (w : World) (hs : s.size ≤ 1000) :
    Calls Tryz.prog 47 #[.string s] w fun e w' => e = .returned (.tuple #[.int .u64 (((valueGo 0 s.data.toList).1 : Nat) : Int), .bool (valueGo 0 s.data.toList).2]) ∧ Grew w w' := by
  go_enter Tryz.func47, Tryz.ntmps47
  go_wp2_with fail
  go_loopw [4, 5] (fun nv i wr => ∃ k n : Nat, k ≤ s.size ∧ n ≤ 10000000000000000255 ∧ valueGo n (s.data.toList.drop k) = valueGo 0 s.data.toList ∧ nv = .int .u64 (n : Int) ∧ i = .int .i64 (k : Int) ∧ Grew w wr) (fun _ i _ => s.size - (intOf i).toNat)
  case atStart => exact ⟨0, 0, Nat.zero_le _, by omega, rfl, rfl, rfl, Grew.refl _⟩
  case round =>
    obtain ⟨k, n, hk, hn, hrec, rfl, rfl, g⟩ := hrel
    have HREC := Lib.hid hrec
    clear hrec
    by_cases hlt : k < s.size
    · have HDR := Lib.hid (drop_at s k hlt)
      obtain ⟨c, hc⟩ : ∃ c, (s[k]'hlt).toNat = c := ⟨_, rfl⟩
      have hc256 : c < 256 := by rw [← hc]; exact UInt8.toNat_lt _
      have r1 := sub_byte hc256
      obtain ⟨v, hv⟩ : ∃ v, (c + 208) % 256 = v := ⟨_, rfl⟩
      rw [hv] at r1
      have hv256 : v ≤ 255 := by omega
      have HC := Lib.hid hc
      have HV := Lib.hid hv
      clear hv
      by_cases hbig : 1000000000000000000 < n
      · have HE := Lib.hid (show valueGo 0 s.data.toList = (0, false) by rw [← HREC.out, HDR.out, valueGo, if_pos hbig])
        go_wp2_with fail
        go_ret2
        exact ⟨by rw [HE.out]; rfl, g⟩
      · have HE := Lib.hid (show valueGo (10 * n + v) (s.data.toList.drop (k + 1)) = valueGo 0 s.data.toList by rw [← HREC.out, HDR.out, valueGo, if_neg hbig, HC.out, HV.out])
        go_wp2_with fail
        exact ⟨⟨k + 1, 10 * n + v, by omega, by omega, HE.out, by go_num, by go_num, g⟩, by simp [intOf]; omega⟩
    · have HE := Lib.hid (show valueGo 0 s.data.toList = (n, decide (n ≤ 9223372036854775808)) by
        rw [← HREC.out, List.drop_eq_nil_of_le (by rw [← Lib.size_eq]; omega)]; rfl)
      by_cases hb : n ≤ 9223372036854775808
      · have hb1 : decide ((n : Int) ≤ 9223372036854775808) = true := decide_eq_true (by omega)
        go_wp2_with fail
        go_ret2
        exact ⟨by rw [HE.out, decide_eq_true hb]; rfl, g⟩
      · have hb1 : decide ((n : Int) ≤ 9223372036854775808) = false := decide_eq_false (by omega)
        go_wp2_with fail
        go_ret2
        exact ⟨by rw [HE.out, decide_eq_false hb]; rfl, g⟩

set_option maxHeartbeats 4000000 in
theorem rdigits_any (s : ByteArray) (w : World) (hs : s.size ≤ 1000) :
    Calls Tryz.prog 48 #[.string s] w fun e w' => e = .returned (.bool (digitsR s.data.toList)) ∧ Grew w w' := by
  have hlen := Lib.size_eq s
  have HL := Lib.hid hlen
  clear hlen
  go_enter Tryz.func48, Tryz.ntmps48
  go_wp2_with fail
  go_loopw [3] (fun i wr => ∃ k : Nat, k ≤ s.size ∧ allDig (s.data.toList.take k) = true ∧ i = .int .i64 (k : Int) ∧ Grew w wr) (fun i _ => s.size - (intOf i).toNat)
  case atStart => exact ⟨0, Nat.zero_le _, rfl, rfl, Grew.refl _⟩
  case round =>
    obtain ⟨k, hk, hta, rfl, g⟩ := hrel
    have HT := Lib.hid hta
    clear hta
    by_cases hlt : k < s.size
    · have hsn := take_snoc' s k hlt
      obtain ⟨c, hc⟩ : ∃ c, (s[k]'hlt).toNat = c := ⟨_, rfl⟩
      have hc256 : c < 256 := by rw [← hc]; exact UInt8.toNat_lt _
      have HDG := Lib.hid (show isDig (s[k]'hlt) = decide (48 ≤ c ∧ c ≤ 57) by unfold isDig; rw [hc])
      have HSN := Lib.hid hsn
      clear hsn
      by_cases hd : 48 ≤ c ∧ c ≤ 57
      · have HN := Lib.hid (show allDig (s.data.toList.take (k + 1)) = true by rw [HSN.out, HT.out, HDG.out, decide_eq_true hd]; rfl)
        have h1 : ¬ ((c : Int) < 48) := by omega
        have h2 : ¬ ((57 : Int) < c) := by omega
        go_wp2_with fail
        exact ⟨⟨k + 1, by omega, HN.out, by go_num, g⟩, by simp [intOf]; omega⟩
      · have HN := Lib.hid (show digitsR s.data.toList = false by
          have h : allDig (s.data.toList.take (k + 1)) = false := by rw [HSN.out, HT.out, HDG.out, decide_eq_false hd]; rfl
          unfold digitsR
          cases ha : allDig s.data.toList with
          | false => rfl
          | true =>
            have : allDig (s.data.toList.take (k + 1)) = true := by
              unfold allDig at *; rw [List.all_eq_true] at *; exact fun c hc => ha c (List.mem_of_mem_take hc)
            rw [this] at h; cases h)
        by_cases h1 : (c : Int) < 48
        · clear hd
          go_wp2_with fail
          go_ret
          exact ⟨ret_bool (by rw [HN.out]), g⟩
        · have h2 : (57 : Int) < c := by omega
          clear hd
          go_wp2_with fail
          go_ret
          exact ⟨ret_bool (by rw [HN.out]), g⟩
    · have HN := Lib.hid (show digitsR s.data.toList = decide (0 < s.size) by
        have := HT.out
        rw [List.take_of_length_le (by rw [← HL.out]; omega)] at this
        unfold digitsR
        rw [this, ← HL.out, Bool.true_and])
      by_cases h0 : 0 < s.size
      · have h1 : decide ((0 : Int) < (s.size : Int)) = true := decide_eq_true (by omega)
        go_wp2_with fail
        go_ret
        exact ⟨ret_bool (by rw [HN.out]; simp [h0]), g⟩
      · have h1 : decide ((0 : Int) < (s.size : Int)) = false := decide_eq_false (by omega)
        go_wp2_with fail
        go_ret
        exact ⟨ret_bool (by rw [HN.out]; simp [h0]), g⟩

set_option maxHeartbeats 4000000 in
theorem doubled_any (s : ByteArray) (w : World) (hs : s.size ≤ 100) (hd : allDig s.data.toList = true) :
    Calls Tryz.prog 49 #[.string s] w fun e w' => e = .returned (.tuple #[.int .u64 (((dbl s.data.toList).1 : Nat) : Int), .string ⟨(dbl s.data.toList).2.toArray⟩]) ∧ Grew w w' := by
  have HD := Lib.hid hd
  clear hd
  go_enter Tryz.func49, Tryz.ntmps49
  go_wp2_with fail
  go_loopw [4, 5, 6] (fun o c i wr => ∃ k : Nat, k ≤ s.size ∧ o = .string ⟨(dbl (s.data.toList.drop k)).2.toArray⟩ ∧ c = .int .i64 (((dbl (s.data.toList.drop k)).1 : Nat) : Int) ∧ i = .int .i64 ((k : Int) - 1) ∧ Grew w wr) (fun _ _ i _ => (intOf i + 1).toNat)
  case atStart =>
    refine ⟨s.size, Nat.le_refl _, ?_, ?_, rfl, Grew.refl _⟩
    · rw [List.drop_eq_nil_of_le (by rw [← Lib.size_eq]; exact Nat.le_refl _)]; rfl
    · rw [List.drop_eq_nil_of_le (by rw [← Lib.size_eq]; exact Nat.le_refl _)]; rfl
  case round =>
    obtain ⟨k, hk, rfl, rfl, rfl, g⟩ := hrel
    cases k with
    | zero =>
      rw [List.drop_zero]
      obtain ⟨cr, o, he⟩ : ∃ cr o, dbl s.data.toList = (cr, o) := ⟨_, _, rfl⟩
      have hc1 : cr ≤ 1 := by have := (dbl_spec _ HD.out).1; rw [he] at this; exact this
      rw [he]
      have HE := Lib.hid he
      clear he
      go_wp2_with fail
      go_ret2
      exact ⟨by rw [HE.out]; rfl, g⟩
    | succ j =>
      have hlt : j < s.size := by omega
      have HDR := Lib.hid (drop_at s j hlt)
      have hdg := allDig_drop HD.out (j + 1)
      obtain ⟨hc1, hl1, _, _⟩ := dbl_spec _ hdg
      have hl2 : (dbl (s.data.toList.drop (j + 1))).2.length ≤ 100 := by rw [hl1, List.length_drop, ← Lib.size_eq]; omega
      obtain ⟨c, hc⟩ : ∃ c, (s[j]'hlt).toNat = c := ⟨_, rfl⟩
      have hcd : 48 ≤ c ∧ c ≤ 57 := by
        have hm : (s[j]'hlt) ∈ s.data.toList := by
          have e : (s[j]'hlt) = s.data.toList[j]'(by simpa using hlt) := rfl
          rw [e]; exact List.getElem_mem _
        have := List.all_eq_true.1 HD.out _ hm
        rw [isDig, hc] at this; simpa using this
      obtain ⟨cr, hcr⟩ : ∃ cr, (dbl (s.data.toList.drop (j + 1))).1 = cr := ⟨_, rfl⟩
      obtain ⟨o, ho⟩ : ∃ o, (dbl (s.data.toList.drop (j + 1))).2 = o := ⟨_, rfl⟩
      rw [hcr] at hc1 ⊢
      rw [ho] at hl2 ⊢
      have HE := Lib.hid (show dbl (s.data.toList.drop j) = ((2 * (c - 48) + cr) / 10, ch ((2 * (c - 48) + cr) % 10) :: o) by rw [HDR.out, dbl, hc, hcr, ho])
      have HM := Lib.hid (show (2 * ((c : Int) - 48) + (cr : Int)) % 10 = (((2 * (c - 48) + cr) % 10 : Nat) : Int) by omega)
      have HQ := Lib.hid (show (2 * ((c : Int) - 48) + (cr : Int)) / 10 = (((2 * (c - 48) + cr) / 10 : Nat) : Int) by omega)
      have HD1 := Lib.hid (show Lib.decDigits ((2 * (c - 48) + cr) % 10) = [ch ((2 * (c - 48) + cr) % 10)] from Lib.decDigits_one (by omega))
      obtain ⟨hcd1, hcd2⟩ := hcd
      clear hdg hl1 hcr ho
      go_wp2_with fail
      rw [HM.out]
      refine (unsigned_any ((2 * (c - 48) + cr) % 10) (by omega) _).mono ?_
      rintro e w1 ⟨rfl, g1⟩
      rw [HD1.out]
      go_wp2_with fail
      refine ⟨⟨j, by omega, ?_, ?_, ?_, g.trans g1⟩, by simp [intOf]⟩
      · rw [HE.out]; exact congrArg Value.string (str_append [_] o)
      · rw [HE.out, HQ.out]
      · congr 1

set_option maxHeartbeats 4000000 in
set_option maxRecDepth 100000 in
theorem rnumber_any (s : ByteArray) (w : World) (hs : s.size ≤ 1000) :
    Calls Tryz.prog 46 #[.string s] w fun e w' => e = .returned (.tuple #[.int .i64 (numR s.data.toList).1, .bool (numR s.data.toList).2]) ∧ Grew w w' := by
  obtain ⟨B, hB⟩ : ∃ B, bodyL s.data.toList = B := ⟨_, rfl⟩
  obtain ⟨n, ok, hV⟩ : ∃ n ok, valueGo 0 B = (n, ok) := ⟨_, _, rfl⟩
  obtain ⟨dg, hdg⟩ : ∃ dg, digitsR B = dg := ⟨_, rfl⟩
  have hn := valueGo_le B 0 (by omega)
  rw [hV] at hn
  have hn' : n ≤ 10000000000000000255 := hn
  clear hn
  have HV := Lib.hid hV
  have HDG := Lib.hid hdg
  clear hV hdg
  cases hng : negL s.data.toList with
  | true =>
    have hne : 0 < s.size := by
      rcases Nat.eq_zero_or_pos s.size with h | h
      · rw [Lib.size_eq] at h; rw [List.length_eq_zero_iff.1 h] at hng; cases hng
      · exact h
    have hbt : B = s.data.toList.drop 1 := by rw [← hB]; unfold bodyL; rw [hng, if_pos rfl]; simp
    have hs1 := str_drop s 1
    rw [← hbt] at hs1
    have hs0 : (s[0]'hne).toNat = 45 := by
      have e := drop_at s 0 hne
      rw [List.drop_zero] at e
      unfold negL at hng
      rw [e] at hng
      have : (s[0]'hne) = 45 := by simpa using hng
      rw [this]; rfl
    have hBl : B.length + 1 = s.size := by rw [hbt, List.length_drop, ← Lib.size_eq]; omega
    have HS1 := Lib.hid hs1
    have HB := Lib.hid hB
    clear hs1 hB hbt
    have HCN := Lib.hid (show candN s.data.toList = if (dg && ok && decide (B.length ≤ 19)) = false then (0, false) else (signed true n, true) by unfold candN; rw [HB.out, HDG.out, HV.out, hng])
    have HN := Lib.hid (show (dg && ok) = false → numR s.data.toList = (0, false) by
      intro h
      have : candN s.data.toList = (0, false) := by rw [HCN.out, h]; rfl
      unfold numR; rw [this]; rfl)
    clear hng
    go_enter Tryz.func46, Tryz.ntmps46
    go_wp2_with fail
    rw [HS1.out]
    refine (value_any ⟨B.toArray⟩ _ (by show B.toArray.size ≤ _; simp; omega)).mono ?_
    rintro e w1 ⟨rfl, g1⟩
    rw [show (⟨B.toArray⟩ : ByteArray).data.toList = B from rfl, HV.out]
    go_wp2_with fail
    refine (rdigits_any ⟨B.toArray⟩ _ (by show B.toArray.size ≤ _; simp; omega)).mono ?_
    rintro e w2 ⟨rfl, g2⟩
    rw [show (⟨B.toArray⟩ : ByteArray).data.toList = B from rfl, HDG.out]
    cases dg with
    | false =>
      go_wp2_with fail
      go_ret2
      exact ⟨by rw [HN.out rfl]; rfl, g1.trans g2⟩
    | true =>
      cases ok with
      | false =>
        go_wp2_with fail
        go_ret2
        exact ⟨by rw [HN.out rfl]; rfl, g1.trans g2⟩
      | true =>
        by_cases h19 : B.length ≤ 19
        · have HX := Lib.hid (show candN s.data.toList = (signed true n, true) by rw [HCN.out, decide_eq_true h19]; rfl)
          have hrx := candN_range s.data.toList
          rw [HX.out] at hrx
          obtain ⟨x, hx⟩ : ∃ x, signed true n = x := ⟨_, rfl⟩
          rw [hx] at hrx
          obtain ⟨hx0, hx1⟩ : -9223372036854775808 ≤ x ∧ x ≤ 9223372036854775807 := hrx
          have HSX := Lib.hid (show wrap64 (IntKind.u64.wrap (-(n : Int))) = x by rw [← hx]; exact word_neg n)
          have HNX := Lib.hid (show numR s.data.toList = if Lib.itoa x = s.data.toList then (x, true) else (0, false) by unfold numR; rw [HX.out, hx]; simp)
          clear hx
          go_wp2_with fail
          rw [HSX.out]
          refine (decimal_any x _ hx0 hx1).mono ?_
          rintro e w3 ⟨rfl, g3⟩
          go_wp2_with fail
          · have hne : ¬ Lib.itoa x = s.data.toList := by
              have h : (!Lib.itoa x == s.toList) = true := by assumption
              rw [Lib.toList_data] at h
              simpa using h
            go_ret2
            exact ⟨by rw [HNX.out, if_neg hne]; rfl, (g1.trans g2).trans g3⟩
          · have he : Lib.itoa x = s.data.toList := by
              have h : (!Lib.itoa x == s.toList) = false := by assumption
              rw [Lib.toList_data] at h
              simpa using h
            go_ret2
            exact ⟨by rw [HNX.out, if_pos he]; rfl, (g1.trans g2).trans g3⟩
        · have HX := Lib.hid (show numR s.data.toList = (0, false) by
            have : candN s.data.toList = (0, false) := by rw [HCN.out, decide_eq_false h19]; rfl
            unfold numR; rw [this]; rfl)
          go_wp2_with fail
          go_ret2
          exact ⟨by rw [HX.out]; rfl, g1.trans g2⟩
  | false =>
    have hbt : s.data.toList = B := by rw [← hB]; unfold bodyL; rw [hng]; simp
    have hBl : B.length = s.size := by rw [← hbt, Lib.size_eq]
    have HCN := Lib.hid (show candN s.data.toList = if (dg && ok && decide (s.size ≤ 19)) = false then (0, false) else (signed false n, true) by unfold candN; rw [hB, HDG.out, HV.out, hng, ← hBl])
    have HN := Lib.hid (show (dg && ok) = false → numR s.data.toList = (0, false) by
      intro h
      have : candN s.data.toList = (0, false) := by rw [HCN.out, h]; rfl
      unfold numR; rw [this]; rfl)
    have HL := Lib.hid hbt
    have HNG := Lib.hid hng
    clear hng hB hbt hBl
    by_cases hz : 0 < s.size
    · obtain ⟨c, hc⟩ : ∃ c, (s[0]'hz).toNat = c := ⟨_, rfl⟩
      have hc45 : ((c : Int) == 45) = false := by
        rw [beq_eq_false_iff_ne]
        intro h45
        have e := drop_at s 0 hz
        rw [List.drop_zero] at e
        have hng := HNG.out
        unfold negL at hng
        rw [e] at hng
        have : ¬ (s[0]'hz) = 45 := by simpa using hng
        exact this (UInt8.toNat_inj.1 (by rw [hc]; show c = 45; omega))
      go_enter Tryz.func46, Tryz.ntmps46
      go_wp2_with fail
      refine (value_any s _ hs).mono ?_
      rintro e w1 ⟨rfl, g1⟩
      rw [HL.out, HV.out]
      go_wp2_with fail
      refine (rdigits_any s _ hs).mono ?_
      rintro e w2 ⟨rfl, g2⟩
      rw [HL.out, HDG.out]
      cases dg with
      | false =>
        go_wp2_with fail
        go_ret2
        exact ⟨by rw [HN.out rfl]; rfl, g1.trans g2⟩
      | true =>
        cases ok with
        | false =>
          go_wp2_with fail
          go_ret2
          exact ⟨by rw [HN.out rfl]; rfl, g1.trans g2⟩
        | true =>
          by_cases h19 : s.size ≤ 19
          · have HX := Lib.hid (show candN s.data.toList = (signed false n, true) by rw [HCN.out, decide_eq_true h19]; rfl)
            have hrx := candN_range s.data.toList
            rw [HX.out] at hrx
            obtain ⟨x, hx⟩ : ∃ x, signed false n = x := ⟨_, rfl⟩
            rw [hx] at hrx
            obtain ⟨hx0, hx1⟩ : -9223372036854775808 ≤ x ∧ x ≤ 9223372036854775807 := hrx
            have HSX := Lib.hid (show wrap64 (n : Int) = x by rw [← hx]; exact word_pos n)
            have HNX := Lib.hid (show numR s.data.toList = if Lib.itoa x = s.data.toList then (x, true) else (0, false) by unfold numR; rw [HX.out, hx]; simp)
            clear hx
            go_wp2_with fail
            rw [HSX.out]
            refine (decimal_any x _ hx0 hx1).mono ?_
            rintro e w3 ⟨rfl, g3⟩
            go_wp2_with fail
            · have hne : ¬ Lib.itoa x = s.data.toList := by
                have h : (!Lib.itoa x == s.toList) = true := by assumption
                rw [Lib.toList_data] at h
                simpa using h
              go_ret2
              exact ⟨by rw [HNX.out, if_neg hne]; rfl, (g1.trans g2).trans g3⟩
            · have he : Lib.itoa x = s.data.toList := by
                have h : (!Lib.itoa x == s.toList) = false := by assumption
                rw [Lib.toList_data] at h
                simpa using h
              go_ret2
              exact ⟨by rw [HNX.out, if_pos he]; rfl, (g1.trans g2).trans g3⟩
          · have HX := Lib.hid (show numR s.data.toList = (0, false) by
              have : candN s.data.toList = (0, false) := by rw [HCN.out, decide_eq_false h19]; rfl
              unfold numR; rw [this]; rfl)
            go_wp2_with fail
            go_ret2
            exact ⟨by rw [HX.out]; rfl, g1.trans g2⟩
    · go_enter Tryz.func46, Tryz.ntmps46
      go_wp2_with fail
      refine (value_any s _ hs).mono ?_
      rintro e w1 ⟨rfl, g1⟩
      rw [HL.out, HV.out]
      go_wp2_with fail
      refine (rdigits_any s _ hs).mono ?_
      rintro e w2 ⟨rfl, g2⟩
      rw [HL.out, HDG.out]
      cases dg with
      | false =>
        go_wp2_with fail
        go_ret2
        exact ⟨by rw [HN.out rfl]; rfl, g1.trans g2⟩
      | true =>
        cases ok with
        | false =>
          go_wp2_with fail
          go_ret2
          exact ⟨by rw [HN.out rfl]; rfl, g1.trans g2⟩
        | true =>
          by_cases h19 : s.size ≤ 19
          · have HX := Lib.hid (show candN s.data.toList = (signed false n, true) by rw [HCN.out, decide_eq_true h19]; rfl)
            have hrx := candN_range s.data.toList
            rw [HX.out] at hrx
            obtain ⟨x, hx⟩ : ∃ x, signed false n = x := ⟨_, rfl⟩
            rw [hx] at hrx
            obtain ⟨hx0, hx1⟩ : -9223372036854775808 ≤ x ∧ x ≤ 9223372036854775807 := hrx
            have HSX := Lib.hid (show wrap64 (n : Int) = x by rw [← hx]; exact word_pos n)
            have HNX := Lib.hid (show numR s.data.toList = if Lib.itoa x = s.data.toList then (x, true) else (0, false) by unfold numR; rw [HX.out, hx]; simp)
            clear hx
            go_wp2_with fail
            rw [HSX.out]
            refine (decimal_any x _ hx0 hx1).mono ?_
            rintro e w3 ⟨rfl, g3⟩
            go_wp2_with fail
            · have hne : ¬ Lib.itoa x = s.data.toList := by
                have h : (!Lib.itoa x == s.toList) = true := by assumption
                rw [Lib.toList_data] at h
                simpa using h
              go_ret2
              exact ⟨by rw [HNX.out, if_neg hne]; rfl, (g1.trans g2).trans g3⟩
            · have he : Lib.itoa x = s.data.toList := by
                have h : (!Lib.itoa x == s.toList) = false := by assumption
                rw [Lib.toList_data] at h
                simpa using h
              go_ret2
              exact ⟨by rw [HNX.out, if_pos he]; rfl, (g1.trans g2).trans g3⟩
          · exact absurd h19 (by omega)
end Go.Proofs.YthcahpgandappaaGreatDoor
