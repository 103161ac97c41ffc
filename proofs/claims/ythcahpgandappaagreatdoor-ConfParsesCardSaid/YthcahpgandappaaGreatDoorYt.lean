/- The reference's Parse: the number with a text, or none. Conditions: the string is no longer than 300 bytes; the other argument is within its bounds. -/
import Derived.Test.YthcahpgandappaaGreatDoorYs
import Derived.Deep.CutBlock
import Derived.Deep.DeepCutAuto
namespace Go.Proofs.YthcahpgandappaaGreatDoor
open Go.RowKit
set_option linter.unusedVariables false

theorem rbody_len (l : List UInt8) : (bodyL l).length ≤ l.length := by unfold bodyL; split <;> simp
theorem head_at {l : List UInt8} {k : Nat} {c : UInt8} {r : List UInt8} (hpre : ∀ x ∈ l.take k, x ≠ 46) (hd : l.drop k = c :: r) (hc : c = 46) : (headL l).length = k := by
  have e : l = l.take k ++ (c :: r) := by rw [← hd, List.take_append_drop]
  have hk : (l.take k).length = k := by
    rw [List.length_take]
    have : k < l.length := by
      rcases Nat.lt_or_ge k l.length with h | h
      · exact h
      · rw [List.drop_eq_nil_of_le h] at hd; cases hd
    omega
  have h1 : headL l = l.take k := by
    have h2 : headL (l.take k ++ (c :: r)) = l.take k := by
      unfold headL
      rw [List.takeWhile_append_of_pos (fun x hx => by simpa using hpre x hx), hc]
      simp
    rw [← e] at h2; exact h2
  rw [h1, hk]
theorem head_all {l : List UInt8} (hpre : ∀ x ∈ l, x ≠ 46) : headL l = l ∧ hasPoint l = false := by
  constructor
  · unfold headL
    have h := List.takeWhile_append_of_pos (p := fun c : UInt8 => c != 46) (l₁ := l) (l₂ := []) (fun x hx => by simpa using hpre x hx)
    simpa using h
  · unfold hasPoint
    rw [List.any_eq_false]
    intro x hx; simpa using hpre x hx
theorem head_take (l : List UInt8) : headL l = l.take (headL l).length ∧ tailL l = l.drop ((headL l).length + 1) ∧ (hasPoint l = decide ((headL l).length < l.length)) ∧ (headL l).length ≤ l.length := by
  rcases index_point l with ⟨h1, _, h3, h4⟩ | ⟨h1, _, h3, h4, h5⟩
  · rw [h1, h3, h4]
    refine ⟨by simp, by simp, by simp, Nat.le_refl _⟩
  · exact ⟨h3, h4, by rw [h1, decide_eq_true (by omega)], by omega⟩

set_option maxHeartbeats 4000000 in
set_option maxRecDepth 1000000 in
theorem rparse_yes (s : ByteArray) (q : Nat) (w : World) (hq : q ≤ 62) (hs : s.size ≤ 100) :
    Calls Tryz.prog 24 #[.string s, .int .i64 (q : Int)] w fun e w' => e = .returned (.tuple #[.int .i64 (parseR s.data.toList q).1, .bool (parseR s.data.toList q).2]) ∧ Grew w w' := by
  obtain ⟨L, hL⟩ : ∃ L, s.data.toList = L := ⟨_, rfl⟩
  rw [hL]
  obtain ⟨B, hB⟩ : ∃ B, bodyL L = B := ⟨_, rfl⟩
  obtain ⟨ng, hng⟩ : ∃ ng, negL L = ng := ⟨_, rfl⟩
  obtain ⟨t, ht⟩ : ∃ t : ByteArray, (⟨B.toArray⟩ : ByteArray) = t := ⟨_, rfl⟩
  have htl : t.data.toList = B := by rw [← ht]
  have htz : t.size = B.length := by rw [Lib.size_eq, htl]
  have hsz : s.size = L.length := by rw [Lib.size_eq, hL]
  obtain ⟨k1, k2, k3, k4⟩ := head_take B
  obtain ⟨K, hK⟩ : ∃ K, (headL B).length = K := ⟨_, rfl⟩
  rw [hK] at k1 k2 k3 k4
  have hKt : K ≤ t.size := by omega
  obtain ⟨n0, ok, hV⟩ : ∃ n0 ok, valueGo 0 (headL B) = (n0, ok) := ⟨_, _, rfl⟩
  obtain ⟨dh, hdh⟩ : ∃ dh, digitsR (headL B) = dh := ⟨_, rfl⟩
  obtain ⟨dt, hdt⟩ : ∃ dt, digitsR (tailL B) = dt := ⟨_, rfl⟩
  obtain ⟨hp, hhp⟩ : ∃ hp, hasPoint B = hp := ⟨_, rfl⟩
  have hn0 := valueGo_le (headL B) 0 (by omega)
  rw [hV] at hn0
  have hn0' : n0 ≤ 10000000000000000255 := hn0
  clear hn0
  rw [hhp, ← htz] at k3
  have HC := Lib.hid (show candR L q = if (dh && ok && (!hp || dt)) = false then (0, false) else (signed ng (iterD q n0 (tailL B)).1, true) by
    unfold candR
    rw [if_neg (by omega), hB, hng, hhp, hdh, hdt, hV])
  have HPT := Lib.hid (show hp = false → tailL B = [] by
    intro h
    rcases index_point B with ⟨_, _, _, h4⟩ | ⟨h1, _⟩
    · exact h4
    · rw [hhp, h] at h1; cases h1)
  have hq0 : ¬ (q : Int) < 0 := by omega
  have hq62 : ¬ (62 : Int) < q := by omega
  have HH := Lib.hid (show t.extract 0 K = ⟨(headL B).toArray⟩ by rw [str_take, htl, ← k1])
  have HTA := Lib.hid (show t.extract (K + 1) t.size = ⟨(tailL B).toArray⟩ by rw [str_drop, htl, ← k2])
  have HHP := Lib.hid k3
  have HK := Lib.hid hK
  have HTL := Lib.hid htl
  have HTZ := Lib.hid htz
  have HV := Lib.hid hV
  have HDH := Lib.hid hdh
  have HDT := Lib.hid hdt
  have HHL := Lib.hid (show (headL B).length ≤ 100 ∧ (tailL B).length ≤ 100 by
    have h1 := rbody_len L
    rw [hB] at h1
    refine ⟨by omega, ?_⟩
    rw [k2, List.length_drop]; omega)
  clear hdh hdt hhp k1 k2 k3 k4 hV hK htz
  cases ng with
  | true =>
    have hne : 0 < s.size := by
      rcases Nat.eq_zero_or_pos s.size with h | h
      · rw [hsz] at h; rw [List.length_eq_zero_iff.1 h] at hng; cases hng
      · exact h
    have hbt : B = s.data.toList.drop 1 := by rw [← hB, hL]; unfold bodyL; rw [hng, if_pos rfl]; simp
    have hs1 := str_drop s 1
    rw [← hbt, ht] at hs1
    have hs0 : (s[0]'hne).toNat = 45 := by
      have e := drop_at s 0 hne
      rw [List.drop_zero, hL] at e
      unfold negL at hng
      rw [e] at hng
      have : (s[0]'hne) = 45 := by simpa using hng
      rw [this]; rfl
    have hlt1 : t.size < s.size := by have := HTZ.out; rw [this, hbt, List.length_drop, ← Lib.size_eq]; omega
    have HS1 := Lib.hid hs1
    have HB := Lib.hid hB
    have HL := Lib.hid hL
    have hts : t.size ≤ 100 := by omega
    clear hs1 hB hbt hL htl hng hsz ht
    go_enter Tryz.func24, Tryz.ntmps24
    go_upto_block 0 with (fail)
    rw [HS1.out]
    clear hs0
    go_cut [7] (fun a wx => a = .int .i64 (K : Int) ∧ wx = w)
    case first =>
      go_wp2_with fail
      go_loop [7] (fun a => ∃ k : Nat, k ≤ t.size ∧ a = .int .i64 (k : Int) ∧ ∀ x ∈ B.take k, x ≠ 46) (fun a => t.size - (intOf a).toNat)
      case atStart => exact ⟨0, Nat.zero_le _, rfl, by simp⟩
      case round =>
        obtain ⟨k, hk, rfl, hpre⟩ := hrel
        have HPRE := Lib.hid hpre
        clear hpre
        by_cases hlt : k < t.size
        · have hdr := drop_at t k hlt
          rw [HTL.out] at hdr
          have HDR := Lib.hid hdr
          have HTK := Lib.hid (show B.take (k + 1) = B.take k ++ [t[k]'hlt] by
            rw [← HTL.out, List.take_succ_eq_append_getElem (by simpa using hlt)]; rfl)
          obtain ⟨c, hc⟩ : ∃ c, (t[k]'hlt).toNat = c := ⟨_, rfl⟩
          have HCC := Lib.hid hc
          clear hdr
          by_cases h46 : c = 46
          · have hb : ((c : Int) != 46) = false := by simp [h46]
            have HKK := Lib.hid (show k = K by
              rw [← HK.out]
              exact (head_at HPRE.out HDR.out (UInt8.toNat_inj.1 (by rw [HCC.out, h46]; rfl))).symm)
            clear h46
            go_wp2_with fail
            go_meet
            case rel => exact ⟨by rw [HKK.out], rfl⟩
          · have hb : ((c : Int) != 46) = true := by rw [bne_iff_ne]; omega
            have HN := Lib.hid (show ∀ x ∈ B.take (k + 1), x ≠ 46 by
              intro x hx
              rw [HTK.out] at hx
              rcases List.mem_append.1 hx with h | h
              · exact HPRE.out x h
              · have : x = t[k]'hlt := by simpa using h
                intro h2
                apply h46
                rw [← HCC.out, ← this, h2]; rfl)
            clear h46
            go_wp2_with fail
            exact ⟨⟨k + 1, by omega, by go_num, HN.out⟩, by simp [intOf]; omega⟩
        · have HKK := Lib.hid (show k = K by
            have h := HPRE.out
            rw [List.take_of_length_le (by rw [← HTZ.out]; omega)] at h
            have := (head_all h).1
            rw [← HK.out, this, ← HTZ.out]; omega)
          go_wp2_with fail
          go_meet
          case rel => exact ⟨by rw [HKK.out], rfl⟩
    case rest =>
      obtain ⟨rfl, hw⟩ := hcut
      obtain rfl := hw.symm
      clear hw
      go_wp2_with fail
      rw [HH.out]
      refine (value_any ⟨(headL B).toArray⟩ _ (by have := HHL.out.1; show (headL B).toArray.size ≤ _; simp; omega)).mono ?_
      rintro e w2 ⟨rfl, g2⟩
      rw [show (⟨(headL B).toArray⟩ : ByteArray).data.toList = headL B from rfl, HV.out]
      go_upto_if 58 with (fail)
      go_cut [10] (fun pv wx => pv = .string ⟨(tailL B).toArray⟩ ∧ wx = w2)
      case first =>
        by_cases hKs : K < t.size
        · go_wp2_with fail
          go_meet
          case rel => exact ⟨by rw [HTA.out], rfl⟩
        · have HPN := Lib.hid (show tailL B = [] from HPT.out (by rw [HHP.out, decide_eq_false hKs]))
          go_wp2_with fail
          go_meet
          case rel => exact ⟨by rw [HPN.out], rfl⟩
      case rest =>
        obtain ⟨rfl, rfl⟩ := hcut
        go_wp2_with fail
        rw [HH.out]
        refine (rdigits_any ⟨(headL B).toArray⟩ _ (by have := HHL.out.1; show (headL B).toArray.size ≤ _; simp; omega)).mono ?_
        rintro e w3 ⟨rfl, g3⟩
        rw [show (⟨(headL B).toArray⟩ : ByteArray).data.toList = headL B from rfl, HDH.out]
        cases dh with
        | false =>
          have HN := Lib.hid (show parseR L q = (0, false) by
            have : candR L q = (0, false) := by rw [HC.out]; rfl
            unfold parseR; rw [this]; rfl)
          go_wp2_with fail
          go_ret2
          exact ⟨by rw [HN.out]; rfl, g2.trans g3⟩
        | true =>
          cases ok with
          | false =>
            have HN := Lib.hid (show parseR L q = (0, false) by
              have : candR L q = (0, false) := by rw [HC.out]; rfl
              unfold parseR; rw [this]; rfl)
            go_wp2_with fail
            go_ret2
            exact ⟨by rw [HN.out]; rfl, g2.trans g3⟩
          | true =>
            cases hp with
            | false =>
              have hKn : ¬ K < t.size := by have := HHP.out; simpa using this
              have HAD := Lib.hid (show allDig (tailL B) = true by rw [HPT.out rfl]; rfl)
              have HNO := Lib.hid HC.out

              go_wp2_with fail
              go_loopw [8, 10, 11] (fun nv pv i wr => ∃ k : Nat, k ≤ q ∧ nv = .int .u64 (((iterD k n0 (tailL B)).1 : Nat) : Int) ∧ pv = .string ⟨(iterD k n0 (tailL B)).2.toArray⟩ ∧ i = .int .i64 (k : Int) ∧ Grew w wr) (fun _ _ i _ => q - (intOf i).toNat)
              case atStart => exact ⟨0, Nat.zero_le _, rfl, rfl, rfl, g2.trans g3⟩
              case round =>
                obtain ⟨k, hk, rfl, rfl, rfl, g⟩ := hrel
                obtain ⟨hi1, hi2⟩ := iterD_dig n0 (tailL B) HAD.out k
                have hi3 := iterD_lt n0 (tailL B) (by omega) k
                obtain ⟨m, P, hI⟩ : ∃ m P, iterD k n0 (tailL B) = (m, P) := ⟨_, _, rfl⟩
                rw [hI] at hi1 hi2 hi3 ⊢
                have hm64 : m < 18446744073709551616 := hi3
                have HPD := Lib.hid (show allDig P = true from hi1)
                have HPL := Lib.hid (show P.length ≤ 100 by have := HHL.out.2; have h : P.length = (tailL B).length := hi2; omega)
                have HI := Lib.hid hI
                clear hi1 hi2 hi3 hI
                by_cases hlt : k < q
                · obtain ⟨bit, P2, hDb⟩ : ∃ bit P2, dbl P = (bit, P2) := ⟨_, _, rfl⟩
                  have hbit : bit ≤ 1 := by have := (dbl_spec _ HPD.out).1; rw [hDb] at this; exact this
                  obtain ⟨M2, hM2⟩ : ∃ M2, 2 * m % 18446744073709551616 = M2 := ⟨_, rfl⟩
                  obtain ⟨M3, hM3⟩ : ∃ M3, (2 * m + bit) % 18446744073709551616 = M3 := ⟨_, rfl⟩
                  have r1 : IntKind.u64.wrap (2 * (m : Int)) = (M2 : Int) := by rw [u64wrap]; omega
                  have r2 : IntKind.u64.wrap ((M2 : Int) + (bit : Int)) = (M3 : Int) := by
                    rw [u64wrap, ← hM2, ← hM3, Int.natCast_emod, Int.natCast_emod, Int.natCast_add]
                    exact Int.emod_add_emod _ _ _
                  have HNX := Lib.hid (show iterD (k + 1) n0 (tailL B) = (M3, P2) by rw [iterD, HI.out, hDb, hM3])
                  have HDB := Lib.hid hDb
                  clear hM2 hM3 hDb hm64 hbit
                  go_wp2_with fail
                  refine (doubled_any ⟨P.toArray⟩ _ (by show P.toArray.size ≤ _; simpa using HPL.out) HPD.out).mono ?_
                  rintro e w5 ⟨rfl, g5⟩
                  rw [show (⟨P.toArray⟩ : ByteArray).data.toList = P from rfl, HDB.out]
                  go_wp2_with fail
                  exact ⟨⟨k + 1, by omega, by rw [HNX.out], by rw [HNX.out], by go_num, g.trans g5⟩, by simp [intOf]; omega⟩
                · obtain rfl : k = q := by omega
                  obtain ⟨x, hx⟩ : ∃ x, signed true m = x := ⟨_, rfl⟩
                  have hrx := signed_range true m
                  rw [hx] at hrx
                  obtain ⟨hx0, hx1⟩ := hrx
                  have HSX := Lib.hid (show wrap64 (IntKind.u64.wrap (-(m : Int))) = x by rw [← hx]; exact word_neg m)
                  have HCX := Lib.hid (show candR L k = (x, true) by rw [HNO.out, HI.out, hx]; rfl)
                  have HNX := Lib.hid (show parseR L k = if textL x k = L then (x, true) else (0, false) by unfold parseR; rw [HCX.out]; simp)
                  clear hx hm64
                  go_wp2_with fail
                  rw [HSX.out]
                  refine (rtext_yes x k _ hq hx0 hx1).mono ?_
                  rintro e w6 ⟨rfl, g6⟩
                  go_wp2_with fail
                  · have hne : ¬ textL x k = L := by
                      have h : (!textL x k == s.toList) = true := by assumption
                      rw [Lib.toList_data, HL.out] at h
                      simpa using h
                    go_ret2
                    exact ⟨by rw [HNX.out, if_neg hne]; rfl, g.trans g6⟩
                  · have he : textL x k = L := by
                      have h : (!textL x k == s.toList) = false := by assumption
                      rw [Lib.toList_data, HL.out] at h
                      simpa using h
                    go_ret2
                    exact ⟨by rw [HNX.out, if_pos he]; rfl, g.trans g6⟩
            | true =>
              have hKn : K < t.size := by have := HHP.out; simpa using this
              go_wp2_with fail
              refine (rdigits_any ⟨(tailL B).toArray⟩ _ (by have := HHL.out.2; show (tailL B).toArray.size ≤ _; simp; omega)).mono ?_
              rintro e w4 ⟨rfl, g4⟩
              rw [show (⟨(tailL B).toArray⟩ : ByteArray).data.toList = tailL B from rfl, HDT.out]
              cases dt with
              | false =>
                have HN := Lib.hid (show parseR L q = (0, false) by
                  have : candR L q = (0, false) := by rw [HC.out]; rfl
                  unfold parseR; rw [this]; rfl)
                go_wp2_with fail
                go_ret2
                exact ⟨by rw [HN.out]; rfl, (g2.trans g3).trans g4⟩
              | true =>
                have HAD := Lib.hid (show allDig (tailL B) = true by have := HDT.out; unfold digitsR at this; simp at this; exact this.1)
                have HNO := Lib.hid HC.out

                go_wp2_with fail
                go_loopw [8, 10, 11] (fun nv pv i wr => ∃ k : Nat, k ≤ q ∧ nv = .int .u64 (((iterD k n0 (tailL B)).1 : Nat) : Int) ∧ pv = .string ⟨(iterD k n0 (tailL B)).2.toArray⟩ ∧ i = .int .i64 (k : Int) ∧ Grew w wr) (fun _ _ i _ => q - (intOf i).toNat)
                case atStart => exact ⟨0, Nat.zero_le _, rfl, rfl, rfl, (g2.trans g3).trans g4⟩
                case round =>
                  obtain ⟨k, hk, rfl, rfl, rfl, g⟩ := hrel
                  obtain ⟨hi1, hi2⟩ := iterD_dig n0 (tailL B) HAD.out k
                  have hi3 := iterD_lt n0 (tailL B) (by omega) k
                  obtain ⟨m, P, hI⟩ : ∃ m P, iterD k n0 (tailL B) = (m, P) := ⟨_, _, rfl⟩
                  rw [hI] at hi1 hi2 hi3 ⊢
                  have hm64 : m < 18446744073709551616 := hi3
                  have HPD := Lib.hid (show allDig P = true from hi1)
                  have HPL := Lib.hid (show P.length ≤ 100 by have := HHL.out.2; have h : P.length = (tailL B).length := hi2; omega)
                  have HI := Lib.hid hI
                  clear hi1 hi2 hi3 hI
                  by_cases hlt : k < q
                  · obtain ⟨bit, P2, hDb⟩ : ∃ bit P2, dbl P = (bit, P2) := ⟨_, _, rfl⟩
                    have hbit : bit ≤ 1 := by have := (dbl_spec _ HPD.out).1; rw [hDb] at this; exact this
                    obtain ⟨M2, hM2⟩ : ∃ M2, 2 * m % 18446744073709551616 = M2 := ⟨_, rfl⟩
                    obtain ⟨M3, hM3⟩ : ∃ M3, (2 * m + bit) % 18446744073709551616 = M3 := ⟨_, rfl⟩
                    have r1 : IntKind.u64.wrap (2 * (m : Int)) = (M2 : Int) := by rw [u64wrap]; omega
                    have r2 : IntKind.u64.wrap ((M2 : Int) + (bit : Int)) = (M3 : Int) := by
                      rw [u64wrap, ← hM2, ← hM3, Int.natCast_emod, Int.natCast_emod, Int.natCast_add]
                      exact Int.emod_add_emod _ _ _
                    have HNX := Lib.hid (show iterD (k + 1) n0 (tailL B) = (M3, P2) by rw [iterD, HI.out, hDb, hM3])
                    have HDB := Lib.hid hDb
                    clear hM2 hM3 hDb hm64 hbit
                    go_wp2_with fail
                    refine (doubled_any ⟨P.toArray⟩ _ (by show P.toArray.size ≤ _; simpa using HPL.out) HPD.out).mono ?_
                    rintro e w5 ⟨rfl, g5⟩
                    rw [show (⟨P.toArray⟩ : ByteArray).data.toList = P from rfl, HDB.out]
                    go_wp2_with fail
                    exact ⟨⟨k + 1, by omega, by rw [HNX.out], by rw [HNX.out], by go_num, g.trans g5⟩, by simp [intOf]; omega⟩
                  · obtain rfl : k = q := by omega
                    obtain ⟨x, hx⟩ : ∃ x, signed true m = x := ⟨_, rfl⟩
                    have hrx := signed_range true m
                    rw [hx] at hrx
                    obtain ⟨hx0, hx1⟩ := hrx
                    have HSX := Lib.hid (show wrap64 (IntKind.u64.wrap (-(m : Int))) = x by rw [← hx]; exact word_neg m)
                    have HCX := Lib.hid (show candR L k = (x, true) by rw [HNO.out, HI.out, hx]; rfl)
                    have HNX := Lib.hid (show parseR L k = if textL x k = L then (x, true) else (0, false) by unfold parseR; rw [HCX.out]; simp)
                    clear hx hm64
                    go_wp2_with fail
                    rw [HSX.out]
                    refine (rtext_yes x k _ hq hx0 hx1).mono ?_
                    rintro e w6 ⟨rfl, g6⟩
                    go_wp2_with fail
                    · have hne : ¬ textL x k = L := by
                        have h : (!textL x k == s.toList) = true := by assumption
                        rw [Lib.toList_data, HL.out] at h
                        simpa using h
                      go_ret2
                      exact ⟨by rw [HNX.out, if_neg hne]; rfl, g.trans g6⟩
                    · have he : textL x k = L := by
                        have h : (!textL x k == s.toList) = false := by assumption
                        rw [Lib.toList_data, HL.out] at h
                        simpa using h
                      go_ret2
                      exact ⟨by rw [HNX.out, if_pos he]; rfl, g.trans g6⟩
  | false =>
    have hbt : L = B := by rw [← hB]; unfold bodyL; rw [hng]; simp
    obtain rfl : t = s := by rw [← ht, ← hbt, ← hL, Lib.mk_data]
    have hts : t.size ≤ 100 := hs
    have HL := Lib.hid hL
    have HNG := Lib.hid hng
    clear hB hbt hL htl hng hsz ht
    by_cases hz : 0 < t.size
    · obtain ⟨c, hc⟩ : ∃ c, (t[0]'hz).toNat = c := ⟨_, rfl⟩
      have hc45 : ((c : Int) == 45) = false := by
        rw [beq_eq_false_iff_ne]
        intro h45
        have e := drop_at t 0 hz
        rw [List.drop_zero, HL.out] at e
        have hng := HNG.out
        unfold negL at hng
        rw [e] at hng
        have : ¬ (t[0]'hz) = 45 := by simpa using hng
        exact this (UInt8.toNat_inj.1 (by rw [hc]; show c = 45; omega))
      go_enter Tryz.func24, Tryz.ntmps24
      go_upto_block 0 with (fail)
      clear hc45 hc
      go_cut [7] (fun a wx => a = .int .i64 (K : Int) ∧ wx = w)
      case first =>
        go_wp2_with fail
        go_loop [7] (fun a => ∃ k : Nat, k ≤ t.size ∧ a = .int .i64 (k : Int) ∧ ∀ x ∈ B.take k, x ≠ 46) (fun a => t.size - (intOf a).toNat)
        case atStart => exact ⟨0, Nat.zero_le _, rfl, by simp⟩
        case round =>
          obtain ⟨k, hk, rfl, hpre⟩ := hrel
          have HPRE := Lib.hid hpre
          clear hpre
          by_cases hlt : k < t.size
          · have hdr := drop_at t k hlt
            rw [HTL.out] at hdr
            have HDR := Lib.hid hdr
            have HTK := Lib.hid (show B.take (k + 1) = B.take k ++ [t[k]'hlt] by
              rw [← HTL.out, List.take_succ_eq_append_getElem (by simpa using hlt)]; rfl)
            obtain ⟨c, hc⟩ : ∃ c, (t[k]'hlt).toNat = c := ⟨_, rfl⟩
            have HCC := Lib.hid hc
            clear hdr
            by_cases h46 : c = 46
            · have hb : ((c : Int) != 46) = false := by simp [h46]
              have HKK := Lib.hid (show k = K by
                rw [← HK.out]
                exact (head_at HPRE.out HDR.out (UInt8.toNat_inj.1 (by rw [HCC.out, h46]; rfl))).symm)
              clear h46
              go_wp2_with fail
              go_meet
              case rel => exact ⟨by rw [HKK.out], rfl⟩
            · have hb : ((c : Int) != 46) = true := by rw [bne_iff_ne]; omega
              have HN := Lib.hid (show ∀ x ∈ B.take (k + 1), x ≠ 46 by
                intro x hx
                rw [HTK.out] at hx
                rcases List.mem_append.1 hx with h | h
                · exact HPRE.out x h
                · have : x = t[k]'hlt := by simpa using h
                  intro h2
                  apply h46
                  rw [← HCC.out, ← this, h2]; rfl)
              clear h46
              go_wp2_with fail
              exact ⟨⟨k + 1, by omega, by go_num, HN.out⟩, by simp [intOf]; omega⟩
          · have HKK := Lib.hid (show k = K by
              have h := HPRE.out
              rw [List.take_of_length_le (by rw [← HTZ.out]; omega)] at h
              have := (head_all h).1
              rw [← HK.out, this, ← HTZ.out]; omega)
            go_wp2_with fail
            go_meet
            case rel => exact ⟨by rw [HKK.out], rfl⟩
      case rest =>
        obtain ⟨rfl, hw⟩ := hcut
        obtain rfl := hw.symm
        clear hw
        go_wp2_with fail
        rw [HH.out]
        refine (value_any ⟨(headL B).toArray⟩ _ (by have := HHL.out.1; show (headL B).toArray.size ≤ _; simp; omega)).mono ?_
        rintro e w2 ⟨rfl, g2⟩
        rw [show (⟨(headL B).toArray⟩ : ByteArray).data.toList = headL B from rfl, HV.out]
        go_upto_if 58 with (fail)
        go_cut [10] (fun pv wx => pv = .string ⟨(tailL B).toArray⟩ ∧ wx = w2)
        case first =>
          by_cases hKs : K < t.size
          · go_wp2_with fail
            go_meet
            case rel => exact ⟨by rw [HTA.out], rfl⟩
          · have HPN := Lib.hid (show tailL B = [] from HPT.out (by rw [HHP.out, decide_eq_false hKs]))
            go_wp2_with fail
            go_meet
            case rel => exact ⟨by rw [HPN.out], rfl⟩
        case rest =>
          obtain ⟨rfl, rfl⟩ := hcut
          go_wp2_with fail
          rw [HH.out]
          refine (rdigits_any ⟨(headL B).toArray⟩ _ (by have := HHL.out.1; show (headL B).toArray.size ≤ _; simp; omega)).mono ?_
          rintro e w3 ⟨rfl, g3⟩
          rw [show (⟨(headL B).toArray⟩ : ByteArray).data.toList = headL B from rfl, HDH.out]
          cases dh with
          | false =>
            have HN := Lib.hid (show parseR L q = (0, false) by
              have : candR L q = (0, false) := by rw [HC.out]; rfl
              unfold parseR; rw [this]; rfl)
            go_wp2_with fail
            go_ret2
            exact ⟨by rw [HN.out]; rfl, g2.trans g3⟩
          | true =>
            cases ok with
            | false =>
              have HN := Lib.hid (show parseR L q = (0, false) by
                have : candR L q = (0, false) := by rw [HC.out]; rfl
                unfold parseR; rw [this]; rfl)
              go_wp2_with fail
              go_ret2
              exact ⟨by rw [HN.out]; rfl, g2.trans g3⟩
            | true =>
              cases hp with
              | false =>
                have hKn : ¬ K < t.size := by have := HHP.out; simpa using this
                have HAD := Lib.hid (show allDig (tailL B) = true by rw [HPT.out rfl]; rfl)
                have HNO := Lib.hid HC.out

                go_wp2_with fail
                go_loopw [8, 10, 11] (fun nv pv i wr => ∃ k : Nat, k ≤ q ∧ nv = .int .u64 (((iterD k n0 (tailL B)).1 : Nat) : Int) ∧ pv = .string ⟨(iterD k n0 (tailL B)).2.toArray⟩ ∧ i = .int .i64 (k : Int) ∧ Grew w wr) (fun _ _ i _ => q - (intOf i).toNat)
                case atStart => exact ⟨0, Nat.zero_le _, rfl, rfl, rfl, g2.trans g3⟩
                case round =>
                  obtain ⟨k, hk, rfl, rfl, rfl, g⟩ := hrel
                  obtain ⟨hi1, hi2⟩ := iterD_dig n0 (tailL B) HAD.out k
                  have hi3 := iterD_lt n0 (tailL B) (by omega) k
                  obtain ⟨m, P, hI⟩ : ∃ m P, iterD k n0 (tailL B) = (m, P) := ⟨_, _, rfl⟩
                  rw [hI] at hi1 hi2 hi3 ⊢
                  have hm64 : m < 18446744073709551616 := hi3
                  have HPD := Lib.hid (show allDig P = true from hi1)
                  have HPL := Lib.hid (show P.length ≤ 100 by have := HHL.out.2; have h : P.length = (tailL B).length := hi2; omega)
                  have HI := Lib.hid hI
                  clear hi1 hi2 hi3 hI
                  by_cases hlt : k < q
                  · obtain ⟨bit, P2, hDb⟩ : ∃ bit P2, dbl P = (bit, P2) := ⟨_, _, rfl⟩
                    have hbit : bit ≤ 1 := by have := (dbl_spec _ HPD.out).1; rw [hDb] at this; exact this
                    obtain ⟨M2, hM2⟩ : ∃ M2, 2 * m % 18446744073709551616 = M2 := ⟨_, rfl⟩
                    obtain ⟨M3, hM3⟩ : ∃ M3, (2 * m + bit) % 18446744073709551616 = M3 := ⟨_, rfl⟩
                    have r1 : IntKind.u64.wrap (2 * (m : Int)) = (M2 : Int) := by rw [u64wrap]; omega
                    have r2 : IntKind.u64.wrap ((M2 : Int) + (bit : Int)) = (M3 : Int) := by
                      rw [u64wrap, ← hM2, ← hM3, Int.natCast_emod, Int.natCast_emod, Int.natCast_add]
                      exact Int.emod_add_emod _ _ _
                    have HNX := Lib.hid (show iterD (k + 1) n0 (tailL B) = (M3, P2) by rw [iterD, HI.out, hDb, hM3])
                    have HDB := Lib.hid hDb
                    clear hM2 hM3 hDb hm64 hbit
                    go_wp2_with fail
                    refine (doubled_any ⟨P.toArray⟩ _ (by show P.toArray.size ≤ _; simpa using HPL.out) HPD.out).mono ?_
                    rintro e w5 ⟨rfl, g5⟩
                    rw [show (⟨P.toArray⟩ : ByteArray).data.toList = P from rfl, HDB.out]
                    go_wp2_with fail
                    exact ⟨⟨k + 1, by omega, by rw [HNX.out], by rw [HNX.out], by go_num, g.trans g5⟩, by simp [intOf]; omega⟩
                  · obtain rfl : k = q := by omega
                    obtain ⟨x, hx⟩ : ∃ x, signed false m = x := ⟨_, rfl⟩
                    have hrx := signed_range false m
                    rw [hx] at hrx
                    obtain ⟨hx0, hx1⟩ := hrx
                    have HSX := Lib.hid (show wrap64 (m : Int) = x by rw [← hx]; exact word_pos m)
                    have HCX := Lib.hid (show candR L k = (x, true) by rw [HNO.out, HI.out, hx]; rfl)
                    have HNX := Lib.hid (show parseR L k = if textL x k = L then (x, true) else (0, false) by unfold parseR; rw [HCX.out]; simp)
                    clear hx hm64
                    go_wp2_with fail
                    rw [HSX.out]
                    refine (rtext_yes x k _ hq hx0 hx1).mono ?_
                    rintro e w6 ⟨rfl, g6⟩
                    go_wp2_with fail
                    · have hne : ¬ textL x k = L := by
                        have h : (!textL x k == t.toList) = true := by assumption
                        rw [Lib.toList_data, HL.out] at h
                        simpa using h
                      go_ret2
                      exact ⟨by rw [HNX.out, if_neg hne]; rfl, g.trans g6⟩
                    · have he : textL x k = L := by
                        have h : (!textL x k == t.toList) = false := by assumption
                        rw [Lib.toList_data, HL.out] at h
                        simpa using h
                      go_ret2
                      exact ⟨by rw [HNX.out, if_pos he]; rfl, g.trans g6⟩
              | true =>
                have hKn : K < t.size := by have := HHP.out; simpa using this
                go_wp2_with fail
                refine (rdigits_any ⟨(tailL B).toArray⟩ _ (by have := HHL.out.2; show (tailL B).toArray.size ≤ _; simp; omega)).mono ?_
                rintro e w4 ⟨rfl, g4⟩
                rw [show (⟨(tailL B).toArray⟩ : ByteArray).data.toList = tailL B from rfl, HDT.out]
                cases dt with
                | false =>
                  have HN := Lib.hid (show parseR L q = (0, false) by
                    have : candR L q = (0, false) := by rw [HC.out]; rfl
                    unfold parseR; rw [this]; rfl)
                  go_wp2_with fail
                  go_ret2
                  exact ⟨by rw [HN.out]; rfl, (g2.trans g3).trans g4⟩
                | true =>
                  have HAD := Lib.hid (show allDig (tailL B) = true by have := HDT.out; unfold digitsR at this; simp at this; exact this.1)
                  have HNO := Lib.hid HC.out

                  go_wp2_with fail
                  go_loopw [8, 10, 11] (fun nv pv i wr => ∃ k : Nat, k ≤ q ∧ nv = .int .u64 (((iterD k n0 (tailL B)).1 : Nat) : Int) ∧ pv = .string ⟨(iterD k n0 (tailL B)).2.toArray⟩ ∧ i = .int .i64 (k : Int) ∧ Grew w wr) (fun _ _ i _ => q - (intOf i).toNat)
                  case atStart => exact ⟨0, Nat.zero_le _, rfl, rfl, rfl, (g2.trans g3).trans g4⟩
                  case round =>
                    obtain ⟨k, hk, rfl, rfl, rfl, g⟩ := hrel
                    obtain ⟨hi1, hi2⟩ := iterD_dig n0 (tailL B) HAD.out k
                    have hi3 := iterD_lt n0 (tailL B) (by omega) k
                    obtain ⟨m, P, hI⟩ : ∃ m P, iterD k n0 (tailL B) = (m, P) := ⟨_, _, rfl⟩
                    rw [hI] at hi1 hi2 hi3 ⊢
                    have hm64 : m < 18446744073709551616 := hi3
                    have HPD := Lib.hid (show allDig P = true from hi1)
                    have HPL := Lib.hid (show P.length ≤ 100 by have := HHL.out.2; have h : P.length = (tailL B).length := hi2; omega)
                    have HI := Lib.hid hI
                    clear hi1 hi2 hi3 hI
                    by_cases hlt : k < q
                    · obtain ⟨bit, P2, hDb⟩ : ∃ bit P2, dbl P = (bit, P2) := ⟨_, _, rfl⟩
                      have hbit : bit ≤ 1 := by have := (dbl_spec _ HPD.out).1; rw [hDb] at this; exact this
                      obtain ⟨M2, hM2⟩ : ∃ M2, 2 * m % 18446744073709551616 = M2 := ⟨_, rfl⟩
                      obtain ⟨M3, hM3⟩ : ∃ M3, (2 * m + bit) % 18446744073709551616 = M3 := ⟨_, rfl⟩
                      have r1 : IntKind.u64.wrap (2 * (m : Int)) = (M2 : Int) := by rw [u64wrap]; omega
                      have r2 : IntKind.u64.wrap ((M2 : Int) + (bit : Int)) = (M3 : Int) := by
                        rw [u64wrap, ← hM2, ← hM3, Int.natCast_emod, Int.natCast_emod, Int.natCast_add]
                        exact Int.emod_add_emod _ _ _
                      have HNX := Lib.hid (show iterD (k + 1) n0 (tailL B) = (M3, P2) by rw [iterD, HI.out, hDb, hM3])
                      have HDB := Lib.hid hDb
                      clear hM2 hM3 hDb hm64 hbit
                      go_wp2_with fail
                      refine (doubled_any ⟨P.toArray⟩ _ (by show P.toArray.size ≤ _; simpa using HPL.out) HPD.out).mono ?_
                      rintro e w5 ⟨rfl, g5⟩
                      rw [show (⟨P.toArray⟩ : ByteArray).data.toList = P from rfl, HDB.out]
                      go_wp2_with fail
                      exact ⟨⟨k + 1, by omega, by rw [HNX.out], by rw [HNX.out], by go_num, g.trans g5⟩, by simp [intOf]; omega⟩
                    · obtain rfl : k = q := by omega
                      obtain ⟨x, hx⟩ : ∃ x, signed false m = x := ⟨_, rfl⟩
                      have hrx := signed_range false m
                      rw [hx] at hrx
                      obtain ⟨hx0, hx1⟩ := hrx
                      have HSX := Lib.hid (show wrap64 (m : Int) = x by rw [← hx]; exact word_pos m)
                      have HCX := Lib.hid (show candR L k = (x, true) by rw [HNO.out, HI.out, hx]; rfl)
                      have HNX := Lib.hid (show parseR L k = if textL x k = L then (x, true) else (0, false) by unfold parseR; rw [HCX.out]; simp)
                      clear hx hm64
                      go_wp2_with fail
                      rw [HSX.out]
                      refine (rtext_yes x k _ hq hx0 hx1).mono ?_
                      rintro e w6 ⟨rfl, g6⟩
                      go_wp2_with fail
                      · have hne : ¬ textL x k = L := by
                          have h : (!textL x k == t.toList) = true := by assumption
                          rw [Lib.toList_data, HL.out] at h
                          simpa using h
                        go_ret2
                        exact ⟨by rw [HNX.out, if_neg hne]; rfl, g.trans g6⟩
                      · have he : textL x k = L := by
                          have h : (!textL x k == t.toList) = false := by assumption
                          rw [Lib.toList_data, HL.out] at h
                          simpa using h
                        go_ret2
                        exact ⟨by rw [HNX.out, if_pos he]; rfl, g.trans g6⟩
    · have hB0 : B = [] := by
        have h := HTZ.out
        exact List.length_eq_zero_iff.1 (by omega)
      have hdf : dh = false := by rw [← HDH.out, hB0]; rfl
      subst hdf
      have HK0 := Lib.hid (show (0 : Int) = (K : Int) by omega)
      have hKs : ¬ K < t.size := by omega
      clear hB0
      go_enter Tryz.func24, Tryz.ntmps24
      go_upto_block 0 with (fail)
      go_cut [7] (fun a wx => a = .int .i64 (K : Int) ∧ wx = w)
      case first =>
        go_wp2_with fail
        go_loop [7] (fun a => a = .int .i64 0) (fun _ => 0)
        case atStart => exact rfl
        case round =>
          obtain rfl := hrel
          go_wp2_with fail
          go_meet
          case rel => exact ⟨by rw [HK0.out], rfl⟩
      case rest =>
        obtain ⟨rfl, hw⟩ := hcut
        obtain rfl := hw.symm
        clear hw
        go_wp2_with fail
        rw [HH.out]
        refine (value_any ⟨(headL B).toArray⟩ _ (by have := HHL.out.1; show (headL B).toArray.size ≤ _; simp; omega)).mono ?_
        rintro e w2 ⟨rfl, g2⟩
        rw [show (⟨(headL B).toArray⟩ : ByteArray).data.toList = headL B from rfl, HV.out]
        go_wp2_with fail
        rw [HH.out]
        refine (rdigits_any ⟨(headL B).toArray⟩ _ (by have := HHL.out.1; show (headL B).toArray.size ≤ _; simp; omega)).mono ?_
        rintro e w3 ⟨rfl, g3⟩
        rw [show (⟨(headL B).toArray⟩ : ByteArray).data.toList = headL B from rfl, HDH.out]
        have HN := Lib.hid (show parseR L q = (0, false) by
          have : candR L q = (0, false) := by rw [HC.out]; rfl
          unfold parseR; rw [this]; rfl)
        go_wp2_with fail
        go_ret2
        exact ⟨by rw [HN.out]; rfl, g2.trans g3⟩

theorem rparse_none (s : ByteArray) (q : Int) (w : World) (h : ¬ (0 ≤ q ∧ q ≤ 62) ∨ 100 < s.size) :
    Calls Tryz.prog 24 #[.string s, .int .i64 q] w fun e w' => e = .returned (.tuple #[.int .i64 0, .bool false]) ∧ Grew w w' := by
  by_cases h0 : q < 0
  · go_enter Tryz.func24, Tryz.ntmps24
    go_wp2_with fail
    go_ret2
    exact ⟨rfl, Grew.refl _⟩
  · by_cases h1 : 62 < q
    · go_enter Tryz.func24, Tryz.ntmps24
      go_wp2_with fail
      go_ret2
      exact ⟨rfl, Grew.refl _⟩
    · have h2 : 100 < s.size := by omega
      go_enter Tryz.func24, Tryz.ntmps24
      go_wp2_with fail
      go_ret2
      exact ⟨rfl, Grew.refl _⟩
end Go.Proofs.YthcahpgandappaaGreatDoor
