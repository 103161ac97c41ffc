/-
  For every slice l of slices of int64 numbers and every uint8 n, sakialaw03.VecSums(l, n) returns true. No condition.
-/
import Derived.Test.YtdlhpamgjfipfaaRows
import Derived.Test.YtdlhpamgjfipfaaVm
import Derived.Deep.Matrix
import Derived.WalkKit
import Derived.ProofKit
import Derived.OpenShut
import Derived.ShutString
import Derived.ChangeOld
import Derived.Below
namespace Go.Proofs.Ytdlhpamgjfipfaa.vecSums
open Go.ChangeShapes Go.WideShapes Go.ChangeAt Go.RowKit
open Go.Proofs.Ytdlhpamgjfipfaa
set_option linter.unusedVariables false

theorem own : ownKnob Try.prog.godebug = none := by kernel_rfl
theorem laidOut : laidOutB Try.prog = true := by kernel_rfl

set_option maxHeartbeats 2000000 in
theorem walk (a0 : Option Addr) (len0 cap0 : Nat) (vs : List Vec) (a1 : Int) (w : World) (w0 : Came w a0 len0 cap0 vs) (w1 : (Lit.int .u8 a1).wf = true) :
    Calls Try.prog 3 #[.slice a0 len0 cap0, .int .u8 a1] w fun e w' => e = .returned (.bool true) ∧ Below w.heap.size w w' := by
  obtain ⟨rfl, hcp, hcm, hh, hb, hft⟩ := w0
  obtain ⟨nn, rfl⟩ := Int.eq_ofNat_of_zero_le (u8_wf w1).1
  have hnn : nn ≤ 255 := by have := (u8_wf w1).2; omega
  have hfm : vs.length ≤ 9223372036854775807 := by unfold maxLen at hcm; omega
  have HCp := Lib.hid hcp
  have HH := Lib.hid hh
  have HB := Lib.hid hb
  have HFt := Lib.hid hft
  clear w1 hh hb hft
  cases hF : fewB vs with
  | false =>
    have HFW := Lib.hid hF
    clear hF
    go_enter Try.func3, Try.ntmps3
    go_wp2_with fail
    refine (few_any a0 cap0 vs _ hfm HH.out).mono ?_
    rintro e w0 ⟨rfl, rfl⟩
    rw [HFW.out]
    go_wp2_with fail
    refine (valive_any _).mono ?_
    rintro e w2 ⟨rfl, g2⟩
    go_wp2_with fail
    go_ret
    exact ⟨rfl, g2⟩
  | true =>
    have HFW := Lib.hid hF
    obtain ⟨h60, hsh⟩ := few_yes hF
    have hss : (sumV vs).length ≤ 1500 := sum_short hsh
    have HSh : Hid (Short vs) := Lib.hid (fun j hj => Nat.le_trans (hsh j hj) (by omega))
    have HSh2 := Lib.hid hsh
    clear hF hsh
    cases hO : okV vs with
    | false =>
      have HO := Lib.hid hO
      clear hO

      go_enter Try.func3, Try.ntmps3
      go_wp2_with fail
      refine (few_any a0 cap0 vs _ hfm HH.out).mono ?_
      rintro e w0 ⟨rfl, rfl⟩
      rw [HFW.out]
      go_wp2_with fail
      refine (given_any a0 cap0 vs _ (by omega) HH.out).mono ?_
      rintro e w1 ⟨⟨s1, c1, rfl, B1⟩, g1⟩
      have HV1 := Lib.hid B1
      have HG1 := Lib.hid g1
      clear B1 g1
      have hcall1 := vsum_any s1 c1 vs w1 ⟨by omega, HV1.out.fits, HSh.out, HV1.out.heads, HB.out.grow HG1.out, HFt.out⟩
      rw [HO.out] at hcall1
      have HC1 := Lib.hid hcall1
      clear hcall1
      go_wp2_with fail
      refine HC1.out.mono ?_
      rintro e w2 ⟨⟨a2, c2, rfl, B2⟩, g2⟩
      have HS2 := Lib.hid B2
      have HG2 := Lib.hid (HG1.out.trans g2)
      clear B2 g2
      have hcall2 := rvsum_any a0 cap0 vs w2 ⟨by omega, HCp.out, HSh.out, HH.out.grow HG2.out, HB.out.grow HG2.out, HFt.out⟩
      rw [HO.out] at hcall2
      have HC2 := Lib.hid hcall2
      clear hcall2
      go_wp2_with fail
      refine HC2.out.mono ?_
      rintro e w3 ⟨⟨a3, c3, rfl, B3⟩, g3⟩
      have HW3 := Lib.hid B3
      have HS3 := Lib.hid (HS2.out.grow g3)
      have HG3 := Lib.hid (HG2.out.trans g3)
      clear B3 g3
      go_wp2_with fail
      refine (rsame_n a2 a3 c2 c3 (sumV vs) (sumV vs) _ rfl rfl (by omega) (by omega) HS3.out.rd HW3.out.rd).mono ?_
      rintro e w4 ⟨rfl, g4⟩
      rw [decide_eq_true rfl]
      have HW4 := Lib.hid (HW3.out.grow g4)
      have HG4 := Lib.hid (HG3.out.trans g4)
      clear g4

      go_wp2_with fail
      refine (valive_any _).mono ?_
      rintro e w5 ⟨rfl, g5⟩
      go_wp2_with fail
      go_ret
      exact ⟨rfl, HG4.out.trans g5⟩

    | true =>
      have HO := Lib.hid hO
      clear hO
      by_cases h0 : vs.length = 0
      · have hz0 : ((vs.length : Int) == 0) = true := by rw [h0]; rfl
        clear h0

        go_enter Try.func3, Try.ntmps3
        go_wp2_with fail
        refine (few_any a0 cap0 vs _ hfm HH.out).mono ?_
        rintro e w0 ⟨rfl, rfl⟩
        rw [HFW.out]
        go_wp2_with fail
        refine (given_any a0 cap0 vs _ (by omega) HH.out).mono ?_
        rintro e w1 ⟨⟨s1, c1, rfl, B1⟩, g1⟩
        have HV1 := Lib.hid B1
        have HG1 := Lib.hid g1
        clear B1 g1
        have hcall1 := vsum_any s1 c1 vs w1 ⟨by omega, HV1.out.fits, HSh.out, HV1.out.heads, HB.out.grow HG1.out, HFt.out⟩
        rw [HO.out] at hcall1
        have HC1 := Lib.hid hcall1
        clear hcall1
        go_wp2_with fail
        refine HC1.out.mono ?_
        rintro e w2 ⟨⟨a2, c2, rfl, B2⟩, g2⟩
        have HS2 := Lib.hid B2
        have HG2 := Lib.hid (HG1.out.trans g2)
        clear B2 g2
        have hcall2 := rvsum_any a0 cap0 vs w2 ⟨by omega, HCp.out, HSh.out, HH.out.grow HG2.out, HB.out.grow HG2.out, HFt.out⟩
        rw [HO.out] at hcall2
        have HC2 := Lib.hid hcall2
        clear hcall2
        go_wp2_with fail
        refine HC2.out.mono ?_
        rintro e w3 ⟨⟨a3, c3, rfl, B3⟩, g3⟩
        have HW3 := Lib.hid B3
        have HS3 := Lib.hid (HS2.out.grow g3)
        have HG3 := Lib.hid (HG2.out.trans g3)
        clear B3 g3
        go_wp2_with fail
        refine (rsame_n a2 a3 c2 c3 (sumV vs) (sumV vs) _ rfl rfl (by omega) (by omega) HS3.out.rd HW3.out.rd).mono ?_
        rintro e w4 ⟨rfl, g4⟩
        rw [decide_eq_true rfl]
        have HW4 := Lib.hid (HW3.out.grow g4)
        have HG4 := Lib.hid (HG3.out.trans g4)
        clear g4

        go_wp2_with fail
        refine (valive_any _).mono ?_
        rintro e w5 ⟨rfl, g5⟩
        go_wp2_with fail
        go_ret
        exact ⟨rfl, HG4.out.trans g5⟩

      · have hz0 : ((vs.length : Int) == 0) = false := beq_eq_false_iff_ne.2 (by omega)
        obtain ⟨b, off, rfl, _, _⟩ := HH.out.at (k := 0) (by omega)
        obtain ⟨m, hm⟩ : ∃ m : Nat, (nn : Int) % (vs.length : Int) = (m : Int) := Int.eq_ofNat_of_zero_le (Int.emod_nonneg (nn : Int) (show (vs.length : Int) ≠ 0 by omega))
        have hml : m < vs.length := by have := Int.emod_lt_of_pos (nn : Int) (show (0 : Int) < (vs.length : Int) by omega); rw [hm] at this; omega
        obtain ⟨k, hk1, hk2⟩ : ∃ k : Nat, (1 : Int) + (m : Int) = (k : Int) ∧ k = m + 1 := ⟨m + 1, by omega, rfl⟩
        have hkp : 1 ≤ k := by omega
        have hkl : k ≤ vs.length := by omega
        have HR := Lib.hid (sum_reverse HO.out (fun e => by rw [e] at h0; exact h0 rfl))
        have HQ := Lib.hid (fun a c => sum_groups HO.out hkp hkl a c)
        have HTk : Hid ((vs.take k).length = k) := Lib.hid (by rw [List.length_take]; omega)
        have hst : (sumV (vs.take k)).length ≤ 1500 := sum_short (each_take (p := fun v => v.zs.length ≤ 1500) HSh2.out)
        obtain ⟨i0, hi, hy0, hz1, hz2⟩ := info_parts info_vec
        by_cases hck : cap0 = k
        · subst hck
          clear hk2

          have HDE : Hid (vs.drop cap0 = []) := Lib.hid (List.drop_eq_nil_of_le (by omega))

          go_enter Try.func3, Try.ntmps3
          go_wp2_with fail
          refine (few_any _ _ vs _ hfm HH.out).mono ?_
          rintro e w0 ⟨rfl, rfl⟩
          rw [HFW.out]
          go_wp2_with fail
          refine (given_any _ _ vs _ (by omega) HH.out).mono ?_
          rintro e w1 ⟨⟨s1, c1, rfl, B1⟩, g1⟩
          have HV1 := Lib.hid B1
          have HG1 := Lib.hid g1
          clear B1 g1
          have hcall1 := vsum_any s1 c1 vs w1 ⟨by omega, HV1.out.fits, HSh.out, HV1.out.heads, HB.out.grow HG1.out, HFt.out⟩
          rw [HO.out] at hcall1
          have HC1 := Lib.hid hcall1
          clear hcall1
          go_wp2_with fail
          refine HC1.out.mono ?_
          rintro e w2 ⟨⟨a2, c2, rfl, B2⟩, g2⟩
          have HS2 := Lib.hid B2
          have HG2 := Lib.hid (HG1.out.trans g2)
          clear B2 g2
          have hcall2 := rvsum_any _ _ vs w2 ⟨by omega, HCp.out, HSh.out, HH.out.grow HG2.out, HB.out.grow HG2.out, HFt.out⟩
          rw [HO.out] at hcall2
          have HC2 := Lib.hid hcall2
          clear hcall2
          go_wp2_with fail
          refine HC2.out.mono ?_
          rintro e w3 ⟨⟨a3, c3, rfl, B3⟩, g3⟩
          have HW3 := Lib.hid B3
          have HS3 := Lib.hid (HS2.out.grow g3)
          have HG3 := Lib.hid (HG2.out.trans g3)
          clear B3 g3
          go_wp2_with fail
          refine (rsame_n a2 a3 c2 c3 (sumV vs) (sumV vs) _ rfl rfl (by omega) (by omega) HS3.out.rd HW3.out.rd).mono ?_
          rintro e w4 ⟨rfl, g4⟩
          rw [decide_eq_true rfl]
          have HW4 := Lib.hid (HW3.out.grow g4)
          have HG4 := Lib.hid (HG3.out.trans g4)
          clear g4

          go_wp2_with fail
          refine (given_any _ _ vs _ (by omega) (HH.out.grow HG4.out)).mono ?_
          rintro e w5 ⟨⟨s5, c5, rfl, B5⟩, g5⟩
          have HV5 := Lib.hid B5
          have HG45 := Lib.hid g5
          have HZ4 := Lib.hid (HG4.out.size)
          clear B5 g5
          go_wp2_with fail
          refine (vreverse_any (by omega) HV5.out).mono ?_
          rintro e w6 ⟨rfl, B6, b6⟩
          have HV6 := Lib.hid B6
          have HG6 : Hid (Grew w w6) := Lib.hid (HG4.out.trans (Below.trans HG45.out b6))
          have HG46 : Hid (Grew w4 w6) := Lib.hid (Below.trans HG45.out b6)
          clear B6 b6
          have hcall3 := vsum_n s5 c5 vs.reverse w6 List.length_reverse ⟨by rw [List.length_reverse]; omega, by rw [List.length_reverse]; exact HV6.out.fits, each_reverse (p := fun v => v.zs.length ≤ 35184372088832) HSh.out, HV6.out.heads, each_reverse (p := fun v => Rd w6.heap.size w6 v.a v.zs) (HB.out.grow HG6.out), each_reverse (p := fun v => Fit v.zs) HFt.out⟩
          rw [HR.out.1, HR.out.2] at hcall3
          have HC3 := Lib.hid hcall3
          clear hcall3
          go_wp2_with fail
          refine HC3.out.mono ?_
          rintro e w7 ⟨⟨a7, c7, rfl, B7⟩, g7⟩
          have HT7 := Lib.hid B7
          have HG7 := Lib.hid (HG6.out.trans g7)
          have HG47 := Lib.hid (HG46.out.trans g7)
          clear B7 g7
          go_wp2_with fail
          refine (given_n _ _ (vs.take cap0) _ HTk.out (by omega) (heads_take _ (HH.out.grow HG7.out))).mono ?_
          rintro e w8 ⟨⟨s8, c8, rfl, B8⟩, g8⟩
          have HV8 := Lib.hid B8
          have HG8 := Lib.hid (HG7.out.trans g8)
          have HG78 := Lib.hid g8
          clear B8 g8
          have hcall4 := vsum_n s8 c8 (vs.take cap0) w8 HTk.out ⟨by rw [HTk.out]; omega, by rw [HTk.out]; exact HV8.out.fits, each_take (p := fun v => v.zs.length ≤ 35184372088832) HSh.out, HV8.out.heads, each_take (p := fun v => Rd w8.heap.size w8 v.a v.zs) (HB.out.grow HG8.out), each_take (p := fun v => Fit v.zs) HFt.out⟩
          rw [(HQ.out none 0).1] at hcall4
          have HC4 := Lib.hid hcall4
          clear hcall4
          go_wp2_with fail
          refine HC4.out.mono ?_
          rintro e w9 ⟨⟨a9, c9, rfl, B9⟩, g9⟩
          have HS9 := Lib.hid B9
          have HG9 := Lib.hid (HG8.out.trans g9)
          have HG79 := Lib.hid (HG78.out.trans g9)
          clear B9 g9
          go_wp2_with fail
          refine (given_n (n := 0) (some ⟨b, off, none⟩) 0 (vs.drop cap0) _ (by rw [HDE.out]; rfl) (by omega) (.inl HDE.out)).mono ?_
          rintro e w10 ⟨⟨s10, c10, rfl, B10⟩, g10⟩
          have HV10 := Lib.hid B10
          have HG10 := Lib.hid (HG9.out.trans g10)
          have HG910 := Lib.hid g10
          clear B10 g10
          have HWZ := Lib.hid (HG9.out.size)
          go_wp2_with (at_builtin; refine wpList_append_own _ rfl _ _ 29 rfl w9.heap.size 26 i0 (.slice none 0 0) 1 24 Try.underlying29 hi hy0 hz1 hz2 rfl (by decide) _ (0) _ rfl (World.ownsRow.alloc HV10.out _) ⟨w10.heap.size, 0, none⟩ 1 1 [.slice a9 (sumV (vs.take cap0)).length c9] rfl ?qc1 ?qc2 ?qc3 ?qc4 ?qc5 ?qc6 ?_)
          case qc1 => rfl
          case qc2 => exact (cell_one_new _ _ _)
          case qc3 => intro u hu; simp only [List.mem_singleton] at hu; subst hu; rfl
          case qc4 => unfold maxLen; omega
          case qc5 => omega
          case qc6 => have := HG910.out.size; simp; omega
          intro v' w11 hown hgrow hnil
          have HG1011 : Hid (Below w9.heap.size w9 w11) := Lib.hid (Below.grown (Below.alloc HG910.out HG910.out.size _) hgrow (by have := HG910.out.size; simp; omega) (fun j hj => (World.ownsRow.lt HV10.out j hj).1))
          have HG11 : Hid (Grew w w11) := Lib.hid (HG9.out.trans HG1011.out)
          obtain ⟨s11, c11, rfl, B11⟩ := own_vecs (vs := vs.drop cap0 ++ [⟨a9, c9, sumV (vs.take cap0)⟩]) (by rw [List.map_append, List.map_drop]; exact hown)
          have HV11 := Lib.hid B11
          clear hown hgrow hnil B11
          have hcall5 := vsum_n s11 c11 (vs.drop cap0 ++ [⟨a9, c9, sumV (vs.take cap0)⟩]) w11 HV11.out.len ⟨by rw [HV11.out.len]; omega, by rw [HV11.out.len]; exact HV11.out.fits, each_snoc (p := fun v => v.zs.length ≤ 35184372088832) (each_drop (p := fun v => v.zs.length ≤ 35184372088832) HSh.out) (by show (sumV (vs.take cap0)).length ≤ _; omega), HV11.out.heads, each_snoc (p := fun v => Rd w11.heap.size w11 v.a v.zs) (each_drop (p := fun v => Rd w11.heap.size w11 v.a v.zs) (HB.out.grow HG11.out)) (HS9.out.rd.grow HG1011.out), each_snoc (p := fun v => Fit v.zs) (each_drop (p := fun v => Fit v.zs) HFt.out) (sum_fit _)⟩
          rw [(HQ.out a9 c9).2.2.1, (HQ.out a9 c9).2.2.2] at hcall5
          have HC5 := Lib.hid hcall5
          clear hcall5
          go_wp2_with fail
          refine HC5.out.mono ?_
          rintro e w12 ⟨⟨a12, c12, rfl, B12⟩, g12⟩
          have HB12 := Lib.hid B12
          have HG12 := Lib.hid (HG11.out.trans g12)
          have HG712 : Hid (Grew w7 w12) := Lib.hid ((HG79.out.trans HG1011.out).trans g12)
          clear B12 g12
          go_wp2_with fail
          refine (valive_any _).mono ?_
          rintro e w13 ⟨rfl, g13⟩
          have HG1213 := Lib.hid g13
          have HG13 := Lib.hid (HG12.out.trans g13)
          clear g13
          go_wp2_with fail
          refine (rsame_n a7 a3 c7 c3 (sumV vs) (sumV vs) _ rfl rfl (by omega) (by omega) (HT7.out.grow (HG712.out.trans HG1213.out)).rd (HW4.out.grow (HG47.out.trans (HG712.out.trans HG1213.out))).rd).mono ?_
          rintro e w14 ⟨rfl, g14⟩
          rw [decide_eq_true rfl]
          have HG1214 := Lib.hid (HG1213.out.trans g14)
          clear g14
          go_wp2_with fail
          refine (rsame_n a12 a3 c12 c3 (sumV vs) (sumV vs) _ rfl rfl (by omega) (by omega) (HB12.out.grow HG1214.out).rd (HW4.out.grow (HG47.out.trans (HG712.out.trans HG1214.out))).rd).mono ?_
          rintro e w15 ⟨rfl, g15⟩
          rw [decide_eq_true rfl]
          go_wp2_with fail
          go_ret
          exact ⟨by simp, (HG12.out.trans HG1214.out).trans g15⟩
        · clear hk2

          go_enter Try.func3, Try.ntmps3
          go_wp2_with fail
          refine (few_any _ cap0 vs _ hfm HH.out).mono ?_
          rintro e w0 ⟨rfl, rfl⟩
          rw [HFW.out]
          go_wp2_with fail
          refine (given_any _ cap0 vs _ (by omega) HH.out).mono ?_
          rintro e w1 ⟨⟨s1, c1, rfl, B1⟩, g1⟩
          have HV1 := Lib.hid B1
          have HG1 := Lib.hid g1
          clear B1 g1
          have hcall1 := vsum_any s1 c1 vs w1 ⟨by omega, HV1.out.fits, HSh.out, HV1.out.heads, HB.out.grow HG1.out, HFt.out⟩
          rw [HO.out] at hcall1
          have HC1 := Lib.hid hcall1
          clear hcall1
          go_wp2_with fail
          refine HC1.out.mono ?_
          rintro e w2 ⟨⟨a2, c2, rfl, B2⟩, g2⟩
          have HS2 := Lib.hid B2
          have HG2 := Lib.hid (HG1.out.trans g2)
          clear B2 g2
          have hcall2 := rvsum_any _ cap0 vs w2 ⟨by omega, HCp.out, HSh.out, HH.out.grow HG2.out, HB.out.grow HG2.out, HFt.out⟩
          rw [HO.out] at hcall2
          have HC2 := Lib.hid hcall2
          clear hcall2
          go_wp2_with fail
          refine HC2.out.mono ?_
          rintro e w3 ⟨⟨a3, c3, rfl, B3⟩, g3⟩
          have HW3 := Lib.hid B3
          have HS3 := Lib.hid (HS2.out.grow g3)
          have HG3 := Lib.hid (HG2.out.trans g3)
          clear B3 g3
          go_wp2_with fail
          refine (rsame_n a2 a3 c2 c3 (sumV vs) (sumV vs) _ rfl rfl (by omega) (by omega) HS3.out.rd HW3.out.rd).mono ?_
          rintro e w4 ⟨rfl, g4⟩
          rw [decide_eq_true rfl]
          have HW4 := Lib.hid (HW3.out.grow g4)
          have HG4 := Lib.hid (HG3.out.trans g4)
          clear g4

          go_wp2_with fail
          refine (given_any _ cap0 vs _ (by omega) (HH.out.grow HG4.out)).mono ?_
          rintro e w5 ⟨⟨s5, c5, rfl, B5⟩, g5⟩
          have HV5 := Lib.hid B5
          have HG45 := Lib.hid g5
          have HZ4 := Lib.hid (HG4.out.size)
          clear B5 g5
          go_wp2_with fail
          refine (vreverse_any (by omega) HV5.out).mono ?_
          rintro e w6 ⟨rfl, B6, b6⟩
          have HV6 := Lib.hid B6
          have HG6 : Hid (Grew w w6) := Lib.hid (HG4.out.trans (Below.trans HG45.out b6))
          have HG46 : Hid (Grew w4 w6) := Lib.hid (Below.trans HG45.out b6)
          clear B6 b6
          have hcall3 := vsum_n s5 c5 vs.reverse w6 List.length_reverse ⟨by rw [List.length_reverse]; omega, by rw [List.length_reverse]; exact HV6.out.fits, each_reverse (p := fun v => v.zs.length ≤ 35184372088832) HSh.out, HV6.out.heads, each_reverse (p := fun v => Rd w6.heap.size w6 v.a v.zs) (HB.out.grow HG6.out), each_reverse (p := fun v => Fit v.zs) HFt.out⟩
          rw [HR.out.1, HR.out.2] at hcall3
          have HC3 := Lib.hid hcall3
          clear hcall3
          go_wp2_with fail
          refine HC3.out.mono ?_
          rintro e w7 ⟨⟨a7, c7, rfl, B7⟩, g7⟩
          have HT7 := Lib.hid B7
          have HG7 := Lib.hid (HG6.out.trans g7)
          have HG47 := Lib.hid (HG46.out.trans g7)
          clear B7 g7
          go_wp2_with fail
          refine (given_n _ cap0 (vs.take k) _ HTk.out (by omega) (heads_take _ (HH.out.grow HG7.out))).mono ?_
          rintro e w8 ⟨⟨s8, c8, rfl, B8⟩, g8⟩
          have HV8 := Lib.hid B8
          have HG8 := Lib.hid (HG7.out.trans g8)
          have HG78 := Lib.hid g8
          clear B8 g8
          have hcall4 := vsum_n s8 c8 (vs.take k) w8 HTk.out ⟨by rw [HTk.out]; omega, by rw [HTk.out]; exact HV8.out.fits, each_take (p := fun v => v.zs.length ≤ 35184372088832) HSh.out, HV8.out.heads, each_take (p := fun v => Rd w8.heap.size w8 v.a v.zs) (HB.out.grow HG8.out), each_take (p := fun v => Fit v.zs) HFt.out⟩
          rw [(HQ.out none 0).1] at hcall4
          have HC4 := Lib.hid hcall4
          clear hcall4
          go_wp2_with fail
          refine HC4.out.mono ?_
          rintro e w9 ⟨⟨a9, c9, rfl, B9⟩, g9⟩
          have HS9 := Lib.hid B9
          have HG9 := Lib.hid (HG8.out.trans g9)
          have HG79 := Lib.hid (HG78.out.trans g9)
          clear B9 g9
          go_wp2_with fail
          refine (given_n (n := vs.length - k) (some ⟨b, off + k, none⟩) (cap0 - k) (vs.drop k) _ (List.length_drop) (by omega) (heads_drop _ (HH.out.grow HG9.out))).mono ?_
          rintro e w10 ⟨⟨s10, c10, rfl, B10⟩, g10⟩
          have HV10 := Lib.hid B10
          have HG10 := Lib.hid (HG9.out.trans g10)
          have HG910 := Lib.hid g10
          clear B10 g10
          have HWZ := Lib.hid (HG9.out.size)
          go_wp2_with (at_builtin; refine wpList_append_own _ rfl _ _ 29 rfl w9.heap.size 26 i0 (.slice none 0 0) 1 24 Try.underlying29 hi hy0 hz1 hz2 rfl (by decide) _ (vs.length - k) _ rfl (World.ownsRow.alloc HV10.out _) ⟨w10.heap.size, 0, none⟩ 1 1 [.slice a9 (sumV (vs.take k)).length c9] rfl ?qc1 ?qc2 ?qc3 ?qc4 ?qc5 ?qc6 ?_)
          case qc1 => rfl
          case qc2 => exact (cell_one_new _ _ _)
          case qc3 => intro u hu; simp only [List.mem_singleton] at hu; subst hu; rfl
          case qc4 => unfold maxLen; omega
          case qc5 => omega
          case qc6 => have := HG910.out.size; simp; omega
          intro v' w11 hown hgrow hnil
          have HG1011 : Hid (Below w9.heap.size w9 w11) := Lib.hid (Below.grown (Below.alloc HG910.out HG910.out.size _) hgrow (by have := HG910.out.size; simp; omega) (fun j hj => (World.ownsRow.lt HV10.out j hj).1))
          have HG11 : Hid (Grew w w11) := Lib.hid (HG9.out.trans HG1011.out)
          obtain ⟨s11, c11, rfl, B11⟩ := own_vecs (vs := vs.drop k ++ [⟨a9, c9, sumV (vs.take k)⟩]) (by rw [List.map_append, List.map_drop]; exact hown)
          have HV11 := Lib.hid B11
          clear hown hgrow hnil B11
          have hcall5 := vsum_n s11 c11 (vs.drop k ++ [⟨a9, c9, sumV (vs.take k)⟩]) w11 HV11.out.len ⟨by rw [HV11.out.len]; omega, by rw [HV11.out.len]; exact HV11.out.fits, each_snoc (p := fun v => v.zs.length ≤ 35184372088832) (each_drop (p := fun v => v.zs.length ≤ 35184372088832) HSh.out) (by show (sumV (vs.take k)).length ≤ _; omega), HV11.out.heads, each_snoc (p := fun v => Rd w11.heap.size w11 v.a v.zs) (each_drop (p := fun v => Rd w11.heap.size w11 v.a v.zs) (HB.out.grow HG11.out)) (HS9.out.rd.grow HG1011.out), each_snoc (p := fun v => Fit v.zs) (each_drop (p := fun v => Fit v.zs) HFt.out) (sum_fit _)⟩
          rw [(HQ.out a9 c9).2.2.1, (HQ.out a9 c9).2.2.2] at hcall5
          have HC5 := Lib.hid hcall5
          clear hcall5
          go_wp2_with fail
          refine HC5.out.mono ?_
          rintro e w12 ⟨⟨a12, c12, rfl, B12⟩, g12⟩
          have HB12 := Lib.hid B12
          have HG12 := Lib.hid (HG11.out.trans g12)
          have HG712 : Hid (Grew w7 w12) := Lib.hid ((HG79.out.trans HG1011.out).trans g12)
          clear B12 g12
          go_wp2_with fail
          refine (valive_any _).mono ?_
          rintro e w13 ⟨rfl, g13⟩
          have HG1213 := Lib.hid g13
          have HG13 := Lib.hid (HG12.out.trans g13)
          clear g13
          go_wp2_with fail
          refine (rsame_n a7 a3 c7 c3 (sumV vs) (sumV vs) _ rfl rfl (by omega) (by omega) (HT7.out.grow (HG712.out.trans HG1213.out)).rd (HW4.out.grow (HG47.out.trans (HG712.out.trans HG1213.out))).rd).mono ?_
          rintro e w14 ⟨rfl, g14⟩
          rw [decide_eq_true rfl]
          have HG1214 := Lib.hid (HG1213.out.trans g14)
          clear g14
          go_wp2_with fail
          refine (rsame_n a12 a3 c12 c3 (sumV vs) (sumV vs) _ rfl rfl (by omega) (by omega) (HB12.out.grow HG1214.out).rd (HW4.out.grow (HG47.out.trans (HG712.out.trans HG1214.out))).rd).mono ?_
          rintro e w15 ⟨rfl, g15⟩
          rw [decide_eq_true rfl]
          go_wp2_with fail
          go_ret
          exact ⟨by simp, (HG12.out.trans HG1214.out).trans g15⟩

set_option maxRecDepth 100000 in
theorem lifted (os : Os) (started : os.Started) (H : Type) (enc : TypeId × Value → H) :
    ReturnsInHanded {} Try.checked os 3 .any (Rows.vecSumsSpec.pre6 enc Try.prog Try.f3 Rows.vecSumsRow.domain false) (Rows.vecSumsSpec.post enc Try.prog Try.f3 false true false false) := by
  refine returnsInHanded_of_change (C := Try.checked) own started (by kernel_rfl) Try.func3
    (ChangeSpec.witness6 (enc := enc) (C := Try.checked) false ⟨#[], #[.slice none 0 0, .int .u8 0], []⟩ 8 (by kernel_rfl) (by kernel_rfl) (by kernel_rfl) (by kernel_rfl)) ?_
  intro W base args ds gs before hval0 hW hcnd _
  have hval : ∀ (j : Nat) t v, Try.f3.params[j]? = some t → args[j]? = some v → Value.okWide Try.prog W .any base t v := hval0
  have hW' := hW
  obtain ⟨p, q, hA0, hV, rfl, hfz, hnd⟩ := hW
  have hA : DataW.TrodAll enc Try.prog W 0 (fun _ => true) true Try.f3.params.toList args.toList ds p := hA0
  rw [Try.params3] at hA hval
  obtain ⟨v0, vs0, d0, ds0, p0, q0, hargs, rfl, rfl, h0, r0⟩ := trodAll_cons hA
  obtain ⟨v1, vs1, d1, ds1, p1, q1, rfl, rfl, rfl, h1, r1⟩ := trodAll_cons r0
  obtain ⟨rfl, rfl, rfl⟩ := trodAll_nil r1
  obtain rfl : args = #[v0, v1] := by cases args; simp_all
  obtain ⟨rfl, rfl⟩ := trodVars_none hV
  obtain ⟨a0, len0, cap0, rfl⟩ := okWide_slice Try.underlying22 (hval 0 22 v0 rfl rfl)
  have k0 := h0
  have lt0 : ∀ x ∈ p0, x.block < W.heap.size := by obtain ⟨m, hm⟩ := k0; exact DataW.trod_lt m _ _ _ hm
  obtain ⟨us, w0⟩ : ∃ us, Came W a0 len0 cap0 us := by
    obtain ⟨fuel, hf⟩ := h0
    rcases Go.Deep.open_int_rows Try.underlying22 Try.underlying25 Try.underlying2 (by kernel_rfl) (by kernel_rfl) hf with ⟨hcs, _⟩ | ⟨x, l, c, A, L, C, Z, hcs, _, hl, hm, _, hx⟩
    · simp [Value.cells] at hcs
      obtain ⟨rfl, rfl, rfl⟩ := hcs
      exact ⟨[], came_none W⟩
    · simp [Value.cells] at hcs
      obtain ⟨rfl, rfl, rfl⟩ := hcs
      exact ⟨_, came_some hl hm hx⟩
  obtain ⟨a1, rfl, rfl, rfl, w1⟩ := open_int Try.underlying5 (hval 1 5 v1 rfl rfl) h1
  clear hA0 hval0
  refine (walk a0 len0 cap0 us a1 W w0 w1).mono fun e W' ⟨he, bel⟩ => ?_
  subst he
  exact ⟨_, rfl, _, _, _, [], _, [], hW', trodAll_mk1 (shut_bool Try.underlying4 _), (trodAll_cons_mk (Below.trod laidOut (by kernel_rfl) (of_decide_eq_true (by kernel_rfl)) k0 bel lt0) (trodAll_cons_mk (shut_int Try.underlying5 w1) trodAll_mk0)), rfl, bel.frame _, fun h => by cases h⟩

theorem over : Rows.vecSumsRow.holds Try.pinned (OpenSpec.ofChange Rows.vecSumsSpec) :=
  OpenClaim.holds_of_wide 3 Try.f3 rfl rfl rfl rfl rfl rfl rfl ⟨rfl, rfl, rfl, rfl, rfl⟩ rfl rfl rfl rfl rfl (by kernel_rfl) Try.func3 (by kernel_rfl)
    (of_decide_eq_true (by kernel_rfl)) (by unfold Func.isWrapper; first | (rw [if_pos (by decide +kernel)]; kernel_rfl) | (rw [if_neg (by decide +kernel)]; exact ⟨rfl, rfl⟩))
    (fun os started H enc _ => lifted os started H enc)

theorem proved : Rows.VecSumsSaid := over
end Go.Proofs.Ytdlhpamgjfipfaa.vecSums
