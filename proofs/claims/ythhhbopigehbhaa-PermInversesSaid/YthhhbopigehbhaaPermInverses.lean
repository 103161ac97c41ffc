/-
  For all lists of numbers, sakialaw06.PermInverses(p) returns true. No condition.
-/
import Derived.Test.YthhhbopigehbhaaRows
import Derived.Test.YthhhbopigehbhaaTh
import Derived.Test.YthhhbopigehbhaaTg
import Derived.WalkKit
import Derived.ProofKit
import Derived.OpenShut
import Derived.ShutString
import Derived.ChangeOld
import Derived.Below
import Derived.SizedLaws
namespace Go.Proofs.Ythhhbopigehbhaa.permInverses
open Go.ChangeShapes Go.WideShapes Go.ChangeAt Go.RowKit
open Go.Proofs.Ythhhbopigehbhaa
set_option linter.unusedVariables false

theorem own : ownKnob Try.prog.godebug = none := by kernel_rfl
theorem laidOut : laidOutB Try.prog = true := by kernel_rfl

set_option maxRecDepth 100000 in
set_option maxHeartbeats 1000000 in
theorem walk (a0 : Option Addr) (len0 cap0 : Nat) (zs0 : List Int) (w : World) (w0 : CameK .i64 w a0 len0 cap0 zs0) :
    Calls Try.prog 4 #[.slice a0 len0 cap0] w fun e w' => e = .returned (.bool true) ∧ Below w.heap.size w w' := by
  obtain ⟨hl0, hlc0, hr0, hrd0, hnn0, hwf0⟩ := w0
  subst hl0
  have hf0 : Fit zs0 := fun j hj => in64_wf (hwf0 j hj)
  have hz0 : zs0.length ≤ 17592186044416 := by omega
  have hcm0 : cap0 ≤ 9223372036854775807 := by omega
  have HX0 := Lib.hid hrd0
  clear hrd0 hwf0 hnn0

  by_cases hA : 200 < zs0.length
  · skip

    go_enter Try.func4, Try.ntmps4
    go_wp2_with fail
    refine (palive_any _).mono ?_
    rintro e w1 ⟨rfl, g1⟩
    have HG1 := Lib.hid g1
    clear g1
    go_wp2
    go_ret
    exact ⟨rfl, HG1.out⟩

  cases hv : validB zs0 with
  | false =>
    have hn0 : zs0.length ≠ 0 := by
      intro e
      have hp : IsP zs0 := ⟨fun j hj => by omega, fun i j hi => by omega⟩
      rw [validB_yes hp] at hv
      cases hv
    have HV := Lib.hid hv
    clear hv
    go_enter Try.func4, Try.ntmps4
    go_wp2_with fail
    refine (inverse_no a0 cap0 zs0 w hz0 hf0 HX0.out HV.out).mono ?_
    rintro e w1 ⟨rfl, g1⟩
    have HG1 := Lib.hid g1
    clear g1
    go_wp2_with fail
    refine (rinverse_no a0 cap0 zs0 w1 hz0 (HX0.out.grow HG1.out) HV.out).mono ?_
    rintro e w2 ⟨⟨a2, c2, rfl, hb2⟩, g2⟩
    have HG2 := Lib.hid (HG1.out.trans g2)
    clear g2 hb2
    go_wp2_with fail
    refine (iequal_n (n := 0) (m := 0) none a2 0 c2 [] [] w2 rfl rfl (by decide) (by decide) (.inl rfl) (.inl rfl)).mono ?_
    rintro e w4 ⟨rfl, g4⟩
    rw [decide_eq_true rfl]
    have HG4 := Lib.hid (HG2.out.trans g4)
    clear g4
    go_wp2_with fail
    refine (valid_any a0 cap0 zs0 w4 hz0 hf0 (HX0.out.grow HG4.out)).mono ?_
    rintro e w5 ⟨rfl, g5⟩
    rw [HV.out]
    have HG5 := Lib.hid (HG4.out.trans g5)
    clear g5
    go_wp2_with fail
    refine (compose_no a0 cap0 zs0 none 0 [] w5 hz0 (by decide) hf0 (fun j hj => by simp at hj) (HX0.out.grow HG5.out) (.inl rfl) (canB_bad HV.out)).mono ?_
    rintro e w6 ⟨rfl, g6⟩
    have HG6 := Lib.hid (HG5.out.trans g6)
    clear g6
    go_wp2_with fail
    refine (palive_any _).mono ?_
    rintro e w7 ⟨rfl, g7⟩
    have HG7 := Lib.hid (HG6.out.trans g7)
    clear g7
    go_wp2
    go_ret
    exact ⟨rfl, HG7.out⟩
  | true =>
    have HV := Lib.hid hv
    have HP := Lib.hid (validB_is hv)
    have HQ := Lib.hid (invL_isP HP.out)
    have HFq := Lib.hid (fit_isP (by rw [invL_len]; exact hz0) HQ.out)
    have HLi := Lib.hid (invL_len zs0)
    have HLc := Lib.hid ((compL_len zs0 (invL zs0)).trans HLi.out)
    have HId := Lib.hid (fun j hj => comp_inv HP.out (j := j) hj)
    clear hv
    go_enter Try.func4, Try.ntmps4
    go_wp2_with fail
    refine (inverse_yes a0 cap0 zs0 w hz0 hf0 HX0.out HP.out).mono ?_
    rintro e w1 ⟨⟨a1, c1, rfl, hb1⟩, g1⟩
    have HG1 := Lib.hid g1
    have HB1 := Lib.hid hb1.rd
    clear g1 hb1
    go_wp2_with fail
    refine (rinverse_yes a0 cap0 zs0 w1 hz0 (HX0.out.grow HG1.out) HV.out).mono ?_
    rintro e w2 ⟨⟨a2, c2, rfl, hb2⟩, g2⟩
    have HG2 := Lib.hid (HG1.out.trans g2)
    have HB12 := Lib.hid (HB1.out.grow g2)
    have HB2 := Lib.hid hb2.rd
    clear g2 hb2
    go_wp2_with fail
    refine (iequal_n (n := zs0.length) (m := zs0.length) a1 a2 c1 c2 (invL zs0) (invL zs0) w2 HLi.out HLi.out hz0 hz0 HB12.out HB2.out).mono ?_
    rintro e w4 ⟨rfl, g4⟩
    rw [decide_eq_true rfl]
    have HG4 := Lib.hid (HG2.out.trans g4)
    have HB14 := Lib.hid (HB12.out.grow g4)
    clear g4
    go_wp2_with fail
    refine (valid_any a0 cap0 zs0 w4 hz0 hf0 (HX0.out.grow HG4.out)).mono ?_
    rintro e w5 ⟨rfl, g5⟩
    rw [HV.out]
    have HG5 := Lib.hid (HG4.out.trans g5)
    have HB15 := Lib.hid (HB14.out.grow g5)
    clear g5
    go_wp2_with fail
    refine (compose_yes a0 cap0 zs0 a1 c1 (invL zs0) w5 hz0 hf0 HFq.out (HX0.out.grow HG5.out) HB15.out HLi.out HP.out HQ.out).mono ?_
    rintro e w6 ⟨⟨a6, c6, rfl, hb6⟩, g6⟩
    have HG6 := Lib.hid (HG5.out.trans g6)
    have HB6 := Lib.hid hb6.rd
    clear g6 hb6
    go_wp2
    go_loopw [60] (fun i wr => ∃ k : Nat, k ≤ zs0.length ∧ i = .int .i64 k ∧ wr = w6) (fun i _ => zs0.length - (intOf i).toNat)
    case atStart => exact ⟨0, Nat.zero_le _, rfl, rfl⟩
    case round =>
      obtain ⟨k, hk, rfl, rfl⟩ := hrel
      by_cases hlt : k < zs0.length
      · obtain ⟨g, off, rfl, hg, hc⟩ := HB6.out.at (k := k) (by rw [HLc.out]; exact hlt)
        rw [HId.out k hlt] at hc
        go_wp2
        go_roundw
        case rel => exact ⟨k + 1, by omega, by go_num, trivial⟩
        case measure => simp [intOf]; omega
      · obtain rfl : k = zs0.length := by omega
        go_wp2_with fail
        refine (palive_any _).mono ?_
        rintro e w7 ⟨rfl, g7⟩
        have HG7 := Lib.hid (HG6.out.trans g7)
        clear g7
        go_wp2
        go_ret
        exact ⟨rfl, HG7.out⟩

set_option maxRecDepth 100000 in
theorem lifted (os : Os) (started : os.Started) (H : Type) (enc : TypeId × Value → H) :
    ReturnsInHanded {} Try.checked os 4 .any (Rows.permInversesSpec.pre6 enc Try.prog Try.f4 Rows.permInversesRow.domain false) (Rows.permInversesSpec.post enc Try.prog Try.f4 false true false false) := by
  refine returnsInHanded_of_change_sized (C := Try.checked) own started (by kernel_rfl) Try.func4
    (ChangeSpec.witness6 (enc := enc) (C := Try.checked) false ⟨#[], #[.slice none 0 0], []⟩ 8 (by kernel_rfl) (by kernel_rfl) (by kernel_rfl) (by kernel_rfl)) ?_
  intro W base args ds gs before hval0 hW hcnd hsz0 _
  have hsz : (DataW.weightsEach Try.prog (Try.f4.params.toList ++ Rows.permInversesSpec.plain.varTypes Try.prog) (ds ++ gs)).all (· ≤ reachBytes) = true := hsz0
  have hval : ∀ (j : Nat) t v, Try.f4.params[j]? = some t → args[j]? = some v → Value.okWide Try.prog W .any base t v := hval0
  have hW' := hW
  obtain ⟨p, q, hA0, hV, rfl, hfz, hnd⟩ := hW
  have hA : DataW.TrodAll enc Try.prog W 0 (fun _ => true) true Try.f4.params.toList args.toList ds p := hA0
  rw [Try.params4] at hA hval hsz
  obtain ⟨v0, vs0, d0, ds0, p0, q0, hargs, rfl, rfl, h0, r0⟩ := trodAll_cons hA
  obtain ⟨rfl, rfl, rfl⟩ := trodAll_nil r0
  obtain rfl : args = #[v0] := by cases args; simp_all
  obtain ⟨rfl, rfl⟩ := trodVars_none hV
  have k0 := h0
  have lt0 : ∀ x ∈ p0, x.block < W.heap.size := by obtain ⟨m, hm⟩ := k0; exact DataW.trod_lt m _ _ _ hm
  obtain ⟨a0, len0, cap0, rfl⟩ := okWide_slice Try.underlying22 (hval 0 22 v0 rfl rfl)
  obtain ⟨zs0, w0⟩ : ∃ us, CameK .i64 W a0 len0 cap0 us := by
    obtain ⟨fuel, hf⟩ := h0
    rcases open_ints Try.underlying22 Try.underlying3 (by kernel_rfl) hf with ⟨hcs, _⟩ | ⟨x, l, c, zs, hcs, _, hl, hm, hz, hx, hcell, hwz⟩
    · simp [Value.cells] at hcs
      obtain ⟨rfl, rfl, rfl⟩ := hcs
      exact ⟨[], cameK_none _ W⟩
    · simp [Value.cells] at hcs
      obtain ⟨rfl, rfl, rfl⟩ := hcs
      simp only [if_true] at hz
      have hd := congrArg Prod.fst hx
      have hreach : cap0 * 8 ≤ 140737488351232 := by
        have hs := sized_slice hsz (j := 0) (t := 22) (e := 3) rfl (congrArg some hd) Try.underlying22
        rw [show Try.prog.bytesOf 3 = 8 from by kernel_rfl] at hs
        simp only [lits, List.length_map, List.length_take, List.length_drop, reachBytes] at hs
        omega
      exact ⟨_, cameK_some hl hreach hz hcell hwz⟩
  clear hA0 hval0 hsz hsz0
  refine (walk a0 len0 cap0 zs0 W w0).mono fun e W' ⟨he, bel⟩ => ?_
  subst he
  exact ⟨_, rfl, _, _, _, [], _, [], hW', trodAll_mk1 (shut_bool Try.underlying4 _), (trodAll_cons_mk (Below.trod laidOut (by kernel_rfl) (of_decide_eq_true (by kernel_rfl)) k0 bel lt0) trodAll_mk0), rfl, bel.frame _, fun h => by cases h⟩

theorem over : Rows.permInversesRow.holds Try.pinned (OpenSpec.ofChange Rows.permInversesSpec) :=
  OpenClaim.holds_of_wide 4 Try.f4 rfl rfl rfl rfl rfl rfl rfl ⟨rfl, rfl, rfl, rfl, rfl⟩ rfl rfl rfl rfl rfl (by kernel_rfl) Try.func4 (by kernel_rfl)
    (of_decide_eq_true (by kernel_rfl)) (by unfold Func.isWrapper; first | (rw [if_pos (by decide +kernel)]; kernel_rfl) | (rw [if_neg (by decide +kernel)]; exact ⟨rfl, rfl⟩))
    (fun os started H enc _ => lifted os started H enc)

theorem proved : Rows.PermInversesSaid := over
end Go.Proofs.Ythhhbopigehbhaa.permInverses
