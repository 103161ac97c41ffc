/-
  For all lists of numbers, sakialaw06.PermCycles(p) returns true. No condition.
-/
import Derived.Test.YthhhbopigehbhaaRows
import Derived.Test.YthhhbopigehbhaaTr
import Derived.Test.YthhhbopigehbhaaTg
import Derived.WalkKit
import Derived.ProofKit
import Derived.OpenShut
import Derived.ShutString
import Derived.ChangeOld
import Derived.Below
import Derived.SizedLaws
namespace Go.Proofs.Ythhhbopigehbhaa.permCycles
open Go.ChangeShapes Go.WideShapes Go.ChangeAt Go.RowKit
open Go.Proofs.Ythhhbopigehbhaa
set_option linter.unusedVariables false

theorem own : ownKnob Try.prog.godebug = none := by kernel_rfl
theorem laidOut : laidOutB Try.prog = true := by kernel_rfl

set_option maxRecDepth 100000 in
set_option maxHeartbeats 1000000 in
theorem walk (a0 : Option Addr) (len0 cap0 : Nat) (zs0 : List Int) (w : World) (w0 : CameK .i64 w a0 len0 cap0 zs0) :
    Calls Try.prog 6 #[.slice a0 len0 cap0] w fun e w' => e = .returned (.bool true) ∧ Below w.heap.size w w' := by
  obtain ⟨hl0, hlc0, hr0, hrd0, hnn0, hwf0⟩ := w0
  subst hl0
  have hf0 : Fit zs0 := fun j hj => in64_wf (hwf0 j hj)
  have hz0 : zs0.length ≤ 17592186044416 := by omega
  have hcm0 : cap0 ≤ 9223372036854775807 := by omega
  have HX0 := Lib.hid hrd0
  clear hrd0 hwf0 hnn0

  by_cases hA : 200 < zs0.length
  · skip

    go_enter Try.func6, Try.ntmps6
    go_wp2_with fail
    refine (palive_any _).mono ?_
    rintro e w1 ⟨rfl, g1⟩
    have HG1 := Lib.hid g1
    clear g1
    go_wp2
    go_ret
    exact ⟨rfl, HG1.out⟩

  cases hv : validB zs0 with
  | false =>
    have HV := Lib.hid hv
    clear hv
    go_enter Try.func6, Try.ntmps6
    go_wp2_with fail
    refine (cycles_no a0 cap0 zs0 w hz0 hf0 HX0.out HV.out).mono ?_
    rintro e w1 ⟨rfl, g1⟩
    have HG1 := Lib.hid g1
    clear g1
    go_wp2_with fail
    refine (rcycles_no a0 cap0 zs0 w1 hz0 (HX0.out.grow HG1.out) HV.out).mono ?_
    rintro e w2 ⟨rfl, rfl⟩
    go_wp2
    go_loopw [36] (fun i wr => i = .int .i64 0 ∧ wr = w1) (fun i _ => 0)
    case atStart => exact ⟨rfl, rfl⟩
    case round =>
      obtain ⟨rfl, rfl⟩ := hrel
      go_wp2_with fail
      refine (palive_any _).mono ?_
      rintro e w7 ⟨rfl, g7⟩
      have HG7 := Lib.hid (HG1.out.trans g7)
      clear g7
      go_wp2
      go_ret
      exact ⟨rfl, HG7.out⟩
  | true =>
    have HP := Lib.hid (validB_is hv)
    have HTot := Lib.hid (cycs_all HP.out)
    have hfew := cycs_few zs0 zs0.length
    have HC1 := Lib.hid (cycles_yes a0 cap0 zs0 w (by omega) hf0 HX0.out HP.out)
    have HC2 := Lib.hid (fun (W : World) (hW : Grew w W) => rcycles_yes a0 cap0 zs0 W (by omega) (HX0.out.grow hW) HP.out)
    clear hv
    generalize cycs zs0 zs0.length = ls at *
    go_enter Try.func6, Try.ntmps6
    go_wp2_with fail
    refine HC1.out.mono ?_
    rintro e w1 ⟨⟨v1, rfl, hl1⟩, g1⟩
    have HG1 := Lib.hid g1
    obtain ⟨a1, c1, rfl⟩ := hl1.slice
    have HL1 := Lib.hid hl1
    clear g1 hl1
    go_wp2_with fail
    refine (HC2.out w1 HG1.out).mono ?_
    rintro e w2 ⟨⟨v2, rfl, hl2⟩, g2⟩
    have HG2 := Lib.hid (HG1.out.trans g2)
    have HL12 := Lib.hid (HL1.out.grow g2)
    obtain ⟨a2, c2, rfl⟩ := hl2.slice
    have HL2 := Lib.hid hl2
    clear g2 hl2
    go_wp2
    go_loopw [7, 36] (fun s i wr => ∃ k : Nat, k ≤ ls.length ∧ i = .int .i64 k ∧ s = .int .i64 (sumTo ls k : Nat) ∧ Hid (Grew w2 wr)) (fun _ i _ => ls.length - (intOf i).toNat)
    case atStart => exact ⟨0, Nat.zero_le _, rfl, rfl, Lib.hid (Grew.refl _)⟩
    case round =>
      obtain ⟨k, hk, rfl, rfl, HG⟩ := hrel
      have hsum := sumTo_in hk
      rw [HTot.out] at hsum
      by_cases hlt : k < ls.length
      · have hstep := sumTo_succ hlt
        have hsum1 := sumTo_in (ls := ls) (j := k + 1) hlt
        rw [HTot.out, hstep] at hsum1
        obtain ⟨g, aj, cj, rfl, hg, hc, hr⟩ := (HL12.out.grow HG.out).at hlt
        obtain ⟨g', aj', cj', rfl, hg', hc', hr'⟩ := (HL2.out.grow HG.out).at hlt
        have HR := Lib.hid hr
        have HR' := Lib.hid hr'
        have HS := Lib.hid hstep
        clear hr hr' hstep
        generalize sumTo ls k = s at *
        generalize rowAt ls k = row at *
        have hrow : row.length ≤ 17592186044416 := by omega
        go_wp2_with fail
        refine (iequal_any aj aj' cj cj' row row _ hrow hrow HR.out HR'.out).mono ?_
        rintro e w3 ⟨rfl, g3⟩
        rw [decide_eq_true rfl]
        have HG3 := Lib.hid (HG.out.trans g3)
        clear g3 hc hc'
        go_wp2
        go_roundw
        case rel => exact ⟨k + 1, by omega, by go_num, by rw [HS.out]; go_num, HG3⟩
        case measure => simp [intOf]; omega
      · obtain rfl : k = ls.length := by omega
        have HAll : Hid (sumTo ls ls.length = zs0.length) := Lib.hid ((sumTo_all ls).trans HTot.out)
        rw [HAll.out]
        go_wp2_with fail
        refine (palive_any _).mono ?_
        rintro e w7 ⟨rfl, g7⟩
        have HG7 := Lib.hid ((HG2.out.trans HG.out).trans g7)
        clear g7
        go_wp2
        go_ret
        exact ⟨rfl, HG7.out⟩

set_option maxRecDepth 100000 in
theorem lifted (os : Os) (started : os.Started) (H : Type) (enc : TypeId × Value → H) :
    ReturnsInHanded {} Try.checked os 6 .any (Rows.permCyclesSpec.pre6 enc Try.prog Try.f6 Rows.permCyclesRow.domain false) (Rows.permCyclesSpec.post enc Try.prog Try.f6 false true false false) := by
  refine returnsInHanded_of_change_sized (C := Try.checked) own started (by kernel_rfl) Try.func6
    (ChangeSpec.witness6 (enc := enc) (C := Try.checked) false ⟨#[], #[.slice none 0 0], []⟩ 8 (by kernel_rfl) (by kernel_rfl) (by kernel_rfl) (by kernel_rfl)) ?_
  intro W base args ds gs before hval0 hW hcnd hsz0 _
  have hsz : (DataW.weightsEach Try.prog (Try.f6.params.toList ++ Rows.permCyclesSpec.plain.varTypes Try.prog) (ds ++ gs)).all (· ≤ reachBytes) = true := hsz0
  have hval : ∀ (j : Nat) t v, Try.f6.params[j]? = some t → args[j]? = some v → Value.okWide Try.prog W .any base t v := hval0
  have hW' := hW
  obtain ⟨p, q, hA0, hV, rfl, hfz, hnd⟩ := hW
  have hA : DataW.TrodAll enc Try.prog W 0 (fun _ => true) true Try.f6.params.toList args.toList ds p := hA0
  rw [Try.params6] at hA hval hsz
  obtain ⟨v0, vs0, d0, ds0, p0, q0, hargs, rfl, rfl, h0, r0⟩ := trodAll_cons hA
  obtain ⟨rfl, rfl, rfl⟩ := trodAll_nil r0
  obtain rfl : args = #[v0] := by cases args; simp_all
  obtain ⟨rfl, rfl⟩ := trodVars_none hV
  have k0 := h0
  have lt0 : ∀ x ∈ p0, x.block < W.heap.size := by obtain ⟨m, hm⟩ := k0; exact DataW.trod_lt m _ _ _ hm
  obtain ⟨a0, len0, cap0, rfl⟩ := okWide_slice Try.underlying22 (hval 0 22 v0 rfl rfl)
  obtain ⟨zs0, w0⟩ : ∃ us, CameK .i64 W a0 len0 cap0 us := by
    obtain ⟨fuel, hf⟩ := h0
    rcases open_ints Try.underlying22 Try.underlying3 (by kernel_rfl) hf with ⟨hcs, _⟩ | ⟨x, l, c, zs, hcs, _, hl, hm, hz, hx, hcell, hwz⟩
    · simp [Value.cells] at hcs
      obtain ⟨rfl, rfl, rfl⟩ := hcs
      exact ⟨[], cameK_none _ W⟩
    · simp [Value.cells] at hcs
      obtain ⟨rfl, rfl, rfl⟩ := hcs
      simp only [if_true] at hz
      have hd := congrArg Prod.fst hx
      have hreach : cap0 * 8 ≤ 140737488351232 := by
        have hs := sized_slice hsz (j := 0) (t := 22) (e := 3) rfl (congrArg some hd) Try.underlying22
        rw [show Try.prog.bytesOf 3 = 8 from by kernel_rfl] at hs
        simp only [lits, List.length_map, List.length_take, List.length_drop, reachBytes] at hs
        omega
      exact ⟨_, cameK_some hl hreach hz hcell hwz⟩
  clear hA0 hval0 hsz hsz0
  refine (walk a0 len0 cap0 zs0 W w0).mono fun e W' ⟨he, bel⟩ => ?_
  subst he
  exact ⟨_, rfl, _, _, _, [], _, [], hW', trodAll_mk1 (shut_bool Try.underlying4 _), (trodAll_cons_mk (Below.trod laidOut (by kernel_rfl) (of_decide_eq_true (by kernel_rfl)) k0 bel lt0) trodAll_mk0), rfl, bel.frame _, fun h => by cases h⟩

theorem over : Rows.permCyclesRow.holds Try.pinned (OpenSpec.ofChange Rows.permCyclesSpec) :=
  OpenClaim.holds_of_wide 6 Try.f6 rfl rfl rfl rfl rfl rfl rfl ⟨rfl, rfl, rfl, rfl, rfl⟩ rfl rfl rfl rfl rfl (by kernel_rfl) Try.func6 (by kernel_rfl)
    (of_decide_eq_true (by kernel_rfl)) (by unfold Func.isWrapper; first | (rw [if_pos (by decide +kernel)]; kernel_rfl) | (rw [if_neg (by decide +kernel)]; exact ⟨rfl, rfl⟩))
    (fun os started H enc _ => lifted os started H enc)

theorem proved : Rows.PermCyclesSaid := over
end Go.Proofs.Ythhhbopigehbhaa.permCycles
