/-
  For all lists of numbers, sakialaw06.PermComposes(p, q) returns true. No condition.
-/
import Derived.Test.YthhhbopigehbhaaRows
import Derived.Test.YthhhbopigehbhaaTe
import Derived.Test.YthhhbopigehbhaaTg
import Derived.WalkKit
import Derived.ProofKit
import Derived.OpenShut
import Derived.ShutString
import Derived.ChangeOld
import Derived.Below
import Derived.SizedLaws
namespace Go.Proofs.Ythhhbopigehbhaa.permComposes
open Go.ChangeShapes Go.WideShapes Go.ChangeAt Go.RowKit
open Go.Proofs.Ythhhbopigehbhaa
set_option linter.unusedVariables false

theorem own : ownKnob Try.prog.godebug = none := by kernel_rfl
theorem laidOut : laidOutB Try.prog = true := by kernel_rfl

set_option maxHeartbeats 1000000 in
theorem walk (a0 : Option Addr) (len0 cap0 : Nat) (zs0 : List Int) (a1 : Option Addr) (len1 cap1 : Nat) (zs1 : List Int) (w : World) (w0 : CameK .i64 w a0 len0 cap0 zs0) (w1 : CameK .i64 w a1 len1 cap1 zs1) :
    Calls Try.prog 5 #[.slice a0 len0 cap0, .slice a1 len1 cap1] w fun e w' => e = .returned (.bool true) ∧ Below w.heap.size w w' := by
  obtain ⟨hl0, hlc0, hr0, hrd0, hnn0, hwf0⟩ := w0
  subst hl0
  have hf0 : Fit zs0 := fun j hj => in64_wf (hwf0 j hj)
  have hz0 : zs0.length ≤ 17592186044416 := by omega
  have hcm0 : cap0 ≤ 9223372036854775807 := by omega
  have HX0 := Lib.hid hrd0
  clear hrd0 hwf0 hnn0

  obtain ⟨hl1, hlc1, hr1, hrd1, hnn1, hwf1⟩ := w1
  subst hl1
  have hf1 : Fit zs1 := fun j hj => in64_wf (hwf1 j hj)
  have hz1 : zs1.length ≤ 17592186044416 := by omega
  have hcm1 : cap1 ≤ 9223372036854775807 := by omega
  have HX1 := Lib.hid hrd1
  clear hrd1 hwf1 hnn1

  by_cases hA : 200 < zs0.length
  · skip

    go_enter Try.func5, Try.ntmps5
    go_wp2_with fail
    refine (palive_any _).mono ?_
    rintro e w1 ⟨rfl, g1⟩
    have HG1 := Lib.hid g1
    clear g1
    go_wp2
    go_ret
    exact ⟨rfl, HG1.out⟩

  by_cases hA1 : 200 < zs1.length
  · skip

    go_enter Try.func5, Try.ntmps5
    go_wp2_with fail
    refine (palive_any _).mono ?_
    rintro e w1 ⟨rfl, g1⟩
    have HG1 := Lib.hid g1
    clear g1
    go_wp2
    go_ret
    exact ⟨rfl, HG1.out⟩

  cases hcan : canB zs0 zs1 with
  | false =>
    have HC := Lib.hid hcan
    clear hcan
    go_enter Try.func5, Try.ntmps5
    go_wp2_with fail
    refine (compose_no a0 cap0 zs0 a1 cap1 zs1 w hz0 hz1 hf0 hf1 HX0.out HX1.out HC.out).mono ?_
    rintro e w1 ⟨rfl, g1⟩
    have HG1 := Lib.hid g1
    clear g1
    go_wp2_with fail
    refine (rcompose_no a0 cap0 zs0 a1 cap1 zs1 w1 hz0 hz1 (HX0.out.grow HG1.out) (HX1.out.grow HG1.out) HC.out).mono ?_
    rintro e w2 ⟨rfl, rfl⟩
    go_wp2_with fail
    refine (palive_any _).mono ?_
    rintro e w3 ⟨rfl, g3⟩
    have HG3 := Lib.hid (HG1.out.trans g3)
    clear g3
    go_wp2_with fail
    refine (iequal_n (n := 0) (m := 0) none none 0 0 [] [] w3 rfl rfl (by decide) (by decide) (.inl rfl) (.inl rfl)).mono ?_
    rintro e w4 ⟨rfl, g4⟩
    rw [decide_eq_true rfl]
    have HG4 := Lib.hid (HG3.out.trans g4)
    clear g4
    go_wp2
    go_ret
    exact ⟨rfl, HG4.out⟩
  | true =>
    obtain ⟨hlen, hp, hq⟩ : zs1.length = zs0.length ∧ IsP zs0 ∧ IsP zs1 := by
      unfold canB at hcan
      rw [Bool.and_eq_true, Bool.and_eq_true, decide_eq_true_eq] at hcan
      exact ⟨hcan.1.1.symm, validB_is hcan.1.2, validB_is hcan.2⟩
    have HP := Lib.hid hp
    have HQ := Lib.hid hq
    have HL := Lib.hid hlen
    have HLc := Lib.hid ((compL_len zs0 zs1).trans hlen)
    rw [hlen]
    clear hcan hp hq hlen
    go_enter Try.func5, Try.ntmps5
    go_wp2_with fail
    refine (compose_yes a0 cap0 zs0 a1 cap1 zs1 w hz0 hf0 hf1 HX0.out HX1.out HL.out HP.out HQ.out).mono ?_
    rintro e w1 ⟨⟨a2, c2, rfl, hb1⟩, g1⟩
    have HG1 := Lib.hid g1
    have HB1 := Lib.hid hb1.rd
    clear g1 hb1
    go_wp2_with fail
    refine (rcompose_yes a0 cap0 zs0 a1 cap1 zs1 w1 hz0 (HX0.out.grow HG1.out) (HX1.out.grow HG1.out) HL.out HP.out HQ.out).mono ?_
    rintro e w2 ⟨⟨a3, c3, rfl, hb2⟩, g2⟩
    have HG2 := Lib.hid (HG1.out.trans g2)
    have HB12 := Lib.hid (HB1.out.grow g2)
    have HB2 := Lib.hid hb2.rd
    clear g2 hb2
    go_wp2_with fail
    refine (palive_any _).mono ?_
    rintro e w3 ⟨rfl, g3⟩
    have HG3 := Lib.hid (HG2.out.trans g3)
    have HB13 := Lib.hid (HB12.out.grow g3)
    have HB23 := Lib.hid (HB2.out.grow g3)
    clear g3
    go_wp2_with fail
    refine (iequal_n (n := zs0.length) (m := zs0.length) a2 a3 c2 c3 (compL zs0 zs1) (compL zs0 zs1) w3 HLc.out HLc.out hz0 hz0 HB13.out HB23.out).mono ?_
    rintro e w4 ⟨rfl, g4⟩
    rw [decide_eq_true rfl]
    have HG4 := Lib.hid (HG3.out.trans g4)
    clear g4
    go_wp2
    go_ret
    exact ⟨rfl, HG4.out⟩

set_option maxRecDepth 100000 in
theorem lifted (os : Os) (started : os.Started) (H : Type) (enc : TypeId × Value → H) :
    ReturnsInHanded {} Try.checked os 5 .any (Rows.permComposesSpec.pre6 enc Try.prog Try.f5 Rows.permComposesRow.domain false) (Rows.permComposesSpec.post enc Try.prog Try.f5 false true false false) := by
  refine returnsInHanded_of_change_sized (C := Try.checked) own started (by kernel_rfl) Try.func5
    (ChangeSpec.witness6 (enc := enc) (C := Try.checked) false ⟨#[], #[.slice none 0 0, .slice none 0 0], []⟩ 8 (by kernel_rfl) (by kernel_rfl) (by kernel_rfl) (by kernel_rfl)) ?_
  intro W base args ds gs before hval0 hW hcnd hsz0 _
  have hsz : (DataW.weightsEach Try.prog (Try.f5.params.toList ++ Rows.permComposesSpec.plain.varTypes Try.prog) (ds ++ gs)).all (· ≤ reachBytes) = true := hsz0
  have hval : ∀ (j : Nat) t v, Try.f5.params[j]? = some t → args[j]? = some v → Value.okWide Try.prog W .any base t v := hval0
  have hW' := hW
  obtain ⟨p, q, hA0, hV, rfl, hfz, hnd⟩ := hW
  have hA : DataW.TrodAll enc Try.prog W 0 (fun _ => true) true Try.f5.params.toList args.toList ds p := hA0
  rw [Try.params5] at hA hval hsz
  obtain ⟨v0, vs0, d0, ds0, p0, q0, hargs, rfl, rfl, h0, r0⟩ := trodAll_cons hA
  obtain ⟨v1, vs1, d1, ds1, p1, q1, rfl, rfl, rfl, h1, r1⟩ := trodAll_cons r0
  obtain ⟨rfl, rfl, rfl⟩ := trodAll_nil r1
  obtain rfl : args = #[v0, v1] := by cases args; simp_all
  obtain ⟨rfl, rfl⟩ := trodVars_none hV
  have k0 := h0
  have lt0 : ∀ x ∈ p0, x.block < W.heap.size := by obtain ⟨m, hm⟩ := k0; exact DataW.trod_lt m _ _ _ hm
  obtain ⟨a0, len0, cap0, rfl⟩ := okWide_slice Try.underlying22 (hval 0 22 v0 rfl rfl)
  obtain ⟨zs0, w0⟩ : ∃ us, CameK .i64 W a0 len0 cap0 us := by
    obtain ⟨fuel, hf⟩ := h0
    rcases open_ints Try.underlying22 Try.underlying3 (by kernel_rfl) hf with ⟨hcs, _⟩ | ⟨x, l, c, zs, hcs, _, hl, hm, hz, hx, hcell, hwz⟩
    · simp [Value.cells] at hcs
      obtain ⟨rfl, rfl, rfl⟩ := hcs
      exact ⟨[], cameK_none _ W⟩
    · simp [Value.cells] at hcs
      obtain ⟨rfl, rfl, rfl⟩ := hcs
      simp only [if_true] at hz
      have hd := congrArg Prod.fst hx
      have hreach : cap0 * 8 ≤ 140737488351232 := by
        have hs := sized_slice hsz (j := 0) (t := 22) (e := 3) rfl (congrArg some hd) Try.underlying22
        rw [show Try.prog.bytesOf 3 = 8 from by kernel_rfl] at hs
        simp only [lits, List.length_map, List.length_take, List.length_drop, reachBytes] at hs
        omega
      exact ⟨_, cameK_some hl hreach hz hcell hwz⟩
  have k1 := h1
  have lt1 : ∀ x ∈ p1, x.block < W.heap.size := by obtain ⟨m, hm⟩ := k1; exact DataW.trod_lt m _ _ _ hm
  obtain ⟨a1, len1, cap1, rfl⟩ := okWide_slice Try.underlying22 (hval 1 22 v1 rfl rfl)
  obtain ⟨zs1, w1⟩ : ∃ us, CameK .i64 W a1 len1 cap1 us := by
    obtain ⟨fuel, hf⟩ := h1
    rcases open_ints Try.underlying22 Try.underlying3 (by kernel_rfl) hf with ⟨hcs, _⟩ | ⟨x, l, c, zs, hcs, _, hl, hm, hz, hx, hcell, hwz⟩
    · simp [Value.cells] at hcs
      obtain ⟨rfl, rfl, rfl⟩ := hcs
      exact ⟨[], cameK_none _ W⟩
    · simp [Value.cells] at hcs
      obtain ⟨rfl, rfl, rfl⟩ := hcs
      simp only [if_true] at hz
      have hd := congrArg Prod.fst hx
      have hreach : cap1 * 8 ≤ 140737488351232 := by
        have hs := sized_slice hsz (j := 1) (t := 22) (e := 3) rfl (congrArg some hd) Try.underlying22
        rw [show Try.prog.bytesOf 3 = 8 from by kernel_rfl] at hs
        simp only [lits, List.length_map, List.length_take, List.length_drop, reachBytes] at hs
        omega
      exact ⟨_, cameK_some hl hreach hz hcell hwz⟩
  clear hA0 hval0 hsz hsz0
  refine (walk a0 len0 cap0 zs0 a1 len1 cap1 zs1 W w0 w1).mono fun e W' ⟨he, bel⟩ => ?_
  subst he
  exact ⟨_, rfl, _, _, _, [], _, [], hW', trodAll_mk1 (shut_bool Try.underlying4 _), (trodAll_cons_mk (Below.trod laidOut (by kernel_rfl) (of_decide_eq_true (by kernel_rfl)) k0 bel lt0) (trodAll_cons_mk (Below.trod laidOut (by kernel_rfl) (of_decide_eq_true (by kernel_rfl)) k1 bel lt1) trodAll_mk0)), rfl, bel.frame _, fun h => by cases h⟩

theorem over : Rows.permComposesRow.holds Try.pinned (OpenSpec.ofChange Rows.permComposesSpec) :=
  OpenClaim.holds_of_wide 5 Try.f5 rfl rfl rfl rfl rfl rfl rfl ⟨rfl, rfl, rfl, rfl, rfl⟩ rfl rfl rfl rfl rfl (by kernel_rfl) Try.func5 (by kernel_rfl)
    (of_decide_eq_true (by kernel_rfl)) (by unfold Func.isWrapper; first | (rw [if_pos (by decide +kernel)]; kernel_rfl) | (rw [if_neg (by decide +kernel)]; exact ⟨rfl, rfl⟩))
    (fun os started H enc _ => lifted os started H enc)

theorem proved : Rows.PermComposesSaid := over
end Go.Proofs.Ythhhbopigehbhaa.permComposes
