/-
  For all lists of numbers, sakialaw06.PermDraws(p) returns true. No condition.
-/
import Derived.Test.YthhhbopigehbhaaRows
import Derived.Test.YthhhbopigehbhaaTk
import Derived.WalkKit
import Derived.ProofKit
import Derived.OpenShut
import Derived.ShutString
import Derived.ChangeOld
import Derived.Below
import Derived.SizedLaws
namespace Go.Proofs.Ythhhbopigehbhaa.permDraws
open Go.ChangeShapes Go.WideShapes Go.ChangeAt Go.RowKit
open Go.Proofs.Ythhhbopigehbhaa
set_option linter.unusedVariables false

theorem own : ownKnob Try.prog.godebug = none := by kernel_rfl
theorem laidOut : laidOutB Try.prog = true := by kernel_rfl

set_option maxRecDepth 100000 in
set_option maxHeartbeats 1000000 in
theorem walk (a0 : Option Addr) (len0 cap0 : Nat) (zs0 : List Int) (w : World) (w0 : CameK .i64 w a0 len0 cap0 zs0) :
    Calls Try.prog 3 #[.slice a0 len0 cap0] w fun e w' => e = .returned (.bool true) ∧ Below w.heap.size w w' := by
  obtain ⟨hl0, hlc0, hr0, hrd0, hnn0, hwf0⟩ := w0
  subst hl0
  have hf0 : Fit zs0 := fun j hj => in64_wf (hwf0 j hj)
  have hz0 : zs0.length ≤ 17592186044416 := by omega
  have hcm0 : cap0 ≤ 9223372036854775807 := by omega
  have HX0 := Lib.hid hrd0
  clear hrd0 hwf0 hnn0

  by_cases hA : 200 < zs0.length
  · skip

    go_enter Try.func3, Try.ntmps3
    go_wp2_with fail
    refine (palive_any _).mono ?_
    rintro e w1 ⟨rfl, g1⟩
    have HG1 := Lib.hid g1
    clear g1
    go_wp2
    go_ret
    exact ⟨rfl, HG1.out⟩

  cases hv : validB zs0 with
  | false =>
    have HV := Lib.hid hv
    clear hv
    go_enter Try.func3, Try.ntmps3
    go_wp2_with fail
    refine (draws_no a0 cap0 zs0 w hz0 hf0 HX0.out HV.out).mono ?_
    rintro e w1 ⟨rfl, g1⟩
    have HG1 := Lib.hid g1
    clear g1
    go_wp2_with fail
    refine (rdraws_no a0 cap0 zs0 w1 hz0 (HX0.out.grow HG1.out) HV.out).mono ?_
    rintro e w2 ⟨rfl, rfl⟩
    go_wp2_with fail
    refine (uequal_n (n := 0) (m := 0) none none 0 0 [] [] w1 rfl rfl (by decide) (by decide) (.inl rfl) (.inl rfl)).mono ?_
    rintro e w4 ⟨rfl, g4⟩
    rw [decide_eq_true rfl]
    have HG4 := Lib.hid (HG1.out.trans g4)
    clear g4
    go_wp2_with fail
    refine (palive_any _).mono ?_
    rintro e w7 ⟨rfl, g7⟩
    have HG7 := Lib.hid (HG4.out.trans g7)
    clear g7
    go_wp2
    go_ret
    exact ⟨rfl, HG7.out⟩
  | true =>
    have HP := Lib.hid (validB_is hv)
    have HLd := Lib.hid (drawsL_len zs0)
    have HU := Lib.hid (drawsL_u64 hz0 HP.out)
    have HSh := Lib.hid (shuf_draws HP.out)
    obtain ⟨m, hm⟩ : ∃ m, m = zs0.length - 1 := ⟨_, rfl⟩
    have HC1 := Lib.hid (draws_yes a0 cap0 zs0 w hz0 hf0 HX0.out HP.out)
    have HC2 := Lib.hid (fun (W : World) (hW : Grew w W) => rdraws_yes a0 cap0 zs0 W hz0 (HX0.out.grow hW) HP.out)
    have HC3 := Lib.hid (fun (W : World) (b : Nat) (hS : Stm b W b (drawsL zs0) 0) => shuffle_yes (n := zs0.length) (by omega) (by rw [HLd.out]; omega) HU.out hS (by rw [HLd.out]; omega))
    rw [← hm] at HC1 HC2 HC3 HLd HSh
    have hmz : m ≤ zs0.length := by omega
    clear hv hm
    go_enter Try.func3, Try.ntmps3
    go_wp2_with fail
    refine HC1.out.mono ?_
    rintro e w1 ⟨⟨a1, c1, rfl, hb1⟩, g1⟩
    have HG1 := Lib.hid g1
    have HB1 := Lib.hid hb1.rd
    have hcm1 : c1 ≤ 9223372036854775807 := hb1.fits.2
    clear g1 hb1
    go_wp2_with fail
    refine (HC2.out w1 HG1.out).mono ?_
    rintro e w2 ⟨⟨a2, c2, rfl, hb2⟩, g2⟩
    have HG2 := Lib.hid (HG1.out.trans g2)
    have HB12 := Lib.hid (HB1.out.grow g2)
    have HB2 := Lib.hid hb2.rd
    clear g2 hb2
    go_wp2_with fail
    refine (uequal_n (n := m) (m := m) a1 a2 c1 c2 (drawsL zs0) (drawsL zs0) w2 HLd.out HLd.out (by omega) (by omega) HB12.out HB2.out).mono ?_
    rintro e w3 ⟨rfl, g3⟩
    rw [decide_eq_true rfl]
    have HG3 := Lib.hid (HG2.out.trans g3)
    have HB13 := Lib.hid (HB12.out.grow g3)
    clear g3
    go_wp2_with fail
    refine (new_n (n := m) a1 c1 (drawsL zs0) w3 HLd.out (by omega) HB13.out).mono ?_
    rintro e w4 ⟨⟨b, rfl, hb, hs⟩, g4⟩
    have HG4 := Lib.hid (HG3.out.trans g4)
    have HS4 := Lib.hid hs
    have hb0 : w.heap.size ≤ b := Nat.le_trans HG3.out.size hb
    clear hs g4 hb
    go_wp2_with fail
    refine (HC3.out w4 b HS4.out).mono ?_
    rintro e w5 ⟨⟨a5, c5, rfl, hb5⟩, _, g5⟩
    rw [HSh.out] at hb5
    have HB5 := Lib.hid hb5.rd
    have HG5 : Hid (Grew w w5) := Lib.hid (grew_marked HG4.out g5 hb0)
    clear g5 hb5
    go_wp2_with fail
    refine (palive_any _).mono ?_
    rintro e w6 ⟨rfl, g6⟩
    have HG6 := Lib.hid (HG5.out.trans g6)
    have HB6 := Lib.hid (HB5.out.grow g6)
    clear g6
    go_wp2_with fail
    refine (iequal_any a5 a0 c5 cap0 zs0 zs0 w6 hz0 hz0 HB6.out (HX0.out.grow HG6.out)).mono ?_
    rintro e w7 ⟨rfl, g7⟩
    rw [decide_eq_true rfl]
    have HG7 := Lib.hid (HG6.out.trans g7)
    clear g7
    go_wp2
    go_ret
    exact ⟨rfl, HG7.out⟩

set_option maxRecDepth 100000 in
theorem lifted (os : Os) (started : os.Started) (H : Type) (enc : TypeId × Value → H) :
    ReturnsInHanded {} Try.checked os 3 .any (Rows.permDrawsSpec.pre6 enc Try.prog Try.f3 Rows.permDrawsRow.domain false) (Rows.permDrawsSpec.post enc Try.prog Try.f3 false true false false) := by
  refine returnsInHanded_of_change_sized (C := Try.checked) own started (by kernel_rfl) Try.func3
    (ChangeSpec.witness6 (enc := enc) (C := Try.checked) false ⟨#[], #[.slice none 0 0], []⟩ 8 (by kernel_rfl) (by kernel_rfl) (by kernel_rfl) (by kernel_rfl)) ?_
  intro W base args ds gs before hval0 hW hcnd hsz0 _
  have hsz : (DataW.weightsEach Try.prog (Try.f3.params.toList ++ Rows.permDrawsSpec.plain.varTypes Try.prog) (ds ++ gs)).all (· ≤ reachBytes) = true := hsz0
  have hval : ∀ (j : Nat) t v, Try.f3.params[j]? = some t → args[j]? = some v → Value.okWide Try.prog W .any base t v := hval0
  have hW' := hW
  obtain ⟨p, q, hA0, hV, rfl, hfz, hnd⟩ := hW
  have hA : DataW.TrodAll enc Try.prog W 0 (fun _ => true) true Try.f3.params.toList args.toList ds p := hA0
  rw [Try.params3] at hA hval hsz
  obtain ⟨v0, vs0, d0, ds0, p0, q0, hargs, rfl, rfl, h0, r0⟩ := trodAll_cons hA
  obtain ⟨rfl, rfl, rfl⟩ := trodAll_nil r0
  obtain rfl : args = #[v0] := by cases args; simp_all
  obtain ⟨rfl, rfl⟩ := trodVars_none hV
  have k0 := h0
  have lt0 : ∀ x ∈ p0, x.block < W.heap.size := by obtain ⟨m, hm⟩ := k0; exact DataW.trod_lt m _ _ _ hm
  obtain ⟨a0, len0, cap0, rfl⟩ := okWide_slice Try.underlying22 (hval 0 22 v0 rfl rfl)
  obtain ⟨zs0, w0⟩ : ∃ us, CameK .i64 W a0 len0 cap0 us := by
    obtain ⟨fuel, hf⟩ := h0
    rcases open_ints Try.underlying22 Try.underlying3 (by kernel_rfl) hf with ⟨hcs, _⟩ | ⟨x, l, c, zs, hcs, _, hl, hm, hz, hx, hcell, hwz⟩
    · simp [Value.cells] at hcs
      obtain ⟨rfl, rfl, rfl⟩ := hcs
      exact ⟨[], cameK_none _ W⟩
    · simp [Value.cells] at hcs
      obtain ⟨rfl, rfl, rfl⟩ := hcs
      simp only [if_true] at hz
      have hd := congrArg Prod.fst hx
      have hreach : cap0 * 8 ≤ 140737488351232 := by
        have hs := sized_slice hsz (j := 0) (t := 22) (e := 3) rfl (congrArg some hd) Try.underlying22
        rw [show Try.prog.bytesOf 3 = 8 from by kernel_rfl] at hs
        simp only [lits, List.length_map, List.length_take, List.length_drop, reachBytes] at hs
        omega
      exact ⟨_, cameK_some hl hreach hz hcell hwz⟩
  clear hA0 hval0 hsz hsz0
  refine (walk a0 len0 cap0 zs0 W w0).mono fun e W' ⟨he, bel⟩ => ?_
  subst he
  exact ⟨_, rfl, _, _, _, [], _, [], hW', trodAll_mk1 (shut_bool Try.underlying4 _), (trodAll_cons_mk (Below.trod laidOut (by kernel_rfl) (of_decide_eq_true (by kernel_rfl)) k0 bel lt0) trodAll_mk0), rfl, bel.frame _, fun h => by cases h⟩

theorem over : Rows.permDrawsRow.holds Try.pinned (OpenSpec.ofChange Rows.permDrawsSpec) :=
  OpenClaim.holds_of_wide 3 Try.f3 rfl rfl rfl rfl rfl rfl rfl ⟨rfl, rfl, rfl, rfl, rfl⟩ rfl rfl rfl rfl rfl (by kernel_rfl) Try.func3 (by kernel_rfl)
    (of_decide_eq_true (by kernel_rfl)) (by unfold Func.isWrapper; first | (rw [if_pos (by decide +kernel)]; kernel_rfl) | (rw [if_neg (by decide +kernel)]; exact ⟨rfl, rfl⟩))
    (fun os started H enc _ => lifted os started H enc)

theorem proved : Rows.PermDrawsSaid := over
end Go.Proofs.Ythhhbopigehbhaa.permDraws
