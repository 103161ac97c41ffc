/-
  For all configurations c and numbers x, sakialaw11.ConfChecks(c, x) returns true. No condition.
-/
import Derived.Test.YthcahpgandappaaRows
import Derived.Test.YthcahpgandappaaCc
import Derived.Test.YthcahpgandappaaCd
import Derived.WalkKit
import Derived.ProofKit
import Derived.OpenShut
import Derived.ShutString
import Derived.ChangeOld
import Derived.Below
namespace Go.Proofs.Ythcahpgandappaa.confChecks
open Go.ChangeShapes Go.WideShapes Go.ChangeAt Go.RowKit
open Go.Proofs.Ythcahpgandappaa
set_option linter.unusedVariables false

theorem own : ownKnob Try.prog.godebug = none := by kernel_rfl
theorem laidOut : laidOutB Try.prog = true := by kernel_rfl

set_option maxHeartbeats 1000000 in
theorem aliveC_any (w : World) : Calls Try.prog 6 #[] w fun e w' => e = .returned (.bool true) ∧ Grew w w' := by
  have hk := check_any none 0 ⟨[], 99, 0, 0, 0, 0, 0, 0, 0, 0, 0, 0⟩ w rfl (by decide) (by decide) (Nat.zero_le _) (.inl rfl)
  rw [show codeC ⟨[], 99, 0, 0, 0, 0, 0, 0, 0, 0, 0, 0⟩ = 6 from by decide +kernel] at hk
  have HK := Lib.hid hk
  clear hk
  go_enter Try.func6, Try.ntmps6
  go_wp2_with fail
  refine HK.out.mono ?_
  rintro e w1 ⟨rfl, g1⟩
  go_wp2
  go_ret
  exact ⟨rfl, g1⟩

set_option maxRecDepth 100000 in
set_option maxHeartbeats 4000000 in
theorem walk (a0 : Option Addr) (n0 c0 : Nat) (f0 : Cf) (a1 : Int) (w : World) (w0 : CameC w a0 n0 c0 f0) (w1 : (Lit.int .i64 a1).wf = true) :
    Calls Try.prog 3 #[.agg #[.slice a0 n0 c0, .int .i64 f0.sh, .int .i64 f0.ra, .int .i64 f0.mo, .int .i64 f0.wo, .int .i64 f0.ba, .int .i64 f0.mi, .int .i64 f0.st, .int .i64 f0.bu, .int .i64 f0.ch, .int .i64 f0.wi, .int .i64 f0.ca], .int .i64 a1] w fun e w' => e = .returned (.bool true) ∧ Below w.heap.size w w' := by
  obtain ⟨hn0, hc0, hm0, _, hr0, hz0, bsh0, bra0, bmo0, bwo0, bba0, bmi0, bst0, bbu0, bch0, bwi0, bca0⟩ := w0
  have g0 : Grew w (w.alloc (.cells #[.slice a0 n0 c0, .int .i64 f0.sh, .int .i64 f0.ra, .int .i64 f0.mo, .int .i64 f0.wo, .int .i64 f0.ba, .int .i64 f0.mi, .int .i64 f0.st, .int .i64 f0.bu, .int .i64 f0.ch, .int .i64 f0.wi, .int .i64 f0.ca] 24)) := (Grew.refl w).alloc _
  have HM := Lib.hid (CfM.new w a0 n0 c0 f0)
  have HX := Lib.hid (hr0.grow g0)
  have HG := Lib.hid g0
  have HN := Lib.hid hn0
  clear g0 hn0 hr0 hz0
  by_cases h40 : 40 < n0
  · skip
    go_enter Try.func3, Try.ntmps3
    go_wp2_with fail
    refine (aliveC_any _).mono ?_
    rintro e w2 ⟨rfl, g2⟩
    go_wp2
    go_ret
    exact ⟨rfl, HG.out.trans g2⟩
  · skip
    go_enter Try.func3, Try.ntmps3
    go_wp2_with fail
    generalize hW0 : w.alloc (.cells #[.slice a0 n0 c0, .int .i64 f0.sh, .int .i64 f0.ra, .int .i64 f0.mo, .int .i64 f0.wo, .int .i64 f0.ba, .int .i64 f0.mi, .int .i64 f0.st, .int .i64 f0.bu, .int .i64 f0.ch, .int .i64 f0.wi, .int .i64 f0.ca] 24) = W0 at *
    generalize hb0 : w.heap.size = b0 at *
    refine (check_any a0 c0 f0 W0 HN.out (by omega) hc0 hm0 HX.out).mono ?_
    rintro e w1 ⟨rfl, g1⟩
    have HM1 := HM.out.grow g1
    have HX1 := Lib.hid (HX.out.grow g1)
    have HG1 := Lib.hid (HG.out.trans g1)
    have hlt := HM1.lt
    have q0 := HM1.c0
    have q1 := HM1.c1
    have q2 := HM1.c2
    have q3 := HM1.c3
    have q4 := HM1.c4
    have q5 := HM1.c5
    have q6 := HM1.c6
    have q7 := HM1.c7
    have q8 := HM1.c8
    have q9 := HM1.c9
    have q10 := HM1.c10
    have q11 := HM1.c11
    clear HX HG HM g1
    go_wp2_with fail
    refine (aliveC_any _).mono ?_
    rintro e w2 ⟨rfl, g2⟩
    obtain ⟨m, HMd⟩ : ∃ m, Hid (CfM w2 w1.heap.size a0 n0 c0 { f0 with ra := a1, mo := m }) := ⟨_, Lib.hid ((CfM.new w1 a0 n0 c0 { f0 with ra := a1, mo := _ }).grow g2)⟩
    have hg := ((Grew.refl w1).alloc _).trans g2
    have HM2 := Lib.hid (HM1.grow hg)
    have HX2 := Lib.hid (HX1.out.grow hg)
    have HG2 := Lib.hid (HG1.out.trans hg)
    generalize w1.heap.size = b1 at *
    clear g2 hg hlt HM1 HX1 HG1 q0 q1 q2 q3 q4 q5 q6 q7 q8 q9 q10 q11
    have q0 := HM2.out.c0
    have q1 := HM2.out.c1
    have q2 := HM2.out.c2
    have q3 := HM2.out.c3
    have q4 := HM2.out.c4
    have q5 := HM2.out.c5
    have q6 := HM2.out.c6
    have q7 := HM2.out.c7
    have q8 := HM2.out.c8
    have q9 := HM2.out.c9
    have q10 := HM2.out.c10
    have q11 := HM2.out.c11
    go_wp2_with fail
    refine (rcheckC_any a0 c0 f0 w2 HN.out (by omega) hc0 hm0 HX2.out).mono ?_
    rintro e w3 ⟨rfl, g3⟩
    have HX3 := Lib.hid (HX2.out.grow g3)
    have HG3 := Lib.hid (HG2.out.trans g3)
    have HMd3 := Lib.hid (HMd.out.grow g3)
    have HE : Hid (codeC { f0 with ra := a1, mo := m } = codeC f0) := Lib.hid rfl
    clear g3 HX2 HG2 HM2 HMd q0 q1 q2 q3 q4 q5 q6 q7 q8 q9 q10 q11
    have q0 := HMd3.out.c0
    have q1 := HMd3.out.c1
    have q2 := HMd3.out.c2
    have q3 := HMd3.out.c3
    have q4 := HMd3.out.c4
    have q5 := HMd3.out.c5
    have q6 := HMd3.out.c6
    have q7 := HMd3.out.c7
    have q8 := HMd3.out.c8
    have q9 := HMd3.out.c9
    have q10 := HMd3.out.c10
    have q11 := HMd3.out.c11
    dsimp only at q0 q1 q2 q3 q4 q5 q6 q7 q8 q9 q10 q11
    have HK := Lib.hid (check_any a0 c0 { f0 with ra := a1, mo := m } w3 HN.out (by omega) hc0 hm0 HX3.out)
    rw [HE.out] at HK
    generalize codeC f0 = cv at *
    have hcv : (cv == cv) = true := beq_self_eq_true cv
    go_wp2_with fail
    refine HK.out.mono ?_
    rintro e w4 ⟨rfl, g4⟩
    go_wp2
    go_ret
    exact ⟨ret_bool (by simp), HG3.out.trans g4⟩

set_option maxRecDepth 100000 in
theorem lifted (os : Os) (started : os.Started) (H : Type) (enc : TypeId × Value → H) :
    ReturnsInHanded {} Try.checked os 3 .any (Rows.confChecksSpec.pre6 enc Try.prog Try.f3 Rows.confChecksRow.domain false) (Rows.confChecksSpec.post enc Try.prog Try.f3 false true false false) := by
  refine returnsInHanded_of_change (C := Try.checked) own started (by kernel_rfl) Try.func3
    (ChangeSpec.witness6 (enc := enc) (C := Try.checked) false ⟨#[], #[.agg #[.slice none 0 0, .int .i64 0, .int .i64 0, .int .i64 0, .int .i64 0, .int .i64 0, .int .i64 0, .int .i64 0, .int .i64 0, .int .i64 0, .int .i64 0, .int .i64 0], .int .i64 0], []⟩ 8 (by kernel_rfl) (by kernel_rfl) (by kernel_rfl) (by kernel_rfl)) ?_
  intro W base args ds gs before hval0 hW hcnd _
  have hval : ∀ (j : Nat) t v, Try.f3.params[j]? = some t → args[j]? = some v → Value.okWide Try.prog W .any base t v := hval0
  have hW' := hW
  obtain ⟨p, q, hA0, hV, rfl, hfz, hnd⟩ := hW
  have hA : DataW.TrodAll enc Try.prog W 0 (fun _ => true) true Try.f3.params.toList args.toList ds p := hA0
  rw [Try.params3] at hA hval
  obtain ⟨v0, vs0, d0, ds0, p0, q0, hargs, rfl, rfl, h0, r0⟩ := trodAll_cons hA
  obtain ⟨v1, vs1, d1, ds1, p1, q1, rfl, rfl, rfl, h1, r1⟩ := trodAll_cons r0
  obtain ⟨rfl, rfl, rfl⟩ := trodAll_nil r1
  obtain rfl : args = #[v0, v1] := by cases args; simp_all
  obtain ⟨rfl, rfl⟩ := trodVars_none hV
  have k0 := h0
  have lt0 : ∀ x ∈ p0, x.block < W.heap.size := by obtain ⟨m, hm⟩ := k0; exact DataW.trod_lt m _ _ _ hm
  obtain ⟨a0, n0, c0, f0, rfl, w0⟩ := config_in (hval 0 24 v0 rfl rfl) h0
  obtain ⟨a1, rfl, rfl, rfl, w1⟩ := open_int Try.underlying2 (hval 1 2 v1 rfl rfl) h1
  clear hA0 hval0
  refine (walk a0 n0 c0 f0 a1 W w0 w1).mono fun e W' ⟨he, bel⟩ => ?_
  subst he
  exact ⟨_, rfl, _, _, _, [], _, [], hW', trodAll_mk1 (shut_bool Try.underlying4 _), (trodAll_cons_mk (Below.trod laidOut (by kernel_rfl) (of_decide_eq_true (by kernel_rfl)) k0 bel lt0) (trodAll_cons_mk (shut_int Try.underlying2 w1) trodAll_mk0)), rfl, bel.frame _, fun h => by cases h⟩

theorem over : Rows.confChecksRow.holds Try.pinned (OpenSpec.ofChange Rows.confChecksSpec) :=
  OpenClaim.holds_of_wide 3 Try.f3 rfl rfl rfl rfl rfl rfl rfl ⟨rfl, rfl, rfl, rfl, rfl⟩ rfl rfl rfl rfl rfl (by kernel_rfl) Try.func3 (by kernel_rfl)
    (of_decide_eq_true (by kernel_rfl)) (by unfold Func.isWrapper; first | (rw [if_pos (by decide +kernel)]; kernel_rfl) | (rw [if_neg (by decide +kernel)]; exact ⟨rfl, rfl⟩))
    (fun os started H enc _ => lifted os started H enc)

theorem proved : Rows.ConfChecksSaid := over
end Go.Proofs.Ythcahpgandappaa.confChecks
