/-
  For all matrices, columns and numbers q, sakialaw07.MatProducts(m, x, q) returns true. No condition.
-/
import Derived.Test.YtklledigcabllaaRows
import Derived.Test.YtklledigcabllaaUw
import Derived.Lib.SmallJoins
import Derived.WalkKit
import Derived.ProofKit
import Derived.OpenShut
import Derived.ShutString
import Derived.ChangeOld
import Derived.Below
import Derived.SizedLaws
namespace Go.Proofs.Ytklledigcabllaa.matProducts
open Go.ChangeShapes Go.WideShapes Go.ChangeAt Go.RowKit
open Go.Proofs.Ytklledigcabllaa
set_option linter.unusedVariables false

theorem own : ownKnob Try.prog.godebug = none := by kernel_rfl
theorem laidOut : laidOutB Try.prog = true := by kernel_rfl

set_option maxHeartbeats 2000000 in
theorem walk (R0 C0 : Int) (a0 : Option Addr) (len0 cap0 : Nat) (zs0 : List Int) (a1 : Option Addr) (len1 cap1 : Nat) (zs1 : List Int) (a2 : Int) (w : World) (w0 : CameM w R0 C0 a0 len0 cap0 zs0) (w1 : CameK .i64 w a1 len1 cap1 zs1) (w2 : (Lit.int .i64 a2).wf = true) :
    Calls Try.prog 4 #[.agg #[.int .i64 R0, .int .i64 C0, .slice a0 len0 cap0], .slice a1 len1 cap1, .int .i64 a2] w fun e w' => e = .returned (.bool true) ∧ Below w.heap.size w w' := by
  obtain ⟨wR0, wC0, hl0, hlc0, hcm0, hrd0, hnn0, hf0⟩ := w0

  obtain ⟨hl1, hlc1, hr1, hrd1, hnn1, hwf1⟩ := w1
  have hf1 : Fit zs1 := fun j hj => in64_wf (hwf1 j hj)
  have hcm1 : cap1 ≤ 9223372036854775807 := by omega
  clear hwf1

  have HG0 : Hid (Grew w (w.alloc (.cells #[.int .i64 R0, .int .i64 C0, .slice a0 len0 cap0] 24))) := Lib.hid ((Grew.refl w).alloc _)
  have HM0 := Lib.hid (Three.new w 24 (.int .i64 R0) (.int .i64 C0) (.slice a0 len0 cap0))

  by_cases hA : 600 < len0
  · skip
    go_enter Try.func4, Try.ntmps4
    go_wp2_with fail
    refine (few_any R0 C0 a0 len0 cap0 _).mono ?_
    rintro e w1_ ⟨rfl, g1⟩
    have HG_1 := Lib.hid (HG0.out.trans g1)
    have HM_1 := Lib.hid (HM0.out.grow g1)
    have m0_1 := HM_1.out.c0
    have m1_1 := HM_1.out.c1
    have m2_1 := HM_1.out.c2
    have hl_1 := HM_1.out.lt
    clear g1
    rw [decide_eq_false (by omega)]
    go_wp2_with fail
    refine (malive_any _).mono ?_
    rintro e w2_ ⟨rfl, g2⟩
    have HG_2 := Lib.hid (HG_1.out.trans g2)
    have HM_2 := Lib.hid (HM_1.out.grow g2)
    clear m0_1 m1_1 m2_1 hl_1
    have m0_2 := HM_2.out.c0
    have m1_2 := HM_2.out.c1
    have m2_2 := HM_2.out.c2
    have hl_2 := HM_2.out.lt
    clear g2
    go_wp2
    go_ret
    exact ⟨rfl, HG_2.out⟩

  by_cases hA1 : 600 < len1
  · skip
    go_enter Try.func4, Try.ntmps4
    go_wp2_with fail
    refine (few_any R0 C0 a0 len0 cap0 _).mono ?_
    rintro e w1_ ⟨rfl, g1⟩
    have HG_1 := Lib.hid (HG0.out.trans g1)
    have HM_1 := Lib.hid (HM0.out.grow g1)
    have m0_1 := HM_1.out.c0
    have m1_1 := HM_1.out.c1
    have m2_1 := HM_1.out.c2
    have hl_1 := HM_1.out.lt
    clear g1
    rw [decide_eq_true (by omega)]
    go_wp2_with fail
    refine (malive_any _).mono ?_
    rintro e w2_ ⟨rfl, g2⟩
    have HG_2 := Lib.hid (HG_1.out.trans g2)
    have HM_2 := Lib.hid (HM_1.out.grow g2)
    clear m0_1 m1_1 m2_1 hl_1
    have m0_2 := HM_2.out.c0
    have m1_2 := HM_2.out.c1
    have m2_2 := HM_2.out.c2
    have hl_2 := HM_2.out.lt
    clear g2
    go_wp2
    go_ret
    exact ⟨rfl, HG_2.out⟩
  · skip

    have HZ0 : Hid (Seen w a0 len0 cap0 zs0) := Lib.hid ⟨hl0, hlc0, hcm0, by omega, hrd0, hf0⟩
    clear hl0 hrd0 hf0

    have HZ1 : Hid (Seen w a1 len1 cap1 zs1) := Lib.hid ⟨hl1, hlc1, hcm1, by omega, hrd1, hf1⟩
    clear hl1 hrd1 hf1
    go_enter Try.func4, Try.ntmps4
    have Z0 := Lib.hid (HZ0.out.grow HG0.out)
    have X0 := Lib.hid (HZ1.out.grow HG0.out)
    go_wp2_with fail
    refine (few_any R0 C0 a0 len0 cap0 _).mono ?_
    rintro e w1_ ⟨rfl, g1⟩
    have Z_1 := Lib.hid (Z0.out.grow g1)
    have X_1 := Lib.hid (X0.out.grow g1)
    have HG_1 := Lib.hid (HG0.out.trans g1)
    have HM_1 := Lib.hid (HM0.out.grow g1)
    have m0_1 := HM_1.out.c0
    have m1_1 := HM_1.out.c1
    have m2_1 := HM_1.out.c2
    have hl_1 := HM_1.out.lt
    clear g1
    rw [decide_eq_true (by omega)]
    go_wp2_with fail
    refine (given_any R0 C0 a0 len0 cap0 _).mono ?_
    rintro e w2_ ⟨rfl, g2⟩
    have Z_2 := Lib.hid (Z_1.out.grow g2)
    have X_2 := Lib.hid (X_1.out.grow g2)
    have HG_2 := Lib.hid (HG_1.out.trans g2)
    have HM_2 := Lib.hid (HM_1.out.grow g2)
    clear m0_1 m1_1 m2_1 hl_1
    have m0_2 := HM_2.out.c0
    have m1_2 := HM_2.out.c1
    have m2_2 := HM_2.out.c2
    have hl_2 := HM_2.out.lt
    clear g2
    go_wp2_with fail
    refine (mul_all Z_2.out X_2.out).mono ?_
    rintro e w3_ ⟨⟨s1, n1, c1, rfl, hs⟩, g3⟩
    have A := Lib.hid hs
    have Z_3 := Lib.hid (Z_2.out.grow g3)
    have X_3 := Lib.hid (X_2.out.grow g3)
    have HG_3 := Lib.hid (HG_2.out.trans g3)
    have HM_3 := Lib.hid (HM_2.out.grow g3)
    clear m0_2 m1_2 m2_2 hl_2
    have m0_3 := HM_3.out.c0
    have m1_3 := HM_3.out.c1
    have m2_3 := HM_3.out.c2
    have hl_3 := HM_3.out.lt
    clear hs
    clear g3
    go_wp2_with fail
    refine (given_any R0 C0 a0 len0 cap0 _).mono ?_
    rintro e w4_ ⟨rfl, g4⟩
    have Z_4 := Lib.hid (Z_3.out.grow g4)
    have X_4 := Lib.hid (X_3.out.grow g4)
    have A_4 := Lib.hid (A.out.grow g4)
    have HG_4 := Lib.hid (HG_3.out.trans g4)
    have HM_4 := Lib.hid (HM_3.out.grow g4)
    clear m0_3 m1_3 m2_3 hl_3
    have m0_4 := HM_4.out.c0
    have m1_4 := HM_4.out.c1
    have m2_4 := HM_4.out.c2
    have hl_4 := HM_4.out.lt
    clear g4
    go_wp2_with fail
    refine (back_all Z_4.out X_4.out).mono ?_
    rintro e w5_ ⟨⟨s2, n2, c2, rfl, hs⟩, g5⟩
    have B := Lib.hid hs
    have Z_5 := Lib.hid (Z_4.out.grow g5)
    have X_5 := Lib.hid (X_4.out.grow g5)
    have A_5 := Lib.hid (A_4.out.grow g5)
    have HG_5 := Lib.hid (HG_4.out.trans g5)
    have HM_5 := Lib.hid (HM_4.out.grow g5)
    clear m0_4 m1_4 m2_4 hl_4
    have m0_5 := HM_5.out.c0
    have m1_5 := HM_5.out.c1
    have m2_5 := HM_5.out.c2
    have hl_5 := HM_5.out.lt
    clear hs
    clear g5
    go_wp2_with fail
    refine (rmul_all Z_5.out X_5.out).mono ?_
    rintro e w6_ ⟨⟨s3, n3, c3, rfl, hs⟩, g6⟩
    have Y := Lib.hid hs
    have Z_6 := Lib.hid (Z_5.out.grow g6)
    have X_6 := Lib.hid (X_5.out.grow g6)
    have A_6 := Lib.hid (A_5.out.grow g6)
    have B_6 := Lib.hid (B.out.grow g6)
    have HG_6 := Lib.hid (HG_5.out.trans g6)
    have HM_6 := Lib.hid (HM_5.out.grow g6)
    clear m0_5 m1_5 m2_5 hl_5
    have m0_6 := HM_6.out.c0
    have m1_6 := HM_6.out.c1
    have m2_6 := HM_6.out.c2
    have hl_6 := HM_6.out.lt
    clear hs
    clear g6
    go_wp2_with fail
    refine (rback_all Z_6.out X_6.out).mono ?_
    rintro e w7_ ⟨⟨s4, n4, c4, rfl, hs⟩, g7⟩
    have V := Lib.hid hs
    have Z_7 := Lib.hid (Z_6.out.grow g7)
    have X_7 := Lib.hid (X_6.out.grow g7)
    have A_7 := Lib.hid (A_6.out.grow g7)
    have B_7 := Lib.hid (B_6.out.grow g7)
    have Y_7 := Lib.hid (Y.out.grow g7)
    have HG_7 := Lib.hid (HG_6.out.trans g7)
    have HM_7 := Lib.hid (HM_6.out.grow g7)
    clear m0_6 m1_6 m2_6 hl_6
    have m0_7 := HM_7.out.c0
    have m1_7 := HM_7.out.c1
    have m2_7 := HM_7.out.c2
    have hl_7 := HM_7.out.lt
    clear hs
    clear g7
    generalize mulB R0 C0 len0 len1 = b1 at *
    generalize backB R0 C0 len0 len1 = b2 at *
    have hbb1 : (b1 == b1) = true := beq_self_eq_true b1
    have hbb2 : (b2 == b2) = true := beq_self_eq_true b2
    go_wp2_with fail
    refine (malive_any _).mono ?_
    rintro e w8_ ⟨rfl, g8⟩
    have Z_8 := Lib.hid (Z_7.out.grow g8)
    have X_8 := Lib.hid (X_7.out.grow g8)
    have A_8 := Lib.hid (A_7.out.grow g8)
    have B_8 := Lib.hid (B_7.out.grow g8)
    have Y_8 := Lib.hid (Y_7.out.grow g8)
    have V_8 := Lib.hid (V.out.grow g8)
    have HG_8 := Lib.hid (HG_7.out.trans g8)
    have HM_8 := Lib.hid (HM_7.out.grow g8)
    clear m0_7 m1_7 m2_7 hl_7
    have m0_8 := HM_8.out.c0
    have m1_8 := HM_8.out.c1
    have m2_8 := HM_8.out.c2
    have hl_8 := HM_8.out.lt
    clear g8
    go_wp2_with fail
    refine (same_seen A_8.out Y_8.out).mono ?_
    rintro e w9_ ⟨rfl, g9⟩
    have Z_9 := Lib.hid (Z_8.out.grow g9)
    have X_9 := Lib.hid (X_8.out.grow g9)
    have A_9 := Lib.hid (A_8.out.grow g9)
    have B_9 := Lib.hid (B_8.out.grow g9)
    have Y_9 := Lib.hid (Y_8.out.grow g9)
    have V_9 := Lib.hid (V_8.out.grow g9)
    have HG_9 := Lib.hid (HG_8.out.trans g9)
    have HM_9 := Lib.hid (HM_8.out.grow g9)
    clear m0_8 m1_8 m2_8 hl_8
    have m0_9 := HM_9.out.c0
    have m1_9 := HM_9.out.c1
    have m2_9 := HM_9.out.c2
    have hl_9 := HM_9.out.lt
    clear g9
    go_wp2_with fail
    refine (same_seen B_9.out V_9.out).mono ?_
    rintro e w10_ ⟨rfl, g10⟩
    have Z_10 := Lib.hid (Z_9.out.grow g10)
    have X_10 := Lib.hid (X_9.out.grow g10)
    have A_10 := Lib.hid (A_9.out.grow g10)
    have B_10 := Lib.hid (B_9.out.grow g10)
    have Y_10 := Lib.hid (Y_9.out.grow g10)
    have V_10 := Lib.hid (V_9.out.grow g10)
    have HG_10 := Lib.hid (HG_9.out.trans g10)
    have HM_10 := Lib.hid (HM_9.out.grow g10)
    clear m0_9 m1_9 m2_9 hl_9
    have m0_10 := HM_10.out.c0
    have m1_10 := HM_10.out.c1
    have m2_10 := HM_10.out.c2
    have hl_10 := HM_10.out.lt
    clear g10
    go_wp2
    go_ret
    exact ⟨rfl, HG_10.out⟩

set_option maxRecDepth 100000 in
theorem lifted (os : Os) (started : os.Started) (H : Type) (enc : TypeId × Value → H) :
    ReturnsInHanded {} Try.checked os 4 .any (Rows.matProductsSpec.pre6 enc Try.prog Try.f4 Rows.matProductsRow.domain false) (Rows.matProductsSpec.post enc Try.prog Try.f4 false true false false) := by
  refine returnsInHanded_of_change_sized (C := Try.checked) own started (by kernel_rfl) Try.func4
    (ChangeSpec.witness6 (enc := enc) (C := Try.checked) false ⟨#[], #[.agg #[.int .i64 0, .int .i64 0, .slice none 0 0], .slice none 0 0, .int .i64 0], []⟩ 8 (by kernel_rfl) (by kernel_rfl) (by kernel_rfl) (by kernel_rfl)) ?_
  intro W base args ds gs before hval0 hW hcnd hsz0 _
  have hsz : (DataW.weightsEach Try.prog (Try.f4.params.toList ++ Rows.matProductsSpec.plain.varTypes Try.prog) (ds ++ gs)).all (· ≤ reachBytes) = true := hsz0
  have hval : ∀ (j : Nat) t v, Try.f4.params[j]? = some t → args[j]? = some v → Value.okWide Try.prog W .any base t v := hval0
  have hW' := hW
  obtain ⟨p, q, hA0, hV, rfl, hfz, hnd⟩ := hW
  have hA : DataW.TrodAll enc Try.prog W 0 (fun _ => true) true Try.f4.params.toList args.toList ds p := hA0
  rw [Try.params4] at hA hval hsz
  obtain ⟨v0, vs0, d0, ds0, p0, q0, hargs, rfl, rfl, h0, r0⟩ := trodAll_cons hA
  obtain ⟨v1, vs1, d1, ds1, p1, q1, rfl, rfl, rfl, h1, r1⟩ := trodAll_cons r0
  obtain ⟨v2, vs2, d2, ds2, p2, q2, rfl, rfl, rfl, h2, r2⟩ := trodAll_cons r1
  obtain ⟨rfl, rfl, rfl⟩ := trodAll_nil r2
  obtain rfl : args = #[v0, v1, v2] := by cases args; simp_all
  obtain ⟨rfl, rfl⟩ := trodVars_none hV
  have k0 := h0
  have lt0 : ∀ x ∈ p0, x.block < W.heap.size := by obtain ⟨m, hm⟩ := k0; exact DataW.trod_lt m _ _ _ hm
  obtain ⟨c00, c10, c20, y00, y10, y20, m0, rfl, rfl, rfl, hy00, hy10, hy20⟩ := Joins.open_agg3 Try.underlying24 (by kernel_rfl) (by kernel_rfl) (hval 0 24 v0 rfl rfl) h0
  obtain ⟨R0, e00, rfl, wR0⟩ := DataW.trod_int Try.underlying3 hy00
  obtain ⟨C0, e10, rfl, wC0⟩ := DataW.trod_int Try.underlying3 hy10
  simp at e00 e10
  subst e00 e10
  obtain ⟨a0, len0, cap0, zs0, rfl, w0⟩ : ∃ a l c us, c20 = .slice a l c ∧ CameM W R0 C0 a l c us := by
    rcases open_ints Try.underlying22 Try.underlying2 (by kernel_rfl) hy20 with ⟨hcs, _⟩ | ⟨x, l, c, zs, hcs, _, hl, hm, hz, hx, hcell, hwz⟩
    · simp at hcs
      subst hcs
      exact ⟨none, 0, 0, [], rfl, cameM_none wR0 wC0⟩
    · simp at hcs
      subst hcs
      simp only [if_true] at hz
      exact ⟨some x, l, c, _, rfl, cameM_some wR0 wC0 hl hm hz hcell hwz⟩
  have k1 := h1
  have lt1 : ∀ x ∈ p1, x.block < W.heap.size := by obtain ⟨m, hm⟩ := k1; exact DataW.trod_lt m _ _ _ hm
  obtain ⟨a1, len1, cap1, rfl⟩ := okWide_slice Try.underlying22 (hval 1 22 v1 rfl rfl)
  obtain ⟨zs1, w1⟩ : ∃ us, CameK .i64 W a1 len1 cap1 us := by
    obtain ⟨fuel, hf⟩ := h1
    rcases open_ints Try.underlying22 Try.underlying2 (by kernel_rfl) hf with ⟨hcs, _⟩ | ⟨x, l, c, zs, hcs, _, hl, hm, hz, hx, hcell, hwz⟩
    · simp [Value.cells] at hcs
      obtain ⟨rfl, rfl, rfl⟩ := hcs
      exact ⟨[], cameK_none _ W⟩
    · simp [Value.cells] at hcs
      obtain ⟨rfl, rfl, rfl⟩ := hcs
      simp only [if_true] at hz
      have hd := congrArg Prod.fst hx
      have hreach : cap1 * 8 ≤ 140737488351232 := by
        have hs := sized_slice hsz (j := 1) (t := 22) (e := 2) rfl (congrArg some hd) Try.underlying22
        rw [show Try.prog.bytesOf 2 = 8 from by kernel_rfl] at hs
        simp only [lits, List.length_map, List.length_take, List.length_drop, reachBytes] at hs
        omega
      exact ⟨_, cameK_some hl hreach hz hcell hwz⟩
  obtain ⟨a2, rfl, rfl, rfl, w2⟩ := open_int Try.underlying3 (hval 2 3 v2 rfl rfl) h2
  clear hA0 hval0 hsz hsz0
  refine (walk R0 C0 a0 len0 cap0 zs0 a1 len1 cap1 zs1 a2 W w0 w1 w2).mono fun e W' ⟨he, bel⟩ => ?_
  subst he
  exact ⟨_, rfl, _, _, _, [], _, [], hW', trodAll_mk1 (shut_bool Try.underlying4 _), (trodAll_cons_mk (Below.trod laidOut (by kernel_rfl) (of_decide_eq_true (by kernel_rfl)) k0 bel lt0) (trodAll_cons_mk (Below.trod laidOut (by kernel_rfl) (of_decide_eq_true (by kernel_rfl)) k1 bel lt1) (trodAll_cons_mk (shut_int Try.underlying3 w2) trodAll_mk0))), rfl, bel.frame _, fun h => by cases h⟩

theorem over : Rows.matProductsRow.holds Try.pinned (OpenSpec.ofChange Rows.matProductsSpec) :=
  OpenClaim.holds_of_wide 4 Try.f4 rfl rfl rfl rfl rfl rfl rfl ⟨rfl, rfl, rfl, rfl, rfl⟩ rfl rfl rfl rfl rfl (by kernel_rfl) Try.func4 (by kernel_rfl)
    (of_decide_eq_true (by kernel_rfl)) (by unfold Func.isWrapper; first | (rw [if_pos (by decide +kernel)]; kernel_rfl) | (rw [if_neg (by decide +kernel)]; exact ⟨rfl, rfl⟩))
    (fun os started H enc _ => lifted os started H enc)

theorem proved : Rows.MatProductsSaid := over
end Go.Proofs.Ytklledigcabllaa.matProducts
