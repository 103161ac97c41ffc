/-
  For all columns y and x and numbers q, sakialaw07.MatOuters(y, x, q) returns true. No condition.
-/
import Derived.Test.YtklledigcabllaaRows
import Derived.Test.YtklledigcabllaaUw
import Derived.WalkKit
import Derived.ProofKit
import Derived.OpenShut
import Derived.ShutString
import Derived.ChangeOld
import Derived.Below
import Derived.SizedLaws
namespace Go.Proofs.Ytklledigcabllaa.matOuters
open Go.ChangeShapes Go.WideShapes Go.ChangeAt Go.RowKit
open Go.Proofs.Ytklledigcabllaa
set_option linter.unusedVariables false

theorem own : ownKnob Try.prog.godebug = none := by kernel_rfl
theorem laidOut : laidOutB Try.prog = true := by kernel_rfl

set_option maxHeartbeats 2000000 in
theorem walk (a0 : Option Addr) (len0 cap0 : Nat) (zs0 : List Int) (a1 : Option Addr) (len1 cap1 : Nat) (zs1 : List Int) (a2 : Int) (w : World) (w0 : CameK .i64 w a0 len0 cap0 zs0) (w1 : CameK .i64 w a1 len1 cap1 zs1) (w2 : (Lit.int .i64 a2).wf = true) :
    Calls Try.prog 6 #[.slice a0 len0 cap0, .slice a1 len1 cap1, .int .i64 a2] w fun e w' => e = .returned (.bool true) ∧ Below w.heap.size w w' := by
  obtain ⟨hl0, hlc0, hr0, hrd0, hnn0, hwf0⟩ := w0
  have hf0 : Fit zs0 := fun j hj => in64_wf (hwf0 j hj)
  have hcm0 : cap0 ≤ 9223372036854775807 := by omega
  clear hwf0

  obtain ⟨hl1, hlc1, hr1, hrd1, hnn1, hwf1⟩ := w1
  have hf1 : Fit zs1 := fun j hj => in64_wf (hwf1 j hj)
  have hcm1 : cap1 ≤ 9223372036854775807 := by omega
  clear hwf1

  have HG0 : Hid (Grew w w) := Lib.hid (Grew.refl w)
  by_cases hA : 25 < len0
  · skip
    go_enter Try.func6, Try.ntmps6
    go_wp2_with fail
    refine (malive_any _).mono ?_
    rintro e w1_ ⟨rfl, g1⟩
    have HG_1 := Lib.hid (HG0.out.trans g1)
    clear g1
    go_wp2
    go_ret
    exact ⟨rfl, HG_1.out⟩

  by_cases hA1 : 25 < len1
  · skip
    go_enter Try.func6, Try.ntmps6
    go_wp2_with fail
    refine (malive_any _).mono ?_
    rintro e w1_ ⟨rfl, g1⟩
    have HG_1 := Lib.hid (HG0.out.trans g1)
    clear g1
    go_wp2
    go_ret
    exact ⟨rfl, HG_1.out⟩
  · skip

    have HZ0 : Hid (Seen w a0 len0 cap0 zs0) := Lib.hid ⟨hl0, hlc0, hcm0, by omega, hrd0, hf0⟩
    clear hl0 hrd0 hf0

    have HZ1 : Hid (Seen w a1 len1 cap1 zs1) := Lib.hid ⟨hl1, hlc1, hcm1, by omega, hrd1, hf1⟩
    clear hl1 hrd1 hf1
    go_enter Try.func6, Try.ntmps6
    go_wp2_with fail
    refine (outer_all HZ0.out HZ1.out (by omega) (by omega)).mono ?_
    rintro e w1_ ⟨⟨s1, n1, c1, rfl, hs⟩, g1⟩
    have M := Lib.hid hs
    have Y_1 := Lib.hid (HZ0.out.grow g1)
    have X_1 := Lib.hid (HZ1.out.grow g1)
    have HG_1 := Lib.hid (HG0.out.trans g1)
    clear hs
    clear g1
    go_wp2_with fail
    have gA : Grew w1_ (w1_.alloc (.cells #[.int .i64 (outA zs0 zs1 zs0.length), .int .i64 (outA zs0 zs1 zs1.length), .slice s1 n1 c1] 29)) := (Grew.refl _).alloc _
    have Hmb := Lib.hid (Three.new w1_ 29 (.int .i64 (outA zs0 zs1 zs0.length)) (.int .i64 (outA zs0 zs1 zs1.length)) (.slice s1 n1 c1))
    have Y_1a := Lib.hid (Y_1.out.grow gA)
    have X_1a := Lib.hid (X_1.out.grow gA)
    have M_1a := Lib.hid (M.out.grow gA)
    have HG_1a := Lib.hid (HG_1.out.trans gA)
    clear gA
    generalize w1_.alloc (.cells #[.int .i64 (outA zs0 zs1 zs0.length), .int .i64 (outA zs0 zs1 zs1.length), .slice s1 n1 c1] 29) = w1a_ at *
    generalize w1_.heap.size = mb at *
    refine (malive_any _).mono ?_
    rintro e w2_ ⟨rfl, g2⟩
    have Y_2 := Lib.hid (Y_1a.out.grow g2)
    have X_2 := Lib.hid (X_1a.out.grow g2)
    have M_2 := Lib.hid (M_1a.out.grow g2)
    have HG_2 := Lib.hid (HG_1a.out.trans g2)
    have mb_2 := Lib.hid (Hmb.out.grow g2)
    have b0mb_2 := mb_2.out.c0
    have b1mb_2 := mb_2.out.c1
    have b2mb_2 := mb_2.out.c2
    have blmb_2 := mb_2.out.lt
    clear g2
    go_wp2_with fail
    refine (back_any _ _ _ _ _ _).mono ?_
    rintro e w3_ ⟨rfl, g3⟩
    have Y_3 := Lib.hid (Y_2.out.grow g3)
    have X_3 := Lib.hid (X_2.out.grow g3)
    have M_3 := Lib.hid (M_2.out.grow g3)
    have HG_3 := Lib.hid (HG_2.out.trans g3)
    have mb_3 := Lib.hid (mb_2.out.grow g3)
    clear b0mb_2 b1mb_2 b2mb_2 blmb_2
    have b0mb_3 := mb_3.out.c0
    have b1mb_3 := mb_3.out.c1
    have b2mb_3 := mb_3.out.c2
    have blmb_3 := mb_3.out.lt
    clear g3
    go_wp2_with fail
    refine (router_all Y_3.out X_3.out (by omega) (by omega)).mono ?_
    rintro e w4_ ⟨⟨s2, n2, c2, rfl, hs⟩, g4⟩
    have N := Lib.hid hs
    have Y_4 := Lib.hid (Y_3.out.grow g4)
    have X_4 := Lib.hid (X_3.out.grow g4)
    have M_4 := Lib.hid (M_3.out.grow g4)
    have HG_4 := Lib.hid (HG_3.out.trans g4)
    have mb_4 := Lib.hid (mb_3.out.grow g4)
    clear b0mb_3 b1mb_3 b2mb_3 blmb_3
    have b0mb_4 := mb_4.out.c0
    have b1mb_4 := mb_4.out.c1
    have b2mb_4 := mb_4.out.c2
    have blmb_4 := mb_4.out.lt
    clear hs
    clear g4
    go_wp2_with fail
    refine (msame_seen M_4.out N.out).mono ?_
    rintro e w5_ ⟨rfl, g5⟩
    have Y_5 := Lib.hid (Y_4.out.grow g5)
    have X_5 := Lib.hid (X_4.out.grow g5)
    have M_5 := Lib.hid (M_4.out.grow g5)
    have N_5 := Lib.hid (N.out.grow g5)
    have HG_5 := Lib.hid (HG_4.out.trans g5)
    have mb_5 := Lib.hid (mb_4.out.grow g5)
    clear b0mb_4 b1mb_4 b2mb_4 blmb_4
    have b0mb_5 := mb_5.out.c0
    have b1mb_5 := mb_5.out.c1
    have b2mb_5 := mb_5.out.c2
    have blmb_5 := mb_5.out.lt
    clear g5
    go_wp2_with fail
    refine (outer_all X_5.out Y_5.out (by omega) (by omega)).mono ?_
    rintro e w6_ ⟨⟨s3, n3, c3, rfl, hs⟩, g6⟩
    have P := Lib.hid hs
    have Y_6 := Lib.hid (Y_5.out.grow g6)
    have X_6 := Lib.hid (X_5.out.grow g6)
    have M_6 := Lib.hid (M_5.out.grow g6)
    have N_6 := Lib.hid (N_5.out.grow g6)
    have HG_6 := Lib.hid (HG_5.out.trans g6)
    have mb_6 := Lib.hid (mb_5.out.grow g6)
    clear b0mb_5 b1mb_5 b2mb_5 blmb_5
    have b0mb_6 := mb_6.out.c0
    have b1mb_6 := mb_6.out.c1
    have b2mb_6 := mb_6.out.c2
    have blmb_6 := mb_6.out.lt
    clear hs
    clear g6
    go_wp2_with fail
    refine (back_any _ _ _ _ _ _).mono ?_
    rintro e w7_ ⟨rfl, g7⟩
    have Y_7 := Lib.hid (Y_6.out.grow g7)
    have X_7 := Lib.hid (X_6.out.grow g7)
    have M_7 := Lib.hid (M_6.out.grow g7)
    have N_7 := Lib.hid (N_6.out.grow g7)
    have P_7 := Lib.hid (P.out.grow g7)
    have HG_7 := Lib.hid (HG_6.out.trans g7)
    have mb_7 := Lib.hid (mb_6.out.grow g7)
    clear b0mb_6 b1mb_6 b2mb_6 blmb_6
    have b0mb_7 := mb_7.out.c0
    have b1mb_7 := mb_7.out.c1
    have b2mb_7 := mb_7.out.c2
    have blmb_7 := mb_7.out.lt
    clear g7
    go_wp2_with fail
    refine (router_all Y_7.out X_7.out (by omega) (by omega)).mono ?_
    rintro e w8_ ⟨⟨s4, n4, c4, rfl, hs⟩, g8⟩
    have ho := out_turned zs0 zs1 a2 (by rw [HZ0.out.1]; omega) (by rw [HZ1.out.1]; omega)
    rw [hs.1] at ho
    have HO := Lib.hid ho
    clear ho
    have Q := Lib.hid hs
    have Y_8 := Lib.hid (Y_7.out.grow g8)
    have X_8 := Lib.hid (X_7.out.grow g8)
    have M_8 := Lib.hid (M_7.out.grow g8)
    have N_8 := Lib.hid (N_7.out.grow g8)
    have P_8 := Lib.hid (P_7.out.grow g8)
    have HG_8 := Lib.hid (HG_7.out.trans g8)
    have mb_8 := Lib.hid (mb_7.out.grow g8)
    clear b0mb_7 b1mb_7 b2mb_7 blmb_7
    have b0mb_8 := mb_8.out.c0
    have b1mb_8 := mb_8.out.c1
    have b2mb_8 := mb_8.out.c2
    have blmb_8 := mb_8.out.lt
    clear hs
    clear g8
    go_wp2_with fail
    refine (rturn_all Q.out).mono ?_
    rintro e w9_ ⟨⟨s5, n5, c5, rfl, hs⟩, g9⟩
    rw [HO.out.1] at hs
    rw [HO.out.2.1, HO.out.2.2]
    have U := Lib.hid hs
    have Y_9 := Lib.hid (Y_8.out.grow g9)
    have X_9 := Lib.hid (X_8.out.grow g9)
    have M_9 := Lib.hid (M_8.out.grow g9)
    have N_9 := Lib.hid (N_8.out.grow g9)
    have P_9 := Lib.hid (P_8.out.grow g9)
    have Q_9 := Lib.hid (Q.out.grow g9)
    have HG_9 := Lib.hid (HG_8.out.trans g9)
    have mb_9 := Lib.hid (mb_8.out.grow g9)
    clear b0mb_8 b1mb_8 b2mb_8 blmb_8
    have b0mb_9 := mb_9.out.c0
    have b1mb_9 := mb_9.out.c1
    have b2mb_9 := mb_9.out.c2
    have blmb_9 := mb_9.out.lt
    clear hs
    clear g9
    go_wp2_with fail
    refine (msame_seen P_9.out U.out).mono ?_
    rintro e w10_ ⟨rfl, g10⟩
    have Y_10 := Lib.hid (Y_9.out.grow g10)
    have X_10 := Lib.hid (X_9.out.grow g10)
    have M_10 := Lib.hid (M_9.out.grow g10)
    have N_10 := Lib.hid (N_9.out.grow g10)
    have P_10 := Lib.hid (P_9.out.grow g10)
    have Q_10 := Lib.hid (Q_9.out.grow g10)
    have U_10 := Lib.hid (U.out.grow g10)
    have HG_10 := Lib.hid (HG_9.out.trans g10)
    have mb_10 := Lib.hid (mb_9.out.grow g10)
    clear b0mb_9 b1mb_9 b2mb_9 blmb_9
    have b0mb_10 := mb_10.out.c0
    have b1mb_10 := mb_10.out.c1
    have b2mb_10 := mb_10.out.c2
    have blmb_10 := mb_10.out.lt
    clear g10
    go_wp2
    go_ret
    exact ⟨rfl, HG_10.out⟩

set_option maxRecDepth 100000 in
theorem lifted (os : Os) (started : os.Started) (H : Type) (enc : TypeId × Value → H) :
    ReturnsInHanded {} Try.checked os 6 .any (Rows.matOutersSpec.pre6 enc Try.prog Try.f6 Rows.matOutersRow.domain false) (Rows.matOutersSpec.post enc Try.prog Try.f6 false true false false) := by
  refine returnsInHanded_of_change_sized (C := Try.checked) own started (by kernel_rfl) Try.func6
    (ChangeSpec.witness6 (enc := enc) (C := Try.checked) false ⟨#[], #[.slice none 0 0, .slice none 0 0, .int .i64 0], []⟩ 8 (by kernel_rfl) (by kernel_rfl) (by kernel_rfl) (by kernel_rfl)) ?_
  intro W base args ds gs before hval0 hW hcnd hsz0 _
  have hsz : (DataW.weightsEach Try.prog (Try.f6.params.toList ++ Rows.matOutersSpec.plain.varTypes Try.prog) (ds ++ gs)).all (· ≤ reachBytes) = true := hsz0
  have hval : ∀ (j : Nat) t v, Try.f6.params[j]? = some t → args[j]? = some v → Value.okWide Try.prog W .any base t v := hval0
  have hW' := hW
  obtain ⟨p, q, hA0, hV, rfl, hfz, hnd⟩ := hW
  have hA : DataW.TrodAll enc Try.prog W 0 (fun _ => true) true Try.f6.params.toList args.toList ds p := hA0
  rw [Try.params6] at hA hval hsz
  obtain ⟨v0, vs0, d0, ds0, p0, q0, hargs, rfl, rfl, h0, r0⟩ := trodAll_cons hA
  obtain ⟨v1, vs1, d1, ds1, p1, q1, rfl, rfl, rfl, h1, r1⟩ := trodAll_cons r0
  obtain ⟨v2, vs2, d2, ds2, p2, q2, rfl, rfl, rfl, h2, r2⟩ := trodAll_cons r1
  obtain ⟨rfl, rfl, rfl⟩ := trodAll_nil r2
  obtain rfl : args = #[v0, v1, v2] := by cases args; simp_all
  obtain ⟨rfl, rfl⟩ := trodVars_none hV
  have k0 := h0
  have lt0 : ∀ x ∈ p0, x.block < W.heap.size := by obtain ⟨m, hm⟩ := k0; exact DataW.trod_lt m _ _ _ hm
  obtain ⟨a0, len0, cap0, rfl⟩ := okWide_slice Try.underlying22 (hval 0 22 v0 rfl rfl)
  obtain ⟨zs0, w0⟩ : ∃ us, CameK .i64 W a0 len0 cap0 us := by
    obtain ⟨fuel, hf⟩ := h0
    rcases open_ints Try.underlying22 Try.underlying2 (by kernel_rfl) hf with ⟨hcs, _⟩ | ⟨x, l, c, zs, hcs, _, hl, hm, hz, hx, hcell, hwz⟩
    · simp [Value.cells] at hcs
      obtain ⟨rfl, rfl, rfl⟩ := hcs
      exact ⟨[], cameK_none _ W⟩
    · simp [Value.cells] at hcs
      obtain ⟨rfl, rfl, rfl⟩ := hcs
      simp only [if_true] at hz
      have hd := congrArg Prod.fst hx
      have hreach : cap0 * 8 ≤ 140737488351232 := by
        have hs := sized_slice hsz (j := 0) (t := 22) (e := 2) rfl (congrArg some hd) Try.underlying22
        rw [show Try.prog.bytesOf 2 = 8 from by kernel_rfl] at hs
        simp only [lits, List.length_map, List.length_take, List.length_drop, reachBytes] at hs
        omega
      exact ⟨_, cameK_some hl hreach hz hcell hwz⟩
  have k1 := h1
  have lt1 : ∀ x ∈ p1, x.block < W.heap.size := by obtain ⟨m, hm⟩ := k1; exact DataW.trod_lt m _ _ _ hm
  obtain ⟨a1, len1, cap1, rfl⟩ := okWide_slice Try.underlying22 (hval 1 22 v1 rfl rfl)
  obtain ⟨zs1, w1⟩ : ∃ us, CameK .i64 W a1 len1 cap1 us := by
    obtain ⟨fuel, hf⟩ := h1
    rcases open_ints Try.underlying22 Try.underlying2 (by kernel_rfl) hf with ⟨hcs, _⟩ | ⟨x, l, c, zs, hcs, _, hl, hm, hz, hx, hcell, hwz⟩
    · simp [Value.cells] at hcs
      obtain ⟨rfl, rfl, rfl⟩ := hcs
      exact ⟨[], cameK_none _ W⟩
    · simp [Value.cells] at hcs
      obtain ⟨rfl, rfl, rfl⟩ := hcs
      simp only [if_true] at hz
      have hd := congrArg Prod.fst hx
      have hreach : cap1 * 8 ≤ 140737488351232 := by
        have hs := sized_slice hsz (j := 1) (t := 22) (e := 2) rfl (congrArg some hd) Try.underlying22
        rw [show Try.prog.bytesOf 2 = 8 from by kernel_rfl] at hs
        simp only [lits, List.length_map, List.length_take, List.length_drop, reachBytes] at hs
        omega
      exact ⟨_, cameK_some hl hreach hz hcell hwz⟩
  obtain ⟨a2, rfl, rfl, rfl, w2⟩ := open_int Try.underlying3 (hval 2 3 v2 rfl rfl) h2
  clear hA0 hval0 hsz hsz0
  refine (walk a0 len0 cap0 zs0 a1 len1 cap1 zs1 a2 W w0 w1 w2).mono fun e W' ⟨he, bel⟩ => ?_
  subst he
  exact ⟨_, rfl, _, _, _, [], _, [], hW', trodAll_mk1 (shut_bool Try.underlying4 _), (trodAll_cons_mk (Below.trod laidOut (by kernel_rfl) (of_decide_eq_true (by kernel_rfl)) k0 bel lt0) (trodAll_cons_mk (Below.trod laidOut (by kernel_rfl) (of_decide_eq_true (by kernel_rfl)) k1 bel lt1) (trodAll_cons_mk (shut_int Try.underlying3 w2) trodAll_mk0))), rfl, bel.frame _, fun h => by cases h⟩

theorem over : Rows.matOutersRow.holds Try.pinned (OpenSpec.ofChange Rows.matOutersSpec) :=
  OpenClaim.holds_of_wide 6 Try.f6 rfl rfl rfl rfl rfl rfl rfl ⟨rfl, rfl, rfl, rfl, rfl⟩ rfl rfl rfl rfl rfl (by kernel_rfl) Try.func6 (by kernel_rfl)
    (of_decide_eq_true (by kernel_rfl)) (by unfold Func.isWrapper; first | (rw [if_pos (by decide +kernel)]; kernel_rfl) | (rw [if_neg (by decide +kernel)]; exact ⟨rfl, rfl⟩))
    (fun os started H enc _ => lifted os started H enc)

theorem proved : Rows.MatOutersSaid := over
end Go.Proofs.Ytklledigcabllaa.matOuters
