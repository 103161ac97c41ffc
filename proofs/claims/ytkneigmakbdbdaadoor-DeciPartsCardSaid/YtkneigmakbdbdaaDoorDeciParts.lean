/-
  DeciParts: Whole and Part return the results of the reference, and make up the number. The listed tables hold what the program's start lays.
-/
import Derived.Test.YtkneigmakbdbdaaDoorCards
import Derived.Test.YtkneigmakbdbdaaDoorTie
import Derived.Test.YtkneigmakbdbdaaDoorYe
import Derived.Deep.DeepHandedRow
import Derived.Lib.LaidTab
import Derived.Lay
import Derived.Stop.LaidErr
import Derived.Lib.ItoaNum
import Derived.WalkKit
import Derived.ProofKit
import Derived.OpenShut
import Derived.ShutString
import Derived.ChangeOld
import Derived.Below
namespace Go.Proofs.YtkneigmakbdbdaaDoor.deciParts
open Go.ChangeShapes Go.WideShapes Go.ChangeAt Go.RowKit Go.Proofs.YtkneigmakbdbdaaDoor
open Go.ChangeMaps (open_string shut_string)
set_option linter.unusedVariables false

theorem whole_yes {x : Int} {q : Nat} (hq : q ≤ 62) (x0 : -9223372036854775808 ≤ x) (x1 : x ≤ 9223372036854775807) : mulV x 1 (q : Int) = x / 2 ^ q := by
  rw [mulV_yes (by omega) (by omega), Int.toNat_natCast, Int.mul_one]
  have := div_bound (q := q) x0 x1
  exact wrap64_id this.1 this.2
/-- What the statement reckons: the shifted integer part and the fraction bits are the number. -/
theorem parts_sum {x : Int} {q : Nat} (hq : q ≤ 62) (x0 : -9223372036854775808 ≤ x) (x1 : x ≤ 9223372036854775807) : wrap64 (wrap64 (x / 2 ^ q * 2 ^ q) + x % 2 ^ q) = x := by
  have h1 := whole_part x q
  generalize x / 2 ^ q * 2 ^ q = z at *
  generalize x % 2 ^ q = r at *
  unfold wrap64; omega

theorem own : ownKnob Tryd.prog.godebug = none := by kernel_rfl
theorem laidOut : laidOutB Tryd.prog = true := by kernel_rfl


theorem gTab : Tryd.prog.globalNamed "internal/strconv.uint64pow10" = some 0 := by kernel_rfl
theorem gTabType : (Tryd.prog.globals[0]?).map (·.type) = some 85 := by kernel_rfl
theorem cellsTab : Tryd.prog.cellsOf 85 = 20 := by kernel_rfl
theorem cellsElem : Tryd.prog.cellsOf 30 = 1 := by kernel_rfl
theorem powTab : Lib.pow10Tab = [1, 10, 100, 1000, 10000, 100000, 1000000, 10000000, 100000000, 1000000000, 10000000000, 100000000000, 1000000000000, 10000000000000, 100000000000000, 1000000000000000, 10000000000000000, 100000000000000000, 1000000000000000000, 10000000000000000000] := by decide +kernel
/-- What the row's list gives: the table of powers of ten. -/
theorem table {W : World} (h0 : laidMetH Tryd.prog Rows.deciPartsRow.laid W) : Lib.TabIs Tryd.prog W "internal/strconv.uint64pow10" .u64 Lib.pow10Tab := by
  have h : laidMet Tryd.prog Rows.deciPartsRow.laid W := h0
  rw [powTab]
  exact Lib.tabIs_of_head (rest := []) gTab gTabType Tryd.underlying85 Tryd.underlying30 cellsElem cellsTab (h.tail.tail)

theorem walk (a0 : Int) (a1 : Int) (w : World) (w0 : (Lit.int .i64 a0).wf = true) (w1 : (Lit.int .i64 a1).wf = true)
    (hT : Lib.TabIs Tryd.prog w "internal/strconv.uint64pow10" .u64 Lib.pow10Tab) :
    Calls Tryd.prog 6 #[.int .i64 a0, .int .i64 a1] w fun e w' => e = .returned (.bool true) ∧ Below w.heap.size w w' := by
  obtain ⟨b00, b01⟩ := i64_wf w0
  obtain ⟨b10, b11⟩ := i64_wf w1
  clear w0 w1
  by_cases h : 0 ≤ a1 ∧ a1 ≤ 62
  · obtain ⟨q, rfl⟩ := Int.eq_ofNat_of_zero_le h.1
    have hq : q ≤ 62 := by omega
    have HW := Lib.hid (whole_yes hq b00 b01)
    have HS := Lib.hid (parts_sum hq b00 b01)
    have hd := div_bound (q := q) b00 b01
    have hl1 := Int.emod_lt_of_pos a0 (pow_pos' q)
    have hl0 := Int.emod_nonneg a0 (Int.ne_of_gt (pow_pos' q))
    have hp := pow_lt (n := q) hq
    go_enter Tryd.func6, Tryd.ntmps6
    go_wp2_with fail
    refine (whole_any a0 q _ b00 b01).mono ?_
    rintro e w1 ⟨rfl, g1⟩
    rw [HW.out]
    go_wp2_with fail
    refine (part_yes a0 q _ hq).mono ?_
    rintro e w2 ⟨rfl, rfl⟩
    go_wp2_with fail
    refine (rwhole_yes a0 q _ hq).mono ?_
    rintro e w2 ⟨rfl, rfl⟩
    go_wp2_with fail
    refine (rpart_yes a0 q _ hq).mono ?_
    rintro e w2 ⟨rfl, rfl⟩
    go_wp2_with fail
    refine (alive_any _ (tab_below hT (Nat.le_refl _) g1)).mono ?_
    rintro e w3 ⟨rfl, g3⟩
    go_wp2_with fail
    go_ret
    exact ⟨ret_bool (by rw [HS.out]; simp), g1.trans g3⟩
  · go_enter Tryd.func6, Tryd.ntmps6
    go_wp2_with fail
    refine (whole_any a0 a1 _ b00 b01).mono ?_
    rintro e w1 ⟨rfl, g1⟩
    rw [mulV_no h]
    go_wp2_with fail
    refine (part_no a0 a1 _ h).mono ?_
    rintro e w2 ⟨rfl, rfl⟩
    go_wp2_with fail
    refine (rwhole_no a0 a1 _ h).mono ?_
    rintro e w2 ⟨rfl, rfl⟩
    go_wp2_with fail
    refine (rpart_no a0 a1 _ h).mono ?_
    rintro e w2 ⟨rfl, rfl⟩
    go_wp2_with fail
    refine (alive_any _ (tab_below hT (Nat.le_refl _) g1)).mono ?_
    rintro e w3 ⟨rfl, g3⟩
    by_cases h0 : a1 < 0
    · go_wp2_with fail
      go_ret
      exact ⟨rfl, g1.trans g3⟩
    · have h62 : 62 < a1 := by omega
      go_wp2_with fail
      go_ret
      exact ⟨rfl, g1.trans g3⟩

/-- The listed variables hold what they list in a world where the program's start has laid them. -/
theorem laid_met (os : Os) : laidMet Tryd.prog Rows.deciPartsRow.laid ((World.laidAll Tryd.prog os Rows.deciPartsRow.laid).forCall (fun _ _ => 0) ⟨#[], #[.int .i64 0, .int .i64 0], []⟩).memory :=
  laidMet_of_run' 8 (by kernel_rfl) (by kernel_rfl)
theorem reads (os : Os) {H : Type} (enc : TypeId × Value → H) : ∃ places, DataW.whole enc Tryd.prog ((World.laidAll Tryd.prog os Rows.deciPartsRow.laid).forCall (fun _ _ => 0) ⟨#[], #[.int .i64 0, .int .i64 0], []⟩).memory Tryd.f6.params.toList Rows.deciPartsSpec.vars false (#[.int .i64 0, .int .i64 0] : Array Value).toList 8 = some ([.lit (.int .i64 0), .lit (.int .i64 0)], [], places) :=
  ⟨[], by kernel_rfl⟩

set_option maxRecDepth 100000 in
theorem lifted (os : Os) (started : os.Started) (H : Type) (enc : TypeId × Value → H) (F : Stop.Interp) :
    ReturnsInHanded {} Tryd.checked os 6 .any ((OpenSpec.ofChange Rows.deciPartsSpec).preRow enc Tryd.prog Tryd.f6 Rows.deciPartsRow.domain false Rows.deciPartsRow.laid) (((OpenSpec.ofChange Rows.deciPartsSpec).at F).post enc Tryd.prog Tryd.f6 false true false false) := by
  obtain ⟨places, hx⟩ := reads os enc
  refine returnsInHanded_of_row (C := Tryd.checked) (s := (OpenSpec.ofChange Rows.deciPartsSpec)) own started (by kernel_rfl) Tryd.func6
    (witness_row_at (enc := enc) (C := Tryd.checked) false (World.laidAll Tryd.prog os Rows.deciPartsRow.laid) #[.int .i64 0, .int .i64 0] rfl (by kernel_rfl) (by kernel_rfl) (by kernel_rfl)
      (OpenSpec.preRow_of_cond 8 hx (by kernel_rfl) (fun k hk => by cases hk) (by kernel_rfl) (laid_met os))) ?_
  intro W base args ds gs before hval0 hW _ _ _ hL _ _
  have hval : ∀ (j : Nat) t v, Tryd.f6.params[j]? = some t → args[j]? = some v → Value.okWide Tryd.prog W .any base t v := hval0
  have hW' := hW
  obtain ⟨p, q, hA0, hV, rfl, hfz, hnd⟩ := hW
  have hA : DataW.TrodAll enc Tryd.prog W 0 (fun _ => true) true Tryd.f6.params.toList args.toList ds p := hA0
  rw [Tryd.params6] at hA hval
  obtain ⟨v0, vs0, d0, ds0, p0, q0, hargs, rfl, rfl, h0, r0⟩ := trodAll_cons hA
  obtain ⟨v1, vs1, d1, ds1, p1, q1, rfl, rfl, rfl, h1, r1⟩ := trodAll_cons r0
  obtain ⟨rfl, rfl, rfl⟩ := trodAll_nil r1
  obtain rfl : args = #[v0, v1] := by cases args; simp_all
  obtain ⟨rfl, rfl⟩ := trodVars_none hV
  obtain ⟨a0, rfl, rfl, rfl, w0⟩ := open_int Tryd.underlying2 (hval 0 2 v0 rfl rfl) h0
  obtain ⟨a1, rfl, rfl, rfl, w1⟩ := open_int Tryd.underlying3 (hval 1 3 v1 rfl rfl) h1
  clear hA0 hval0
  refine (walk a0 a1 W w0 w1 (table hL)).mono fun e W' ⟨he, bel⟩ => ?_
  subst he
  exact ⟨_, rfl, _, _, _, [], _, [], hW', trodAll_mk1 (shut_bool Tryd.underlying4 _), (trodAll_cons_mk (shut_int Tryd.underlying2 w0) (trodAll_cons_mk (shut_int Tryd.underlying3 w1) trodAll_mk0)), rfl, bel.frame _, fun h => by cases h⟩

theorem said : Rows.DeciPartsSaid :=
  OpenClaim.holds_of_cond 6 Tryd.f6 rfl rfl rfl rfl rfl rfl rfl ⟨rfl, rfl, rfl, rfl, rfl⟩ rfl rfl rfl rfl rfl (by kernel_rfl) Tryd.func6 (by kernel_rfl)
    (of_decide_eq_true (by kernel_rfl)) (by unfold Func.isWrapper; first | (rw [if_pos (by decide +kernel)]; kernel_rfl) | (rw [if_neg (by decide +kernel)]; exact ⟨rfl, rfl⟩))
    (fun os started H enc _ F => by rw [OpenClaim.pre_eq_preRow]; exact lifted os started H enc F)
theorem plain (f : FuncId) (fn : Func) (hf : Tryd.pinned.checked.prog.funcNamed "sakia/sakialaw02.DeciParts" = some f) (hfn : Tryd.pinned.checked.prog.funcs[f]? = some fn) :
    false = Tryd.pinned.checked.prog.looks [] ∧ ∀ (j : Nat) t, fn.params[j]? = some t → Tryd.pinned.checked.prog.wantsStandIn t = false := by
  obtain rfl : f = 6 := Option.some.inj ((show Tryd.prog.funcNamed "sakia/sakialaw02.DeciParts" = some 6 by kernel_rfl).symm.trans hf) |>.symm
  obtain rfl : fn = Tryd.f6 := (Option.some.inj (Tryd.func6.symm.trans hfn)).symm
  refine ⟨by kernel_rfl, fun j t ht => ?_⟩
  rw [Tryd.params6] at ht
  have hm : t = 2 ∨ t = 3 := by simpa using Array.mem_of_getElem? ht
  rcases hm with rfl | rfl
  · exact (show Tryd.prog.wantsStandIn 2 = false by kernel_rfl)
  · exact (show Tryd.prog.wantsStandIn 3 = false by kernel_rfl)

/-- The card. -/
theorem proved : Rows.DeciPartsCardSaid :=
  Claim7.holds_tied_plain_at .later [] _ _ _ _ said (fun _ h => by cases h) (by kernel_rfl) (fun _ h => by cases h) deciParts_row_tie rfl ⟨rfl, rfl⟩ (by kernel_rfl) rfl plain (by kernel_rfl)
end Go.Proofs.YtkneigmakbdbdaaDoor.deciParts
