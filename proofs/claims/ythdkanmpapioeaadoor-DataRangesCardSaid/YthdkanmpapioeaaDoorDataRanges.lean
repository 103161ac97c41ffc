/-
  DataRanges: Range returns the numbers of the reference. The listed tables hold what the program's start lays.
-/
import Derived.Test.YthdkanmpapioeaaDoorCards
import Derived.Test.YthdkanmpapioeaaDoorTie
import Derived.Test.YthdkanmpapioeaaDoorEv
import Derived.Test.YthdkanmpapioeaaDoorEm
import Derived.Deep.DeepHandedRow
import Derived.Lib.LaidTab
import Derived.Lay
import Derived.Stop.LaidErr
import Derived.Lib.ItoaNum
import Derived.WalkKit
import Derived.ProofKit
import Derived.OpenShut
import Derived.ShutString
import Derived.ChangeOld
import Derived.Below
import Derived.Lib.SmallJoins
namespace Go.Proofs.YthdkanmpapioeaaDoor.dataRanges
open Go.ChangeShapes Go.WideShapes Go.ChangeAt Go.RowKit Go.Shelf
open Go.ChangeMaps (open_string shut_string)
open Go.Proofs.YthdkanmpapioeaaDoor
set_option linter.unusedVariables false

theorem own : ownKnob Tryd.prog.godebug = none := by kernel_rfl
theorem laidOut : laidOutB Tryd.prog = true := by kernel_rfl

theorem gTab : Tryd.prog.globalNamed "internal/strconv.uint64pow10" = some 1 := by kernel_rfl
theorem gTabType : (Tryd.prog.globals[1]?).map (·.type) = some 140 := by kernel_rfl
theorem cellsTab : Tryd.prog.cellsOf 140 = 20 := by kernel_rfl
theorem cellsElem : Tryd.prog.cellsOf 81 = 1 := by kernel_rfl
theorem powTab : Lib.pow10Tab = [1, 10, 100, 1000, 10000, 100000, 1000000, 10000000, 100000000, 1000000000, 10000000000, 100000000000, 1000000000000, 10000000000000, 100000000000000, 1000000000000000, 10000000000000000, 100000000000000000, 1000000000000000000, 10000000000000000000] := by decide +kernel
/-- What the row's list gives: the table of powers of ten. -/
theorem table {W : World} (h0 : laidMetH Tryd.prog Rows.dataRangesRow.laid W) : Lib.TabIs Tryd.prog W "internal/strconv.uint64pow10" .u64 Lib.pow10Tab := by
  have h : laidMet Tryd.prog Rows.dataRangesRow.laid W := h0
  rw [powTab]
  exact Lib.tabIs_of_head (rest := _) gTab gTabType Tryd.underlying140 Tryd.underlying81 cellsElem cellsTab (h.tail.tail)

set_option maxHeartbeats 2000000 in
theorem walk (a0 : Option Addr) (len0 cap0 : Nat) (es0 : List Ex) (w : World) (w0 : CameE w a0 len0 cap0 es0)
    (hT : Lib.TabIs Tryd.prog w "internal/strconv.uint64pow10" .u64 Lib.pow10Tab) :
    Calls Tryd.prog 7 #[.slice a0 len0 cap0] w fun e w' => e = .returned (.bool true) ∧ Below w.heap.size w w' := by
  obtain ⟨hn, hlc, hcm, hr, hf0, hle⟩ := w0
  subst hn
  have hl0 : es0.length ≤ 9223372036854775807 := by unfold maxLen at hcm; omega
  have HR := Lib.hid hr
  have HL := Lib.hid hle
  clear hr hf0 hle hcm
  cases hf : fewE es0 with
  | false =>
    have HF := Lib.hid hf
    clear hf
    go_enter Tryd.func7, Tryd.ntmps7
    go_wp2_with fail
    refine (rfewE_any a0 cap0 es0 w hl0 HL.out HR.out).mono ?_
    rintro u w1 ⟨rfl, g1⟩
    rw [HF.out]
    have HG1 := Lib.hid g1
    clear g1
    go_wp2_with fail
    refine (aliveE_any _ (tab_below hT (Nat.le_refl _) HG1.out)).mono ?_
    rintro u w2 ⟨rfl, g2⟩
    go_wp2
    go_ret
    exact ⟨rfl, HG1.out.trans g2⟩
  | true =>
    have HS := Lib.hid (few_sm hf)
    have HF := Lib.hid hf
    clear hf
    go_enter Tryd.func7, Tryd.ntmps7
    go_wp2_with fail
    refine (rfewE_any a0 cap0 es0 w hl0 HL.out HR.out).mono ?_
    rintro u w1 ⟨rfl, g1⟩
    rw [HF.out]
    have HG1 := Lib.hid g1
    have HR1 := Lib.hid (HR.out.grow g1)
    clear g1
    go_wp2_with fail
    refine (dRange_any a0 cap0 es0 w1 rfl HS.out HR1.out).mono ?_
    rintro u w2 ⟨rfl, g2⟩
    have HG2 := Lib.hid (HG1.out.trans g2)
    have HR2 := Lib.hid (HR1.out.grow g2)
    clear g2
    go_wp2_with fail
    refine (rRange_any a0 cap0 es0 w2 rfl HS.out HR2.out).mono ?_
    rintro u w3 ⟨rfl, g3⟩
    have HG3 := Lib.hid (HG2.out.trans g3)
    clear g3
    generalize loK (allN es0) (allN es0).length = x at *
    generalize hiK (allN es0) (allN es0).length = y at *
    generalize decide (0 < (allN es0).length) = b at *
    go_wp2_with fail
    refine (aliveE_any _ (tab_below hT (Nat.le_refl _) HG3.out)).mono ?_
    rintro u w4 ⟨rfl, g4⟩
    go_wp2
    go_ret
    exact ⟨ret_bool (by simp), HG3.out.trans g4⟩

/-- The listed variables hold what they list in a world where the program's start has laid them. -/
theorem laid_met (os : Os) : laidMet Tryd.prog Rows.dataRangesRow.laid ((World.laidAll Tryd.prog os Rows.dataRangesRow.laid).forCall (fun _ _ => 0) ⟨#[], #[.slice none 0 0], []⟩).memory :=
  laidMet_of_run' 8 (by kernel_rfl) (by kernel_rfl)
theorem reads (os : Os) {H : Type} (enc : TypeId × Value → H) : ∃ places, DataW.whole enc Tryd.prog ((World.laidAll Tryd.prog os Rows.dataRangesRow.laid).forCall (fun _ _ => 0) ⟨#[], #[.slice none 0 0], []⟩).memory Tryd.f7.params.toList Rows.dataRangesSpec.vars false (#[.slice none 0 0] : Array Value).toList 8 = some ([.nil], [], places) :=
  ⟨[], by kernel_rfl⟩

set_option maxRecDepth 100000 in
theorem lifted (os : Os) (started : os.Started) (H : Type) (enc : TypeId × Value → H) (F : Stop.Interp) :
    ReturnsInHanded {} Tryd.checked os 7 .any ((OpenSpec.ofChange Rows.dataRangesSpec).preRow enc Tryd.prog Tryd.f7 Rows.dataRangesRow.domain false Rows.dataRangesRow.laid) (((OpenSpec.ofChange Rows.dataRangesSpec).at F).post enc Tryd.prog Tryd.f7 false true false false) := by
  obtain ⟨places, hx⟩ := reads os enc
  refine returnsInHanded_of_row (C := Tryd.checked) (s := (OpenSpec.ofChange Rows.dataRangesSpec)) own started (by kernel_rfl) Tryd.func7
    (witness_row_at (enc := enc) (C := Tryd.checked) false (World.laidAll Tryd.prog os Rows.dataRangesRow.laid) #[.slice none 0 0] rfl (by kernel_rfl) (by kernel_rfl) (by kernel_rfl)
      (OpenSpec.preRow_of_cond 8 hx (by kernel_rfl) (fun k hk => by cases hk) (by kernel_rfl) (laid_met os))) ?_
  intro W base args ds gs before hval0 hW _ _ hsz0 hL hsh _
  have hval : ∀ (j : Nat) t v, Tryd.f7.params[j]? = some t → args[j]? = some v → Value.okWide Tryd.prog W .any base t v := hval0
  have hW' := hW
  obtain ⟨p, q, hA0, hV, rfl, hfz, hnd⟩ := hW
  have hA : DataW.TrodAll enc Tryd.prog W 0 (fun _ => true) true Tryd.f7.params.toList args.toList ds p := hA0
  rw [Tryd.params7] at hA hval
  obtain ⟨v0, vs0, d0, ds0, p0, q0, hargs, rfl, rfl, h0, r0⟩ := trodAll_cons hA
  obtain ⟨rfl, rfl, rfl⟩ := trodAll_nil r0
  obtain rfl : args = #[v0] := by cases args; simp_all
  obtain ⟨rfl, rfl⟩ := trodVars_none hV
  have k0 := h0
  have lt0 : ∀ x ∈ p0, x.block < W.heap.size := by obtain ⟨m, hm⟩ := k0; exact DataW.trod_lt m _ _ _ hm
  obtain ⟨a0, len0, cap0, rfl⟩ := okWide_slice Tryd.underlying26 (hval 0 26 v0 rfl rfl)
  obtain ⟨es0, w0⟩ : ∃ us, CameE W a0 len0 cap0 us := by
    obtain ⟨fuel, hf⟩ := h0
    exact examples_in Tryd.underlying26 Tryd.underlying24 (by kernel_rfl) rfl rfl (by kernel_rfl) (by kernel_rfl) rfl rfl Tryd.underlying22 Tryd.underlying2 (by kernel_rfl) hf
  clear hA0 hval0 hsz0
  have hwalk := walk a0 len0 cap0 es0 W w0 (table hL)
  refine hwalk.mono fun e W' ⟨he, bel⟩ => ?_
  subst he
  exact ⟨_, rfl, _, _, _, [], _, [], hW', trodAll_mk1 (shut_bool Tryd.underlying4 _), (trodAll_cons_mk (Below.trod laidOut (by kernel_rfl) (of_decide_eq_true (by kernel_rfl)) k0 bel lt0) trodAll_mk0), rfl, bel.frame _, fun h => by cases h⟩

theorem said : Rows.DataRangesSaid :=
  OpenClaim.holds_of_cond 7 Tryd.f7 rfl rfl rfl rfl rfl rfl rfl ⟨rfl, rfl, rfl, rfl, rfl⟩ rfl rfl rfl rfl rfl (by kernel_rfl) Tryd.func7 (by kernel_rfl)
    (of_decide_eq_true (by kernel_rfl)) (by unfold Func.isWrapper; first | (rw [if_pos (by decide +kernel)]; kernel_rfl) | (rw [if_neg (by decide +kernel)]; exact ⟨rfl, rfl⟩))
    (fun os started H enc _ F => by rw [OpenClaim.pre_eq_preRow]; exact lifted os started H enc F)
theorem plain (f : FuncId) (fn : Func) (hf : Tryd.pinned.checked.prog.funcNamed "sakia/sakialaw10.DataRanges" = some f) (hfn : Tryd.pinned.checked.prog.funcs[f]? = some fn) :
    false = Tryd.pinned.checked.prog.looks [] ∧ ∀ (j : Nat) t, fn.params[j]? = some t → Tryd.pinned.checked.prog.wantsStandIn t = false := by
  obtain rfl : f = 7 := Option.some.inj ((show Tryd.prog.funcNamed "sakia/sakialaw10.DataRanges" = some 7 by kernel_rfl).symm.trans hf) |>.symm
  obtain rfl : fn = Tryd.f7 := (Option.some.inj (Tryd.func7.symm.trans hfn)).symm
  refine ⟨by kernel_rfl, fun j t ht => ?_⟩
  rw [Tryd.params7] at ht
  have hm : t = 26 := by simpa using Array.mem_of_getElem? ht
  obtain rfl := hm
  · exact (show Tryd.prog.wantsStandIn 26 = false by kernel_rfl)

/-- The card. -/
theorem proved : Rows.DataRangesCardSaid :=
  Claim7.holds_tied_plain_at .later [] _ _ _ _ said (fun _ h => by cases h) (by kernel_rfl) (fun _ h => by cases h) dataRanges_row_tie rfl ⟨rfl, rfl⟩ (by kernel_rfl) rfl plain (by kernel_rfl)
end Go.Proofs.YthdkanmpapioeaaDoor.dataRanges
