/-
  ShapeRanges: Weights and Biases return the ranges of the reference, and the ranges of all links cover all parameters. The listed tables hold what the program's start lays.
-/
import Derived.Test.YtfgadjpdpocdbaaDoorCards
import Derived.Test.YtfgadjpdpocdbaaDoorTie
import Derived.Test.YtfgadjpdpocdbaaDoorHp
import Derived.Deep.DeepHandedRow
import Derived.Lib.LaidTab
import Derived.Lay
import Derived.Stop.LaidErr
import Derived.Lib.ItoaNum
import Derived.WalkKit
import Derived.ProofKit
import Derived.OpenShut
import Derived.ShutString
import Derived.ChangeOld
import Derived.Below
namespace Go.Proofs.YtfgadjpdpocdbaaDoor.shapeRanges
open Go.ChangeShapes Go.WideShapes Go.ChangeAt Go.RowKit Go.Proofs.YtfgadjpdpocdbaaDoor
open Go.ChangeMaps (open_string shut_string)
set_option linter.unusedVariables false

theorem cell_four_new (w : World) (x y z u : Value) (t : TypeId) : ∀ j v, [x, y, z, u][j]? = some v → (w.alloc (.cells #[x, y, z, u] t)).cell? ((⟨w.heap.size, 0, none⟩ : Addr).add j) = some v := by
  intro j v hj
  match j, hj with
  | 0, hj => simp at hj; subst hj; simp [Addr.add]
  | 1, hj => simp at hj; subst hj; simp [Addr.add]
  | 2, hj => simp at hj; subst hj; simp [Addr.add]
  | 3, hj => simp at hj; subst hj; simp [Addr.add]
theorem four_cells {x y z u : Int} : ∀ v ∈ ([.int .i64 x, .int .i64 y, .int .i64 z, .int .i64 u] : List Value), v.oneCell' = true := by
  intro v hv
  simp only [List.mem_cons, List.not_mem_nil, or_false] at hv
  rcases hv with rfl | rfl | rfl | rfl <;> rfl

theorem own : ownKnob Tryd.prog.godebug = none := by kernel_rfl
theorem laidOut : laidOutB Tryd.prog = true := by kernel_rfl

/-- WHAT THE WALK IS TOLD OF A SLICE OF INTEGERS THAT CAME IN: it is nil; or it leads to a row of 'cap' cells, the numbers 'zs' (the first 'len' are its elements, the rest its spare room), each fitting its kind. -/
def IsRow (k : IntKind) (w : World) (a : Option Addr) (len cap : Nat) (zs : List Int) : Prop :=
  (a = none ∧ len = 0 ∧ cap = 0 ∧ zs = []) ∨
  ∃ x, a = some x ∧ len ≤ cap ∧ cap ≤ maxLen ∧ zs.length = cap ∧ (∀ i, i < zs.length → w.cell? (x.add i) = some (.int k (zs.getD i 0))) ∧ ∀ n ∈ zs, (Lit.int k n).wf = true


theorem gTab : Tryd.prog.globalNamed "internal/strconv.uint64pow10" = some 0 := by kernel_rfl
theorem gTabType : (Tryd.prog.globals[0]?).map (·.type) = some 94 := by kernel_rfl
theorem cellsTab : Tryd.prog.cellsOf 94 = 20 := by kernel_rfl
theorem cellsElem : Tryd.prog.cellsOf 71 = 1 := by kernel_rfl
theorem powTab : Lib.pow10Tab = [1, 10, 100, 1000, 10000, 100000, 1000000, 10000000, 100000000, 1000000000, 10000000000, 100000000000, 1000000000000, 10000000000000, 100000000000000, 1000000000000000, 10000000000000000, 100000000000000000, 1000000000000000000, 10000000000000000000] := by decide +kernel
/-- What the row's list gives: the table of powers of ten. -/
theorem table {W : World} (h0 : laidMetH Tryd.prog Rows.shapeRangesRow.laid W) : Lib.TabIs Tryd.prog W "internal/strconv.uint64pow10" .u64 Lib.pow10Tab := by
  have h : laidMet Tryd.prog Rows.shapeRangesRow.laid W := h0
  rw [powTab]
  exact Lib.tabIs_of_head (rest := []) gTab gTabType Tryd.underlying94 Tryd.underlying71 cellsElem cellsTab (h.tail.tail)

set_option maxHeartbeats 4000000 in
theorem walk (a0 : Option Addr) (len0 cap0 : Nat) (z0 : List Int) (a1 : Int) (w : World) (w0 : IsRow .i64 w a0 len0 cap0 z0) (w1 : (Lit.int .i64 a1).wf = true)
    (hT : Lib.TabIs Tryd.prog w "internal/strconv.uint64pow10" .u64 Lib.pow10Tab) :
    Calls Tryd.prog 4 #[.slice a0 len0 cap0, .int .i64 a1] w fun e w' => e = .returned (.bool true) ∧ Below w.heap.size w w' := by
  have hrow : ∃ zs, CameS w a0 len0 cap0 zs := by
    rcases w0 with ⟨rfl, rfl, rfl, rfl⟩ | ⟨x, rfl, hl, hm, hz, hc, _⟩
    · exact ⟨[], cameS_none w⟩
    · exact ⟨_, cameS_some hl hm hz hc⟩
  obtain ⟨zs, hn, hlc, hcm, hnn, hrd⟩ := hrow
  clear w0
  clear w1
  have HX := Lib.hid hrd
  have HN := Lib.hid hn
  by_cases h40 : len0 ≤ 40
  · by_cases h0 : codeV zs = 0
    · have H0 := Lib.hid h0
      have HR := Lib.hid (codeV_zero h0)
      have hR1 := HR.out.1
      have hR2 := HR.out.2.1
      rw [HN.out] at hR1 hR2
      obtain ⟨i0, hi, hz0, hz1, hz2⟩ := info_parts info_range
      have HL : Hid (lnk zs + 1 = len0) := Lib.hid (by unfold lnk; rw [HN.out]; omega)
      obtain ⟨m, hm⟩ : ∃ m, lnk zs = m := ⟨_, rfl⟩
      have HM := Lib.hid hm
      obtain rfl : len0 = m + 1 := by have := HL.out; omega
      clear hm
      have q40 : ¬ (40 : Int) < ((m : Int) + 1) := by omega
      clear h0
      go_enter Tryd.func4, Tryd.ntmps4
      go_wp2_with fail
      refine (rcheck_n a0 cap0 zs _ HN.out (by omega) HX.out).mono ?_
      rintro e w1 ⟨rfl, g1⟩
      rw [H0.out]
      have HG1 := Lib.hid g1
      clear g1
      go_wp2_with fail
      refine (new_ok a0 cap0 zs _ HN.out hlc hcm H0.out (HX.out.grow HG1.out)).mono ?_
      rintro e w2 ⟨⟨b, rfl, hS⟩, g2⟩
      have HS2 := Lib.hid hS
      have HG2 := Lib.hid (HG1.out.trans g2)
      clear g2 hS
      go_wp2_with fail
      refine (weights_any a1 HS2.out).mono ?_
      rintro e w3 ⟨rfl, g3⟩
      have HS3 := Lib.hid (HS2.out.grow g3)
      have HG3 := Lib.hid (HG2.out.trans g3)
      clear g3
      go_wp2_with fail
      refine (rweights_any a0 cap0 zs a1 _ HN.out hlc hcm HR.out (HX.out.grow HG3.out)).mono ?_
      rintro e w4 ⟨rfl, g4⟩
      have HS4 := Lib.hid (HS3.out.grow g4)
      have HG4 := Lib.hid (HG3.out.trans g4)
      clear g4
      generalize (rgW zs a1).1 = lo at *
      generalize (rgW zs a1).2 = hi1 at *
      go_wp2_with fail
      refine (biases_any a1 HS4.out).mono ?_
      rintro e w5 ⟨rfl, g5⟩
      have HS5 := Lib.hid (HS4.out.grow g5)
      have HG5 := Lib.hid (HG4.out.trans g5)
      clear g5
      go_wp2_with fail
      refine (rbiases_any a0 cap0 zs a1 _ HN.out hlc hcm HR.out (HX.out.grow HG5.out)).mono ?_
      rintro e w6 ⟨rfl, g6⟩
      have HS6 := Lib.hid (HS5.out.grow g6)
      have HG6 := Lib.hid (HG5.out.trans g6)
      clear g6
      generalize (rgB zs a1).1 = lo2 at *
      generalize (rgB zs a1).2 = hi2 at *
      go_wp2_with fail
      go_loopw [7, 42] (fun v iv wr => ∃ k : Nat, k ≤ m ∧ iv = .int .i64 (k : Int) ∧ Hid (wr.ownsRow w6.heap.size 35 2 v (k * 2) (rcells (allR zs k))) ∧ Hid (Grew w6 wr)) (fun _ iv _ => m - (intOf iv).toNat)
      case atStart => exact ⟨0, Nat.zero_le _, rfl, Lib.hid (World.ownsRow_nil _ _ _ _), Lib.hid (Grew.refl _)⟩
      case round =>
        obtain ⟨k, hk, rfl, HB, HG⟩ := hrel
        by_cases hlt : k < m
        · have HSr := Lib.hid (HS6.out.grow HG.out)
          have HWv := Lib.hid (rgW_yes (zs := zs) (k := k) (by rw [HM.out]; exact hlt))
          have HBv := Lib.hid (rgB_yes (zs := zs) (k := k) (by rw [HM.out]; exact hlt))
          have hki : (k : Int) < (m : Int) := by omega
          go_wp2_with fail
          refine (weights_any (k : Int) HSr.out).mono ?_
          rintro e w7 ⟨rfl, g7⟩
          rw [HWv.out]
          have HS7 := Lib.hid (HSr.out.grow g7)
          have HG7 := Lib.hid (HG.out.trans g7)
          have HB7 := Lib.hid (own_grow HB.out g7)
          clear g7
          go_wp2_with fail
          refine (biases_any (k : Int) HS7.out).mono ?_
          rintro e w8 ⟨rfl, g8⟩
          rw [HBv.out]
          have HG8 := Lib.hid (HG7.out.trans g8)
          have HB8 := Lib.hid (own_grow HB7.out g8)
          have HSn : Hid (rcells (allR zs (k + 1)) = rcells (allR zs k) ++ [.int .i64 (rangeW zs k).1, .int .i64 (rangeW zs k).2, .int .i64 (rangeB zs k).1, .int .i64 (rangeB zs k).2]) := Lib.hid (by simp only [allR]; rw [rcells_append]; rfl)
          clear g8
          generalize (rangeW zs k).1 = x1 at *
          generalize (rangeW zs k).2 = x2 at *
          generalize (rangeB zs k).1 = x3 at *
          generalize (rangeB zs k).2 = x4 at *
          go_wp2_with (at_builtin; refine wpList_append_own _ rfl _ _ 38 rfl w6.heap.size 35 i0 (.agg #[.int .i64 0, .int .i64 0]) 2 16 Tryd.underlying38 hi hz0 hz1 hz2 rfl (by decide) _ (k * 2) _ rfl (HB8.out.alloc _) ⟨w8.heap.size, 0, none⟩ 2 2 [.int .i64 x1, .int .i64 x2, .int .i64 x3, .int .i64 x4] rfl rfl (cell_four_new _ _ _ _ _ _) four_cells (by unfold maxLen; omega) (by omega) (by have := HG8.out.size; simp; omega) ?_)
          intro v' wn hown hgrow hnil
          have HO1 : Hid (wn.ownsRow w6.heap.size 35 2 v' ((k + 1) * 2) (rcells (allR zs (k + 1)))) := Lib.hid (by rw [HSn.out, show (k + 1) * 2 = k * 2 + 2 by omega]; exact hown)
          have HGn : Hid (Grew w6 wn) := Lib.hid (Below.grown (HG8.out.alloc _) hgrow (by have := HG8.out.size; simp; omega) (fun j hj => (World.ownsRow.lt HB8.out j hj).1))
          clear hown hgrow hnil
          go_wp2_with fail
          go_roundw
          case rel => exact ⟨k + 1, by omega, by go_num, HO1, HGn⟩
          case measure => simp [intOf]; omega
        · obtain rfl : k = m := by omega
          obtain ⟨ra, rc, rfl, hrb⟩ := own_ranges HB.out
          have HRr := Lib.hid hrb.rd
          have HLr := Lib.hid (allR_len zs k)
          have HGr := Lib.hid (HG6.out.trans HG.out)
          have HSr := Lib.hid (HS6.out.grow HG.out)
          have HCv : Hid (coversV (cnt zs) (allR zs k) = true) := Lib.hid (by rw [← HM.out]; exact allR_covers HR.out.2.2.1)
          clear hrb
          go_wp2_with fail
          refine (alive_any _ (tab_below hT (Nat.le_refl _) HGr.out)).mono ?_
          rintro e w7 ⟨rfl, g7⟩
          have HS7 := Lib.hid (HSr.out.grow g7)
          have HG7 := Lib.hid (HGr.out.trans g7)
          have HR7 := Lib.hid (HRr.out.grow g7)
          clear g7
          go_wp2_with fail
          refine (count_any HR.out HS7.out).mono ?_
          rintro e w8 ⟨rfl, g8⟩
          have HS8 := Lib.hid (HS7.out.grow g8)
          have HG8 := Lib.hid (HG7.out.trans g8)
          have HR8 := Lib.hid (HR7.out.grow g8)
          clear g8
          go_wp2_with fail
          refine (covers_n (cnt zs) ra rc _ _ HLr.out (by omega) HR8.out).mono ?_
          rintro e w9 ⟨rfl, g9⟩
          rw [HCv.out]
          have HS9 := Lib.hid (HS8.out.grow g9)
          have HG9 := Lib.hid (HG8.out.trans g9)
          clear g9
          go_wp2_with fail
          refine (count_any HR.out HS9.out).mono ?_
          rintro e w10 ⟨rfl, g10⟩
          have HG10 := Lib.hid (HG9.out.trans g10)
          clear g10
          go_wp2_with fail
          refine (rcount_n a0 cap0 zs _ HN.out hR2 HR.out.2.2.1 (HX.out.grow HG10.out)).mono ?_
          rintro e w11 ⟨rfl, g11⟩
          generalize cnt zs = cc at *
          go_wp2
          go_ret
          exact ⟨ret_bool (by simp), HG10.out.trans g11⟩
    · go_enter Tryd.func4, Tryd.ntmps4
      go_wp2_with fail
      refine (rcheck_n a0 cap0 zs _ HN.out (by omega) HX.out).mono ?_
      rintro e w1 ⟨rfl, g1⟩
      have HG1 := Lib.hid g1
      clear g1
      generalize codeV zs = cv at *
      have h0b : (cv == 0) = false := by simp [h0]
      have h0c : (cv != 0) = true := by simp [h0]
      go_wp2_with fail
      refine (alive_any _ (tab_below hT (Nat.le_refl _) HG1.out)).mono ?_
      rintro e w9 ⟨rfl, g9⟩
      go_wp2_with fail
      go_ret
      exact ⟨ret_bool (by simp), HG1.out.trans g9⟩
  · have hcm' : len0 ≤ 9223372036854775807 := Nat.le_trans hlc hcm
    go_enter Tryd.func4, Tryd.ntmps4
    go_wp2_with fail
    refine (alive_any _ hT).mono ?_
    rintro e w1 ⟨rfl, g1⟩
    go_wp2_with fail
    go_ret
    exact ⟨rfl, g1⟩

/-- The listed variables hold what they list in a world where the program's start has laid them. -/
theorem laid_met (os : Os) : laidMet Tryd.prog Rows.shapeRangesRow.laid ((World.laidAll Tryd.prog os Rows.shapeRangesRow.laid).forCall (fun _ _ => 0) ⟨#[], #[.slice none 0 0, .int .i64 0], []⟩).memory :=
  laidMet_of_run' 8 (by kernel_rfl) (by kernel_rfl)
theorem reads (os : Os) {H : Type} (enc : TypeId × Value → H) : ∃ places, DataW.whole enc Tryd.prog ((World.laidAll Tryd.prog os Rows.shapeRangesRow.laid).forCall (fun _ _ => 0) ⟨#[], #[.slice none 0 0, .int .i64 0], []⟩).memory Tryd.f4.params.toList Rows.shapeRangesSpec.vars false (#[.slice none 0 0, .int .i64 0] : Array Value).toList 8 = some ([.nil, .lit (.int .i64 0)], [], places) :=
  ⟨[], by kernel_rfl⟩

set_option maxRecDepth 100000 in
theorem lifted (os : Os) (started : os.Started) (H : Type) (enc : TypeId × Value → H) (F : Stop.Interp) :
    ReturnsInHanded {} Tryd.checked os 4 .any ((OpenSpec.ofChange Rows.shapeRangesSpec).preRow enc Tryd.prog Tryd.f4 Rows.shapeRangesRow.domain false Rows.shapeRangesRow.laid) (((OpenSpec.ofChange Rows.shapeRangesSpec).at F).post enc Tryd.prog Tryd.f4 false true false false) := by
  obtain ⟨places, hx⟩ := reads os enc
  refine returnsInHanded_of_row (C := Tryd.checked) (s := (OpenSpec.ofChange Rows.shapeRangesSpec)) own started (by kernel_rfl) Tryd.func4
    (witness_row_at (enc := enc) (C := Tryd.checked) false (World.laidAll Tryd.prog os Rows.shapeRangesRow.laid) #[.slice none 0 0, .int .i64 0] rfl (by kernel_rfl) (by kernel_rfl) (by kernel_rfl)
      (OpenSpec.preRow_of_cond 8 hx (by kernel_rfl) (fun k hk => by cases hk) (by kernel_rfl) (laid_met os))) ?_
  intro W base args ds gs before hval0 hW _ _ _ hL _ _
  have hval : ∀ (j : Nat) t v, Tryd.f4.params[j]? = some t → args[j]? = some v → Value.okWide Tryd.prog W .any base t v := hval0
  have hW' := hW
  obtain ⟨p, q, hA0, hV, rfl, hfz, hnd⟩ := hW
  have hA : DataW.TrodAll enc Tryd.prog W 0 (fun _ => true) true Tryd.f4.params.toList args.toList ds p := hA0
  rw [Tryd.params4] at hA hval
  obtain ⟨v0, vs0, d0, ds0, p0, q0, hargs, rfl, rfl, h0, r0⟩ := trodAll_cons hA
  obtain ⟨v1, vs1, d1, ds1, p1, q1, rfl, rfl, rfl, h1, r1⟩ := trodAll_cons r0
  obtain ⟨rfl, rfl, rfl⟩ := trodAll_nil r1
  obtain rfl : args = #[v0, v1] := by cases args; simp_all
  obtain ⟨rfl, rfl⟩ := trodVars_none hV
  obtain ⟨a0, len0, cap0, rfl⟩ := okWide_slice Tryd.underlying22 (hval 0 22 v0 rfl rfl)
  have k0 := h0
  have lt0 : ∀ x ∈ p0, x.block < W.heap.size := by obtain ⟨m, hm⟩ := k0; exact DataW.trod_lt m _ _ _ hm
  obtain ⟨z0, w0⟩ : ∃ zs, IsRow .i64 W a0 len0 cap0 zs := by
    obtain ⟨fuel, hf⟩ := h0
    rcases open_ints Tryd.underlying22 Tryd.underlying3 (by kernel_rfl) hf with ⟨hcs, _⟩ | ⟨x, l, c, zs, hcs, _, hl, hm, hz, _, hcell, hwz⟩
    · simp [Value.cells] at hcs
      obtain ⟨rfl, rfl, rfl⟩ := hcs
      exact ⟨[], .inl ⟨rfl, rfl, rfl, rfl⟩⟩
    · simp [Value.cells] at hcs
      obtain ⟨rfl, rfl, rfl⟩ := hcs
      exact ⟨zs, .inr ⟨_, rfl, hl, hm, by simpa using hz, hcell, hwz⟩⟩
  obtain ⟨a1, rfl, rfl, rfl, w1⟩ := open_int Tryd.underlying3 (hval 1 3 v1 rfl rfl) h1
  clear hA0 hval0
  refine (walk a0 len0 cap0 z0 a1 W w0 w1 (table hL)).mono fun e W' ⟨he, bel⟩ => ?_
  subst he
  exact ⟨_, rfl, _, _, _, [], _, [], hW', trodAll_mk1 (shut_bool Tryd.underlying4 _), (trodAll_cons_mk (Below.trod laidOut (by kernel_rfl) (of_decide_eq_true (by kernel_rfl)) k0 bel lt0) (trodAll_cons_mk (shut_int Tryd.underlying3 w1) trodAll_mk0)), rfl, bel.frame _, fun h => by cases h⟩

theorem said : Rows.ShapeRangesSaid :=
  OpenClaim.holds_of_cond 4 Tryd.f4 rfl rfl rfl rfl rfl rfl rfl ⟨rfl, rfl, rfl, rfl, rfl⟩ rfl rfl rfl rfl rfl (by kernel_rfl) Tryd.func4 (by kernel_rfl)
    (of_decide_eq_true (by kernel_rfl)) (by unfold Func.isWrapper; first | (rw [if_pos (by decide +kernel)]; kernel_rfl) | (rw [if_neg (by decide +kernel)]; exact ⟨rfl, rfl⟩))
    (fun os started H enc _ F => by rw [OpenClaim.pre_eq_preRow]; exact lifted os started H enc F)
theorem plain (f : FuncId) (fn : Func) (hf : Tryd.pinned.checked.prog.funcNamed "sakia/sakialaw08.ShapeRanges" = some f) (hfn : Tryd.pinned.checked.prog.funcs[f]? = some fn) :
    false = Tryd.pinned.checked.prog.looks [] ∧ ∀ (j : Nat) t, fn.params[j]? = some t → Tryd.pinned.checked.prog.wantsStandIn t = false := by
  obtain rfl : f = 4 := Option.some.inj ((show Tryd.prog.funcNamed "sakia/sakialaw08.ShapeRanges" = some 4 by kernel_rfl).symm.trans hf) |>.symm
  obtain rfl : fn = Tryd.f4 := (Option.some.inj (Tryd.func4.symm.trans hfn)).symm
  refine ⟨by kernel_rfl, fun j t ht => ?_⟩
  rw [Tryd.params4] at ht
  have hm : t = 22 ∨ t = 3 := by simpa using Array.mem_of_getElem? ht
  rcases hm with rfl | rfl
  · exact (show Tryd.prog.wantsStandIn 22 = false by kernel_rfl)
  · exact (show Tryd.prog.wantsStandIn 3 = false by kernel_rfl)

/-- The card. -/
theorem proved : Rows.ShapeRangesCardSaid :=
  Claim7.holds_tied_plain_at .later [] _ _ _ _ said (fun _ h => by cases h) (by kernel_rfl) (fun _ h => by cases h) shapeRanges_row_tie rfl ⟨rfl, rfl⟩ (by kernel_rfl) rfl plain (by kernel_rfl)
end Go.Proofs.YtfgadjpdpocdbaaDoor.shapeRanges
