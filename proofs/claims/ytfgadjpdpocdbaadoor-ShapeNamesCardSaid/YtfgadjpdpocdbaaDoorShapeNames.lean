/-
  ShapeNames: Index returns the index of the parameter with a name, as the reference does, or none. The listed tables hold what the program's start lays.
-/
import Derived.Test.YtfgadjpdpocdbaaDoorCards
import Derived.Test.YtfgadjpdpocdbaaDoorTie
import Derived.Test.YtfgadjpdpocdbaaDoorHp
import Derived.Deep.DeepHandedRow
import Derived.Lib.LaidTab
import Derived.Lay
import Derived.Stop.LaidErr
import Derived.Lib.ItoaNum
import Derived.WalkKit
import Derived.ProofKit
import Derived.OpenShut
import Derived.ShutString
import Derived.ChangeOld
import Derived.Below
namespace Go.Proofs.YtfgadjpdpocdbaaDoor.shapeNames
open Go.ChangeShapes Go.WideShapes Go.ChangeAt Go.RowKit Go.Proofs.YtfgadjpdpocdbaaDoor
open Go.ChangeMaps (open_string shut_string)
set_option linter.unusedVariables false

theorem own : ownKnob Tryd.prog.godebug = none := by kernel_rfl
theorem laidOut : laidOutB Tryd.prog = true := by kernel_rfl

/-- WHAT THE WALK IS TOLD OF A SLICE OF INTEGERS THAT CAME IN: it is nil; or it leads to a row of 'cap' cells, the numbers 'zs' (the first 'len' are its elements, the rest its spare room), each fitting its kind. -/
def IsRow (k : IntKind) (w : World) (a : Option Addr) (len cap : Nat) (zs : List Int) : Prop :=
  (a = none ∧ len = 0 ∧ cap = 0 ∧ zs = []) ∨
  ∃ x, a = some x ∧ len ≤ cap ∧ cap ≤ maxLen ∧ zs.length = cap ∧ (∀ i, i < zs.length → w.cell? (x.add i) = some (.int k (zs.getD i 0))) ∧ ∀ n ∈ zs, (Lit.int k n).wf = true


theorem gTab : Tryd.prog.globalNamed "internal/strconv.uint64pow10" = some 0 := by kernel_rfl
theorem gTabType : (Tryd.prog.globals[0]?).map (·.type) = some 94 := by kernel_rfl
theorem cellsTab : Tryd.prog.cellsOf 94 = 20 := by kernel_rfl
theorem cellsElem : Tryd.prog.cellsOf 71 = 1 := by kernel_rfl
theorem powTab : Lib.pow10Tab = [1, 10, 100, 1000, 10000, 100000, 1000000, 10000000, 100000000, 1000000000, 10000000000, 100000000000, 1000000000000, 10000000000000, 100000000000000, 1000000000000000, 10000000000000000, 100000000000000000, 1000000000000000000, 10000000000000000000] := by decide +kernel
/-- What the row's list gives: the table of powers of ten. -/
theorem table {W : World} (h0 : laidMetH Tryd.prog Rows.shapeNamesRow.laid W) : Lib.TabIs Tryd.prog W "internal/strconv.uint64pow10" .u64 Lib.pow10Tab := by
  have h : laidMet Tryd.prog Rows.shapeNamesRow.laid W := h0
  rw [powTab]
  exact Lib.tabIs_of_head (rest := []) gTab gTabType Tryd.underlying94 Tryd.underlying71 cellsElem cellsTab (h.tail.tail)

set_option maxHeartbeats 4000000 in
theorem walk (a0 : Option Addr) (len0 cap0 : Nat) (z0 : List Int) (a1 : ByteArray) (w : World) (w0 : IsRow .i64 w a0 len0 cap0 z0) (w1 : a1.size ≤ maxLen)
    (hT : Lib.TabIs Tryd.prog w "internal/strconv.uint64pow10" .u64 Lib.pow10Tab) :
    Calls Tryd.prog 6 #[.slice a0 len0 cap0, .string a1] w fun e w' => e = .returned (.bool true) ∧ Below w.heap.size w w' := by
  have hrow : ∃ zs, CameS w a0 len0 cap0 zs := by
    rcases w0 with ⟨rfl, rfl, rfl, rfl⟩ | ⟨x, rfl, hl, hm, hz, hc, _⟩
    · exact ⟨[], cameS_none w⟩
    · exact ⟨_, cameS_some hl hm hz hc⟩
  obtain ⟨zs, hn, hlc, hcm, hnn, hrd⟩ := hrow
  clear w0
  have HX := Lib.hid hrd
  have HN := Lib.hid hn
  cases hf : fewV zs with
  | false =>
    have HF := Lib.hid hf
    clear hf
    go_enter Tryd.func6, Tryd.ntmps6
    go_wp2_with fail
    refine (rfew_n a0 cap0 zs _ HN.out HX.out).mono ?_
    rintro e w1 ⟨rfl, g1⟩
    rw [HF.out]
    have HG1 := Lib.hid g1
    clear g1
    go_wp2_with fail
    refine (alive_any _ (tab_below hT (Nat.le_refl _) HG1.out)).mono ?_
    rintro e w9 ⟨rfl, g9⟩
    go_wp2_with fail
    go_ret
    exact ⟨ret_bool (by simp), HG1.out.trans g9⟩
  | true =>
    have HF := Lib.hid hf
    have h40 : len0 ≤ 40 := by
      rcases Nat.lt_or_ge 40 len0 with h | h
      · rw [few_many (by omega)] at hf; cases hf
      · exact h
    by_cases h0 : codeV zs = 0
    · have H0 := Lib.hid h0
      have HR := Lib.hid (codeV_zero h0)
      clear hf h0
      by_cases h200 : a1.size ≤ 200
      · go_enter Tryd.func6, Tryd.ntmps6
        go_wp2_with fail
        refine (rfew_n a0 cap0 zs _ HN.out HX.out).mono ?_
        rintro e w1 ⟨rfl, g1⟩
        rw [HF.out]
        have HG1 := Lib.hid g1
        clear g1
        go_wp2_with fail
        refine (rcheck_n a0 cap0 zs _ HN.out (by omega) (HX.out.grow HG1.out)).mono ?_
        rintro e w2 ⟨rfl, g2⟩
        rw [H0.out]
        have HG2 := Lib.hid (HG1.out.trans g2)
        clear g2
        go_wp2_with fail
        refine (new_ok a0 cap0 zs _ HN.out hlc hcm H0.out (HX.out.grow HG2.out)).mono ?_
        rintro e w3 ⟨⟨b, rfl, hS⟩, g3⟩
        have HS := Lib.hid hS
        have HG3 := Lib.hid (HG2.out.trans g3)
        have HT3 := Lib.hid (tab_below hT (Nat.le_refl _) HG3.out)
        clear g3 hS
        by_cases hno : Noname zs a1.data.toList
        · have HNo := Lib.hid hno
          clear hno
          go_wp2_with fail
          refine (index_none HR.out HS.out a1 HNo.out HT3.out).mono ?_
          rintro e w4 ⟨rfl, g4⟩
          have HG4 := Lib.hid (HG3.out.trans g4)
          clear g4
          go_wp2_with fail
          refine (rindex_any a0 cap0 zs a1 _ HN.out HR.out (HX.out.grow HG4.out)).mono ?_
          rintro e w5 ⟨h5, g5⟩
          have HG5 := Lib.hid (HG4.out.trans g5)
          clear g5
          obtain rfl : e = .returned (.tuple #[.int .i64 0, .bool false]) := by
            rcases h5 with ⟨i, k, r, x, ha, hq, _⟩ | ⟨_, h⟩
            · exact absurd hq (HNo.out i k r x ha)
            · exact h
          clear h5
          go_wp2_with fail
          refine (alive_any _ (tab_below hT (Nat.le_refl _) HG5.out)).mono ?_
          rintro e w9 ⟨rfl, g9⟩
          go_wp2_with fail
          go_ret
          exact ⟨ret_bool (by simp), HG5.out.trans g9⟩
        · obtain ⟨i, k, r, x, ha, hq⟩ : ∃ i k r x, At zs i k r x ∧ nmL k r x = a1.data.toList := by
            by_cases h : ∃ i k r x, At zs i k r x ∧ nmL k r x = a1.data.toList
            · exact h
            · exact absurd (fun i k r x ha hq => h ⟨i, k, r, x, ha, hq⟩) hno
          obtain rfl : a1 = ⟨(nmL k r x).toArray⟩ := ByteArray.ext (Array.toList_inj.1 hq.symm)
          have HA := Lib.hid ha
          clear hno hq ha
          go_wp2_with fail
          refine (index_at HR.out HS.out HA.out HT3.out).mono ?_
          rintro e w4 ⟨rfl, g4⟩
          have HG4 := Lib.hid (HG3.out.trans g4)
          clear g4
          go_wp2_with fail
          refine (rindex_any a0 cap0 zs _ _ HN.out HR.out (HX.out.grow HG4.out)).mono ?_
          rintro e w5 ⟨h5, g5⟩
          have HG5 := Lib.hid (HG4.out.trans g5)
          clear g5
          obtain rfl : e = .returned (.tuple #[.int .i64 i, .bool true]) := by
            rcases h5 with ⟨i', k', r', x', ha, hq, h⟩ | ⟨h, _⟩
            · rw [h, nm_inj HR.out.2.2.1 (by have := HR.out.2.1; omega) ha HA.out hq]
            · exact absurd rfl (h i k r x HA.out)
          clear h5
          go_wp2_with fail
          refine (alive_any _ (tab_below hT (Nat.le_refl _) HG5.out)).mono ?_
          rintro e w9 ⟨rfl, g9⟩
          go_wp2_with fail
          go_ret
          exact ⟨ret_bool (by simp), HG5.out.trans g9⟩
      · go_enter Tryd.func6, Tryd.ntmps6
        go_wp2_with fail
        refine (rfew_n a0 cap0 zs _ HN.out HX.out).mono ?_
        rintro e w1 ⟨rfl, g1⟩
        rw [HF.out]
        have HG1 := Lib.hid g1
        clear g1
        go_wp2_with fail
        refine (rcheck_n a0 cap0 zs _ HN.out (by omega) (HX.out.grow HG1.out)).mono ?_
        rintro e w2 ⟨rfl, g2⟩
        rw [H0.out]
        have HG2 := Lib.hid (HG1.out.trans g2)
        have h200b : (200 : Int) < (a1.size : Int) := by omega
        clear g2
        go_wp2_with fail
        refine (alive_any _ (tab_below hT (Nat.le_refl _) HG2.out)).mono ?_
        rintro e w9 ⟨rfl, g9⟩
        go_wp2_with fail
        go_ret
        exact ⟨ret_bool (by simp), HG2.out.trans g9⟩
    · clear hf
      go_enter Tryd.func6, Tryd.ntmps6
      go_wp2_with fail
      refine (rfew_n a0 cap0 zs _ HN.out HX.out).mono ?_
      rintro e w1 ⟨rfl, g1⟩
      rw [HF.out]
      have HG1 := Lib.hid g1
      clear g1
      go_wp2_with fail
      refine (rcheck_n a0 cap0 zs _ HN.out (by omega) (HX.out.grow HG1.out)).mono ?_
      rintro e w2 ⟨rfl, g2⟩
      have HG2 := Lib.hid (HG1.out.trans g2)
      clear g2
      generalize codeV zs = cv at *
      have h0b : (cv == 0) = false := by simp [h0]
      have h0c : (cv != 0) = true := by simp [h0]
      go_wp2_with fail
      refine (alive_any _ (tab_below hT (Nat.le_refl _) HG2.out)).mono ?_
      rintro e w9 ⟨rfl, g9⟩
      go_wp2_with fail
      go_ret
      exact ⟨ret_bool (by simp), HG2.out.trans g9⟩

/-- The listed variables hold what they list in a world where the program's start has laid them. -/
theorem laid_met (os : Os) : laidMet Tryd.prog Rows.shapeNamesRow.laid ((World.laidAll Tryd.prog os Rows.shapeNamesRow.laid).forCall (fun _ _ => 0) ⟨#[], #[.slice none 0 0, .string ByteArray.empty], []⟩).memory :=
  laidMet_of_run' 8 (by kernel_rfl) (by kernel_rfl)
theorem reads (os : Os) {H : Type} (enc : TypeId × Value → H) : ∃ places, DataW.whole enc Tryd.prog ((World.laidAll Tryd.prog os Rows.shapeNamesRow.laid).forCall (fun _ _ => 0) ⟨#[], #[.slice none 0 0, .string ByteArray.empty], []⟩).memory Tryd.f6.params.toList Rows.shapeNamesSpec.vars false (#[.slice none 0 0, .string ByteArray.empty] : Array Value).toList 8 = some ([.nil, .lit (.string [])], [], places) :=
  ⟨[], by kernel_rfl⟩

set_option maxRecDepth 100000 in
theorem lifted (os : Os) (started : os.Started) (H : Type) (enc : TypeId × Value → H) (F : Stop.Interp) :
    ReturnsInHanded {} Tryd.checked os 6 .any ((OpenSpec.ofChange Rows.shapeNamesSpec).preRow enc Tryd.prog Tryd.f6 Rows.shapeNamesRow.domain false Rows.shapeNamesRow.laid) (((OpenSpec.ofChange Rows.shapeNamesSpec).at F).post enc Tryd.prog Tryd.f6 false true false false) := by
  obtain ⟨places, hx⟩ := reads os enc
  refine returnsInHanded_of_row (C := Tryd.checked) (s := (OpenSpec.ofChange Rows.shapeNamesSpec)) own started (by kernel_rfl) Tryd.func6
    (witness_row_at (enc := enc) (C := Tryd.checked) false (World.laidAll Tryd.prog os Rows.shapeNamesRow.laid) #[.slice none 0 0, .string ByteArray.empty] rfl (by kernel_rfl) (by kernel_rfl) (by kernel_rfl)
      (OpenSpec.preRow_of_cond 8 hx (by kernel_rfl) (fun k hk => by cases hk) (by kernel_rfl) (laid_met os))) ?_
  intro W base args ds gs before hval0 hW _ _ _ hL _ _
  have hval : ∀ (j : Nat) t v, Tryd.f6.params[j]? = some t → args[j]? = some v → Value.okWide Tryd.prog W .any base t v := hval0
  have hW' := hW
  obtain ⟨p, q, hA0, hV, rfl, hfz, hnd⟩ := hW
  have hA : DataW.TrodAll enc Tryd.prog W 0 (fun _ => true) true Tryd.f6.params.toList args.toList ds p := hA0
  rw [Tryd.params6] at hA hval
  obtain ⟨v0, vs0, d0, ds0, p0, q0, hargs, rfl, rfl, h0, r0⟩ := trodAll_cons hA
  obtain ⟨v1, vs1, d1, ds1, p1, q1, rfl, rfl, rfl, h1, r1⟩ := trodAll_cons r0
  obtain ⟨rfl, rfl, rfl⟩ := trodAll_nil r1
  obtain rfl : args = #[v0, v1] := by cases args; simp_all
  obtain ⟨rfl, rfl⟩ := trodVars_none hV
  obtain ⟨a0, len0, cap0, rfl⟩ := okWide_slice Tryd.underlying22 (hval 0 22 v0 rfl rfl)
  have k0 := h0
  have lt0 : ∀ x ∈ p0, x.block < W.heap.size := by obtain ⟨m, hm⟩ := k0; exact DataW.trod_lt m _ _ _ hm
  obtain ⟨z0, w0⟩ : ∃ zs, IsRow .i64 W a0 len0 cap0 zs := by
    obtain ⟨fuel, hf⟩ := h0
    rcases open_ints Tryd.underlying22 Tryd.underlying3 (by kernel_rfl) hf with ⟨hcs, _⟩ | ⟨x, l, c, zs, hcs, _, hl, hm, hz, _, hcell, hwz⟩
    · simp [Value.cells] at hcs
      obtain ⟨rfl, rfl, rfl⟩ := hcs
      exact ⟨[], .inl ⟨rfl, rfl, rfl, rfl⟩⟩
    · simp [Value.cells] at hcs
      obtain ⟨rfl, rfl, rfl⟩ := hcs
      exact ⟨zs, .inr ⟨_, rfl, hl, hm, by simpa using hz, hcell, hwz⟩⟩
  obtain ⟨a1, rfl, rfl, rfl, w1⟩ := open_string Tryd.underlying9 (hval 1 9 v1 rfl rfl) h1
  clear hA0 hval0
  refine (walk a0 len0 cap0 z0 a1 W w0 w1 (table hL)).mono fun e W' ⟨he, bel⟩ => ?_
  subst he
  exact ⟨_, rfl, _, _, _, [], _, [], hW', trodAll_mk1 (shut_bool Tryd.underlying4 _), (trodAll_cons_mk (Below.trod laidOut (by kernel_rfl) (of_decide_eq_true (by kernel_rfl)) k0 bel lt0) (trodAll_cons_mk (shut_string Tryd.underlying9 w1) trodAll_mk0)), rfl, bel.frame _, fun h => by cases h⟩

theorem said : Rows.ShapeNamesSaid :=
  OpenClaim.holds_of_cond 6 Tryd.f6 rfl rfl rfl rfl rfl rfl rfl ⟨rfl, rfl, rfl, rfl, rfl⟩ rfl rfl rfl rfl rfl (by kernel_rfl) Tryd.func6 (by kernel_rfl)
    (of_decide_eq_true (by kernel_rfl)) (by unfold Func.isWrapper; first | (rw [if_pos (by decide +kernel)]; kernel_rfl) | (rw [if_neg (by decide +kernel)]; exact ⟨rfl, rfl⟩))
    (fun os started H enc _ F => by rw [OpenClaim.pre_eq_preRow]; exact lifted os started H enc F)
theorem plain (f : FuncId) (fn : Func) (hf : Tryd.pinned.checked.prog.funcNamed "sakia/sakialaw08.ShapeNames" = some f) (hfn : Tryd.pinned.checked.prog.funcs[f]? = some fn) :
    false = Tryd.pinned.checked.prog.looks [] ∧ ∀ (j : Nat) t, fn.params[j]? = some t → Tryd.pinned.checked.prog.wantsStandIn t = false := by
  obtain rfl : f = 6 := Option.some.inj ((show Tryd.prog.funcNamed "sakia/sakialaw08.ShapeNames" = some 6 by kernel_rfl).symm.trans hf) |>.symm
  obtain rfl : fn = Tryd.f6 := (Option.some.inj (Tryd.func6.symm.trans hfn)).symm
  refine ⟨by kernel_rfl, fun j t ht => ?_⟩
  rw [Tryd.params6] at ht
  have hm : t = 22 ∨ t = 9 := by simpa using Array.mem_of_getElem? ht
  rcases hm with rfl | rfl
  · exact (show Tryd.prog.wantsStandIn 22 = false by kernel_rfl)
  · exact (show Tryd.prog.wantsStandIn 9 = false by kernel_rfl)

/-- The card. -/
theorem proved : Rows.ShapeNamesCardSaid :=
  Claim7.holds_tied_plain_at .later [] _ _ _ _ said (fun _ h => by cases h) (by kernel_rfl) (fun _ h => by cases h) shapeNames_row_tie rfl ⟨rfl, rfl⟩ (by kernel_rfl) rfl plain (by kernel_rfl)
end Go.Proofs.YtfgadjpdpocdbaaDoor.shapeNames
