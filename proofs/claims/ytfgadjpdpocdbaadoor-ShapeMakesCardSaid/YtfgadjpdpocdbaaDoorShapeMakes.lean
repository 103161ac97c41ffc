/-
  ShapeMakes: New returns the code of the reference, and the shape has the sizes that were given (also when these are changed afterwards), as many links and parameters. The listed tables hold what the program's start lays.
-/
import Derived.Test.YtfgadjpdpocdbaaDoorCards
import Derived.Test.YtfgadjpdpocdbaaDoorTie
import Derived.Test.YtfgadjpdpocdbaaDoorHp
import Derived.Laws.AppendOwnNone
import Derived.Deep.DeepHandedRow
import Derived.Lib.LaidTab
import Derived.Lay
import Derived.Stop.LaidErr
import Derived.Lib.ItoaNum
import Derived.WalkKit
import Derived.ProofKit
import Derived.OpenShut
import Derived.ShutString
import Derived.ChangeOld
import Derived.Below
namespace Go.Proofs.YtfgadjpdpocdbaaDoor.shapeMakes
open Go.ChangeShapes Go.WideShapes Go.ChangeAt Go.RowKit Go.Proofs.YtfgadjpdpocdbaaDoor
open Go.ChangeMaps (open_string shut_string)
set_option linter.unusedVariables false

theorem own : ownKnob Tryd.prog.godebug = none := by kernel_rfl
theorem laidOut : laidOutB Tryd.prog = true := by kernel_rfl

/-- WHAT THE WALK IS TOLD OF A SLICE OF INTEGERS THAT CAME IN: it is nil; or it leads to a row of 'cap' cells, the numbers 'zs' (the first 'len' are its elements, the rest its spare room), each fitting its kind. -/
def IsRow (k : IntKind) (w : World) (a : Option Addr) (len cap : Nat) (zs : List Int) : Prop :=
  (a = none ∧ len = 0 ∧ cap = 0 ∧ zs = []) ∨
  ∃ x, a = some x ∧ len ≤ cap ∧ cap ≤ maxLen ∧ zs.length = cap ∧ (∀ i, i < zs.length → w.cell? (x.add i) = some (.int k (zs.getD i 0))) ∧ ∀ n ∈ zs, (Lit.int k n).wf = true


theorem gTab : Tryd.prog.globalNamed "internal/strconv.uint64pow10" = some 0 := by kernel_rfl
theorem gTabType : (Tryd.prog.globals[0]?).map (·.type) = some 94 := by kernel_rfl
theorem cellsTab : Tryd.prog.cellsOf 94 = 20 := by kernel_rfl
theorem cellsElem : Tryd.prog.cellsOf 71 = 1 := by kernel_rfl
theorem powTab : Lib.pow10Tab = [1, 10, 100, 1000, 10000, 100000, 1000000, 10000000, 100000000, 1000000000, 10000000000, 100000000000, 1000000000000, 10000000000000, 100000000000000, 1000000000000000, 10000000000000000, 100000000000000000, 1000000000000000000, 10000000000000000000] := by decide +kernel
/-- What the row's list gives: the table of powers of ten. -/
theorem table {W : World} (h0 : laidMetH Tryd.prog Rows.shapeMakesRow.laid W) : Lib.TabIs Tryd.prog W "internal/strconv.uint64pow10" .u64 Lib.pow10Tab := by
  have h : laidMet Tryd.prog Rows.shapeMakesRow.laid W := h0
  rw [powTab]
  exact Lib.tabIs_of_head (rest := []) gTab gTabType Tryd.underlying94 Tryd.underlying71 cellsElem cellsTab (h.tail.tail)

set_option maxHeartbeats 4000000 in
theorem walk (a0 : Option Addr) (len0 cap0 : Nat) (z0 : List Int) (w : World) (w0 : IsRow .i64 w a0 len0 cap0 z0)
    (hT : Lib.TabIs Tryd.prog w "internal/strconv.uint64pow10" .u64 Lib.pow10Tab) :
    Calls Tryd.prog 3 #[.slice a0 len0 cap0] w fun e w' => e = .returned (.bool true) ∧ Below w.heap.size w w' := by
  have hrow : ∃ zs, CameS w a0 len0 cap0 zs := by
    rcases w0 with ⟨rfl, rfl, rfl, rfl⟩ | ⟨x, rfl, hl, hm, hz, hc, _⟩
    · exact ⟨[], cameS_none w⟩
    · exact ⟨_, cameS_some hl hm hz hc⟩
  obtain ⟨zs, hn, hlc, hcm, hnn, hrd⟩ := hrow
  clear w0
  by_cases h40 : len0 ≤ 40
  · obtain ⟨i0, hi, hz0, hz1, hz2⟩ := info_parts info_int
    have HX := Lib.hid hrd
    have HN := Lib.hid hn
    have HO : Hid ((w.alloc (.cells #[] 3)).ownsRow w.heap.size 3 1 (.slice (some ⟨w.heap.size, 0, none⟩) 0 0) 0 []) := Lib.hid (World.ownsRow_made w #[] 0 (Nat.le_refl _) (Nat.zero_le _) (by simp))
    have HG0 : Hid (Grew w (w.alloc (.cells #[] 3))) := Lib.hid ((Grew.refl w).alloc _)
    go_enter Tryd.func3, Tryd.ntmps3
    go_upto_region 3 with fail
    go_cut [3] (fun ov wx => ∃ ao co, ov = .slice ao len0 co ∧ Hid (BufK .i64 3 w.heap.size wx ao len0 co zs) ∧ Hid (Grew w wx))
    case first =>
      cases a0 with
      | none =>
        obtain ⟨rfl, rfl⟩ := hnn rfl
        obtain rfl : zs = [] := List.eq_nil_of_length_eq_zero HN.out
        go_wp2_with (at_builtin; refine wpList_append_own_none rfl _ _ 22 rfl w.heap.size 3 i0 1 Tryd.underlying22 hi _ _ _ rfl HO.out rfl ?_)
        go_wp2
        go_meet
        exact ⟨_, _, rfl, HO, HG0⟩
      | some x =>
        have HNw : Hid (∀ (j : Nat) (u : Value), (zs.map (Value.int .i64))[j]? = some u → (w.alloc (.cells #[] 3)).cell? (x.add j) = some u) := Lib.hid (by
          intro j u hj
          have hlt : j < zs.length := by
            rcases Nat.lt_or_ge j zs.length with h' | h'
            · exact h'
            · rw [List.getElem?_eq_none (by simpa using h')] at hj; cases hj
          obtain ⟨b, off, e, hb, hc⟩ := (HX.out.grow HG0.out).at hlt
          injection e with e
          subst e
          rw [List.getElem?_map, el_lt hlt] at hj
          rw [Addr.add_lit, hc]
          exact hj)
        go_wp2_with (at_builtin; refine wpList_append_own _ rfl _ _ 22 rfl w.heap.size 3 i0 (.int .i64 0) 1 8 Tryd.underlying22 hi hz0 hz1 hz2 rfl (by decide) _ _ _ rfl HO.out x len0 cap0 (zs.map (Value.int .i64)) rfl ?qc1 ?qc2 ?qc3 ?qc4 ?qc5 ?qc6 ?_)
        case qc1 => rw [List.length_map, HN.out]; simp
        case qc2 => exact HNw.out
        case qc3 => intro u hu; obtain ⟨z, _, rfl⟩ := List.mem_map.1 hu; rfl
        case qc4 => unfold maxLen; omega
        case qc5 => omega
        case qc6 => simp
        intro v' w1 hown hgrow hnil
        have HG1 : Hid (Grew w w1) := Lib.hid (Below.grown HG0.out hgrow (by simp) (by intro k hk; simp [Value.ownBlock] at hk; omega))
        obtain ⟨ao, co, rfl, hb⟩ := own_ints (n := len0) (zs := zs) (q := .i64) (by simpa using hown)
        have HB := Lib.hid hb
        clear hown hgrow hnil hb
        go_wp2
        go_meet
        exact ⟨_, _, rfl, HB, HG1⟩
    case rest =>
      obtain ⟨ao, co, rfl, HB, HG⟩ := hcut
      clear HO HG0
      have hfit := HB.out.fits
      go_wp2_with fail
      refine (new_any ao co zs _ HN.out (by omega) hfit.1 hfit.2 HB.out.rd).mono ?_
      rintro e w1 ⟨⟨p, rfl, hnew⟩, g1⟩
      have HNw := Lib.hid hnew
      have HG1 := Lib.hid (HG.out.trans g1)
      have HB1 := Lib.hid (HB.out.grow g1)
      have HBl := Lib.hid (fun x hx => (buf_block HB.out x hx).2)
      clear hnew g1
      go_wp2_with fail
      refine (rcheck_n a0 cap0 zs _ HN.out (by omega) (HX.out.grow HG1.out)).mono ?_
      rintro e w2 ⟨rfl, g2⟩
      have HNw2 := Lib.hid (HNw.out.grow g2)
      have HG2 := Lib.hid (HG1.out.trans g2)
      have HB2 := Lib.hid (HB1.out.grow g2)
      clear g2 HNw HB1 HG1
      go_wp2_with fail
      go_loopw [24] (fun iv wr => ∃ (k : Nat) (us : List Int), k ≤ len0 ∧ iv = .int .i64 (k : Int) ∧ Hid (BufK .i64 3 w.heap.size wr ao len0 co us) ∧ Hid (w2.grownBy wr (Value.slice ao len0 co).ownBlock)) (fun iv _ => len0 - (intOf iv).toNat)
      case atStart => exact ⟨0, zs, Nat.zero_le _, rfl, HB2, Lib.hid (grown_refl _ _)⟩
      case round =>
        obtain ⟨k, us, hk, rfl, HBr, HGr⟩ := hrel
        by_cases hlt : k < len0
        · obtain ⟨g, ex, _, hgl, hcell, hfro⟩ := HBr.out.at hlt
          subst ex
          have HSt := Lib.hid (fun v => HBr.out.set k v)
          generalize el us k = u at *
          go_wp2
          go_roundw
          case rel => exact ⟨k + 1, _, by omega, by go_num, Lib.hid (HSt.out _), Lib.hid (grownBy_trans HGr.out (grownBy_setCell1 wr ⟨g, k, none⟩ _))⟩
          case measure => simp [intOf]; omega
        · obtain rfl : k = len0 := by omega
          have hbe : Below w.heap.size w2 wr := below_of_grown HGr.out (fun x hx => (buf_block HB2.out x hx).1) HG2.out.size
          have HGw : Hid (Grew w wr) := Lib.hid (HG2.out.trans_below hbe (Nat.le_refl _))
          have HNr := Lib.hid (HNw2.out.left HGr.out (fun x hx => HBl.out x hx))
          have HTr := Lib.hid (tab_below hT (Nat.le_refl _) HGw.out)
          clear hbe
          by_cases h0 : codeV zs = 0
          · obtain ⟨b, rfl, hS⟩ := HNr.out.1 h0
            have HR := Lib.hid (codeV_zero h0)
            have hR1 := HR.out.1
            have hR2 := HR.out.2.1
            have hci : 0 ≤ cnt zs := (cntN_in HR.out.2.2.1 (Nat.le_refl _)).1
            have hcj := HR.out.2.2.2
            have HS := Lib.hid hS
            have HL : Hid (((lnk zs : Nat) : Int) = (k : Int) - 1) := Lib.hid (by unfold lnk; rw [HN.out]; omega)
            rw [HN.out] at hR1 hR2
            rw [h0]
            clear hS h0
            go_wp2_with fail
            refine (alive_any _ HTr.out).mono ?_
            rintro e w3 ⟨rfl, g3⟩
            have HS3 := Lib.hid (HS.out.grow g3)
            have HG3 := Lib.hid (HGw.out.trans g3)
            clear g3
            go_wp2_with fail
            refine (sizes_any (by rw [HN.out]; omega) HS3.out).mono ?_
            rintro e w4 ⟨⟨sa, sc, rfl, hb4⟩, g4⟩
            have HB4 := Lib.hid hb4.rd
            have HS4 := Lib.hid (HS3.out.grow g4)
            have HG4 := Lib.hid (HG3.out.trans g4)
            clear g4 hb4
            rw [HN.out]
            go_wp2_with fail
            refine (iequal_n sa a0 sc cap0 zs zs _ HN.out HN.out (by omega) (by omega) HB4.out (HX.out.grow HG4.out)).mono ?_
            rintro e w5 ⟨rfl, g5⟩
            rw [decide_eq_true rfl]
            have HS5 := Lib.hid (HS4.out.grow g5)
            have HG5 := Lib.hid (HG4.out.trans g5)
            clear g5
            go_wp2_with fail
            refine (links_any HS5.out).mono ?_
            rintro e w6 ⟨rfl, rfl⟩
            rw [HL.out]
            go_wp2_with fail
            refine (count_any HR.out HS5.out).mono ?_
            rintro e w6 ⟨rfl, g6⟩
            have HG6 := Lib.hid (HG5.out.trans g6)
            clear g6
            go_wp2_with fail
            refine (rcount_n a0 cap0 zs _ HN.out hR2 HR.out.2.2.1 (HX.out.grow HG6.out)).mono ?_
            rintro e w7 ⟨rfl, g7⟩
            generalize cnt zs = m at *
            go_wp2
            go_ret
            exact ⟨ret_bool (by simp), HG6.out.trans g7⟩
          · obtain rfl := HNr.out.2 h0
            generalize codeV zs = cv at *
            have h0b : (cv == 0) = false := by simp [h0]
            have h0c : (cv != 0) = true := by simp [h0]
            go_wp2_with fail
            refine (alive_any _ HTr.out).mono ?_
            rintro e w3 ⟨rfl, g3⟩
            go_wp2_with fail
            go_ret
            exact ⟨ret_bool (by simp), HGw.out.trans g3⟩
  · go_enter Tryd.func3, Tryd.ntmps3
    have hcm' : len0 ≤ 9223372036854775807 := Nat.le_trans hlc hcm
    go_wp2_with fail
    refine (alive_any _ hT).mono ?_
    rintro e w1 ⟨rfl, g1⟩
    go_wp2_with fail
    go_ret
    exact ⟨rfl, g1⟩

/-- The listed variables hold what they list in a world where the program's start has laid them. -/
theorem laid_met (os : Os) : laidMet Tryd.prog Rows.shapeMakesRow.laid ((World.laidAll Tryd.prog os Rows.shapeMakesRow.laid).forCall (fun _ _ => 0) ⟨#[], #[.slice none 0 0], []⟩).memory :=
  laidMet_of_run' 8 (by kernel_rfl) (by kernel_rfl)
theorem reads (os : Os) {H : Type} (enc : TypeId × Value → H) : ∃ places, DataW.whole enc Tryd.prog ((World.laidAll Tryd.prog os Rows.shapeMakesRow.laid).forCall (fun _ _ => 0) ⟨#[], #[.slice none 0 0], []⟩).memory Tryd.f3.params.toList Rows.shapeMakesSpec.vars false (#[.slice none 0 0] : Array Value).toList 8 = some ([.nil], [], places) :=
  ⟨[], by kernel_rfl⟩

set_option maxRecDepth 100000 in
theorem lifted (os : Os) (started : os.Started) (H : Type) (enc : TypeId × Value → H) (F : Stop.Interp) :
    ReturnsInHanded {} Tryd.checked os 3 .any ((OpenSpec.ofChange Rows.shapeMakesSpec).preRow enc Tryd.prog Tryd.f3 Rows.shapeMakesRow.domain false Rows.shapeMakesRow.laid) (((OpenSpec.ofChange Rows.shapeMakesSpec).at F).post enc Tryd.prog Tryd.f3 false true false false) := by
  obtain ⟨places, hx⟩ := reads os enc
  refine returnsInHanded_of_row (C := Tryd.checked) (s := (OpenSpec.ofChange Rows.shapeMakesSpec)) own started (by kernel_rfl) Tryd.func3
    (witness_row_at (enc := enc) (C := Tryd.checked) false (World.laidAll Tryd.prog os Rows.shapeMakesRow.laid) #[.slice none 0 0] rfl (by kernel_rfl) (by kernel_rfl) (by kernel_rfl)
      (OpenSpec.preRow_of_cond 8 hx (by kernel_rfl) (fun k hk => by cases hk) (by kernel_rfl) (laid_met os))) ?_
  intro W base args ds gs before hval0 hW _ _ _ hL _ _
  have hval : ∀ (j : Nat) t v, Tryd.f3.params[j]? = some t → args[j]? = some v → Value.okWide Tryd.prog W .any base t v := hval0
  have hW' := hW
  obtain ⟨p, q, hA0, hV, rfl, hfz, hnd⟩ := hW
  have hA : DataW.TrodAll enc Tryd.prog W 0 (fun _ => true) true Tryd.f3.params.toList args.toList ds p := hA0
  rw [Tryd.params3] at hA hval
  obtain ⟨v0, vs0, d0, ds0, p0, q0, hargs, rfl, rfl, h0, r0⟩ := trodAll_cons hA
  obtain ⟨rfl, rfl, rfl⟩ := trodAll_nil r0
  obtain rfl : args = #[v0] := by cases args; simp_all
  obtain ⟨rfl, rfl⟩ := trodVars_none hV
  obtain ⟨a0, len0, cap0, rfl⟩ := okWide_slice Tryd.underlying22 (hval 0 22 v0 rfl rfl)
  have k0 := h0
  have lt0 : ∀ x ∈ p0, x.block < W.heap.size := by obtain ⟨m, hm⟩ := k0; exact DataW.trod_lt m _ _ _ hm
  obtain ⟨z0, w0⟩ : ∃ zs, IsRow .i64 W a0 len0 cap0 zs := by
    obtain ⟨fuel, hf⟩ := h0
    rcases open_ints Tryd.underlying22 Tryd.underlying3 (by kernel_rfl) hf with ⟨hcs, _⟩ | ⟨x, l, c, zs, hcs, _, hl, hm, hz, _, hcell, hwz⟩
    · simp [Value.cells] at hcs
      obtain ⟨rfl, rfl, rfl⟩ := hcs
      exact ⟨[], .inl ⟨rfl, rfl, rfl, rfl⟩⟩
    · simp [Value.cells] at hcs
      obtain ⟨rfl, rfl, rfl⟩ := hcs
      exact ⟨zs, .inr ⟨_, rfl, hl, hm, by simpa using hz, hcell, hwz⟩⟩
  clear hA0 hval0
  refine (walk a0 len0 cap0 z0 W w0 (table hL)).mono fun e W' ⟨he, bel⟩ => ?_
  subst he
  exact ⟨_, rfl, _, _, _, [], _, [], hW', trodAll_mk1 (shut_bool Tryd.underlying4 _), (trodAll_cons_mk (Below.trod laidOut (by kernel_rfl) (of_decide_eq_true (by kernel_rfl)) k0 bel lt0) trodAll_mk0), rfl, bel.frame _, fun h => by cases h⟩

theorem said : Rows.ShapeMakesSaid :=
  OpenClaim.holds_of_cond 3 Tryd.f3 rfl rfl rfl rfl rfl rfl rfl ⟨rfl, rfl, rfl, rfl, rfl⟩ rfl rfl rfl rfl rfl (by kernel_rfl) Tryd.func3 (by kernel_rfl)
    (of_decide_eq_true (by kernel_rfl)) (by unfold Func.isWrapper; first | (rw [if_pos (by decide +kernel)]; kernel_rfl) | (rw [if_neg (by decide +kernel)]; exact ⟨rfl, rfl⟩))
    (fun os started H enc _ F => by rw [OpenClaim.pre_eq_preRow]; exact lifted os started H enc F)
theorem plain (f : FuncId) (fn : Func) (hf : Tryd.pinned.checked.prog.funcNamed "sakia/sakialaw08.ShapeMakes" = some f) (hfn : Tryd.pinned.checked.prog.funcs[f]? = some fn) :
    false = Tryd.pinned.checked.prog.looks [] ∧ ∀ (j : Nat) t, fn.params[j]? = some t → Tryd.pinned.checked.prog.wantsStandIn t = false := by
  obtain rfl : f = 3 := Option.some.inj ((show Tryd.prog.funcNamed "sakia/sakialaw08.ShapeMakes" = some 3 by kernel_rfl).symm.trans hf) |>.symm
  obtain rfl : fn = Tryd.f3 := (Option.some.inj (Tryd.func3.symm.trans hfn)).symm
  refine ⟨by kernel_rfl, fun j t ht => ?_⟩
  rw [Tryd.params3] at ht
  have hm : t = 22 := by simpa using Array.mem_of_getElem? ht
  obtain rfl := hm
  · exact (show Tryd.prog.wantsStandIn 22 = false by kernel_rfl)

/-- The card. -/
theorem proved : Rows.ShapeMakesCardSaid :=
  Claim7.holds_tied_plain_at .later [] _ _ _ _ said (fun _ h => by cases h) (by kernel_rfl) (fun _ h => by cases h) shapeMakes_row_tie rfl ⟨rfl, rfl⟩ (by kernel_rfl) rfl plain (by kernel_rfl)
end Go.Proofs.YtfgadjpdpocdbaaDoor.shapeMakes
