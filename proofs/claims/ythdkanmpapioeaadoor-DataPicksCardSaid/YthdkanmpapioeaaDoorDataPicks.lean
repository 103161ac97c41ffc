/-
  DataPicks: Pick returns copies of the examples with some indices, as the reference does, or nothing. The listed tables hold what the program's start lays.
-/
import Derived.Test.YthdkanmpapioeaaDoorCards
import Derived.Test.YthdkanmpapioeaaDoorTie
import Derived.Test.YthdkanmpapioeaaDoorEq
import Derived.Test.YthdkanmpapioeaaDoorEw
import Derived.Test.YthdkanmpapioeaaDoorEm
import Derived.Deep.DeepHandedRow
import Derived.Lib.LaidTab
import Derived.Lay
import Derived.Stop.LaidErr
import Derived.Lib.ItoaNum
import Derived.WalkKit
import Derived.ProofKit
import Derived.OpenShut
import Derived.ShutString
import Derived.ChangeOld
import Derived.Below
import Derived.Lib.SmallJoins
import Derived.SizedLaws
namespace Go.Proofs.YthdkanmpapioeaaDoor.dataPicks
open Go.ChangeShapes Go.WideShapes Go.ChangeAt Go.RowKit Go.Shelf
open Go.ChangeMaps (open_string shut_string)
open Go.Proofs.YthdkanmpapioeaaDoor
set_option linter.unusedVariables false

theorem own : ownKnob Tryd.prog.godebug = none := by kernel_rfl
theorem laidOut : laidOutB Tryd.prog = true := by kernel_rfl

theorem gTab : Tryd.prog.globalNamed "internal/strconv.uint64pow10" = some 1 := by kernel_rfl
theorem gTabType : (Tryd.prog.globals[1]?).map (·.type) = some 140 := by kernel_rfl
theorem cellsTab : Tryd.prog.cellsOf 140 = 20 := by kernel_rfl
theorem cellsElem : Tryd.prog.cellsOf 81 = 1 := by kernel_rfl
theorem powTab : Lib.pow10Tab = [1, 10, 100, 1000, 10000, 100000, 1000000, 10000000, 100000000, 1000000000, 10000000000, 100000000000, 1000000000000, 10000000000000, 100000000000000, 1000000000000000, 10000000000000000, 100000000000000000, 1000000000000000000, 10000000000000000000] := by decide +kernel
/-- What the row's list gives: the table of powers of ten. -/
theorem table {W : World} (h0 : laidMetH Tryd.prog Rows.dataPicksRow.laid W) : Lib.TabIs Tryd.prog W "internal/strconv.uint64pow10" .u64 Lib.pow10Tab := by
  have h : laidMet Tryd.prog Rows.dataPicksRow.laid W := h0
  rw [powTab]
  exact Lib.tabIs_of_head (rest := _) gTab gTabType Tryd.underlying140 Tryd.underlying81 cellsElem cellsTab (h.tail.tail)

set_option maxRecDepth 100000 in
set_option maxHeartbeats 4000000 in
theorem walk (a0 : Option Addr) (len0 cap0 : Nat) (es0 : List Ex) (a1 : Option Addr) (len1 cap1 : Nat) (zs1 : List Int) (w : World) (w0 : CameE w a0 len0 cap0 es0) (w1 : CameK .i64 w a1 len1 cap1 zs1)
    (hT : Lib.TabIs Tryd.prog w "internal/strconv.uint64pow10" .u64 Lib.pow10Tab) :
    Calls Tryd.prog 6 #[.slice a0 len0 cap0, .slice a1 len1 cap1] w fun e w' => e = .returned (.bool true) ∧ Below w.heap.size w w' := by
  obtain ⟨hn, hlc, hcm, hr, hf0, hle⟩ := w0
  obtain ⟨hn1, hlc1, hcm1, hr1, _, _⟩ := w1
  subst hn hn1
  have hl0 : es0.length ≤ 9223372036854775807 := by unfold maxLen at hcm; omega
  have HR := Lib.hid hr
  have HL := Lib.hid hle
  have HI := Lib.hid hr1
  clear hr hf0 hle hcm hr1
  cases hf : fewE es0 with
  | false =>
    have HF := Lib.hid hf
    clear hf
    go_enter Tryd.func6, Tryd.ntmps6

    go_wp2_with fail
    refine (rfewE_any a0 cap0 es0 w hl0 HL.out HR.out).mono ?_
    rintro u w1 ⟨rfl, g1⟩
    rw [HF.out]
    have HG1 := Lib.hid g1
    clear g1
    go_wp2_with fail
    refine (aliveE_any _ (tab_below hT (Nat.le_refl _) HG1.out)).mono ?_
    rintro u w2 ⟨rfl, g2⟩
    go_wp2
    go_ret
    exact ⟨rfl, HG1.out.trans g2⟩
  | true =>
    have HS := Lib.hid (few_sm hf)
    have HF := Lib.hid hf
    clear hf
    by_cases h100 : zs1.length ≤ 100
    · have h100b : (zs1.length : Int) ≤ 100 := by omega
      go_enter Tryd.func6, Tryd.ntmps6

      go_wp2_with fail
      refine (rfewE_any a0 cap0 es0 w hl0 HL.out HR.out).mono ?_
      rintro u w1 ⟨rfl, g1⟩
      rw [HF.out]
      have HG1 := Lib.hid g1
      have HR1 := Lib.hid (HR.out.grow g1)
      have HI1 := Lib.hid (HI.out.grow g1)
      clear g1
      go_wp2_with fail
      refine (rcloneE_any a0 cap0 es0 w1 rfl HS.out HR1.out).mono ?_
      rintro u w2 ⟨⟨v, rs, rfl, hrs, hlo, hoo⟩, g2⟩
      obtain ⟨va, vc, rfl, _, _⟩ := hlo.form
      have HRS := Lib.hid hrs
      have HLO := Lib.hid hlo
      have HOO := Lib.hid hoo
      have HG2 := Lib.hid (HG1.out.trans g2)
      have HI2 := Lib.hid (HI1.out.grow g2)
      have HRE := Lib.hid (hlo.rdE hoo.rd)
      have HSM : Hid (SmE (rs.map Prod.snd)) := Lib.hid (by rw [hrs]; exact HS.out)
      have HB0 : Hid (w.heap.size ≤ w1.heap.size) := Lib.hid HG1.out.size
      have HB2 := Lib.hid g2.size
      have hrl : rs.length ≤ 100 := by
        have h := HSM.out.1
        rw [List.length_map] at h
        exact h
      have HLEN : Hid (∀ (j : Nat) (r : Pl × Ex), rs[j]? = some r → r.2.1.length ≤ 1000 ∧ r.2.2.length ≤ 1000) := Lib.hid (fun j r hj => by
        have h := HSM.out.2 j (by rw [List.length_map]; exact (List.getElem?_eq_some_iff.1 hj).1)
        unfold lx ly at h
        rw [ex_map rs hj] at h
        exact h)
      clear hrs hlo hoo g2
      go_wp2_with fail
      refine (dPick_any va a1 vc cap1 (rs.map Prod.snd) zs1 w2 (by rw [List.length_map]) rfl HSM.out h100 HRE.out HI2.out).mono ?_
      rintro u w3 ⟨⟨v3, rs3, ok, rfl, hl3, ho3, hc3⟩, g3⟩
      obtain ⟨xa, xc, rfl, _, _⟩ := hl3.form
      have HX3 := Lib.hid hl3
      have HXO3 := Lib.hid ho3
      have HC3 := Lib.hid hc3
      have HG3 := Lib.hid (HG2.out.trans g3)
      have HI3 := Lib.hid (HI2.out.grow g3)
      have HG23 := Lib.hid g3
      clear hl3 ho3 hc3 g3
      go_wp2_with fail
      refine (rPick_any (B := w.heap.size) a0 a1 cap0 cap1 es0 zs1 w3 rfl rfl HS.out h100 HG3.out.size (HR.out.below HG3.out) HI3.out).mono ?_
      rintro u w4 ⟨⟨v4, rs4, ok4, rfl, hl4, hr4, hs4, hc4⟩, g4⟩
      obtain ⟨ya, yc, rfl, _, _⟩ := hl4.form
      have hboth : ok = ok4 ∧ rs3.map Prod.snd = rs4.map Prod.snd := by
        have h3 := HC3.out
        rw [HRS.out] at h3
        rcases h3 with ⟨rfl, h3⟩ | ⟨rfl, h3, rfl⟩
        · rcases hc4 with ⟨rfl, h4⟩ | ⟨rfl, h4, rfl⟩
          · exact ⟨rfl, Option.some.inj (h3.symm.trans h4)⟩
          · rw [h3] at h4; cases h4
        · rcases hc4 with ⟨rfl, h4⟩ | ⟨rfl, h4, rfl⟩
          · rw [h3] at h4; cases h4
          · exact ⟨rfl, rfl⟩
      obtain ⟨rfl, hsame⟩ := hboth
      have HSAME := Lib.hid hsame
      have HSM4 := Lib.hid hs4
      have HSM3 : Hid (SmE (rs3.map Prod.snd)) := Lib.hid (by rw [hsame]; exact hs4)
      have HX4 := Lib.hid (HX3.out.grow g4)
      have HXO4 := Lib.hid (HXO3.out.grow g4)
      have HY4 := Lib.hid (hl4.mono HG23.out.size)
      have HYR4 := Lib.hid (hr4.mono HB0.out)
      have HG4 := Lib.hid (HG3.out.trans g4)
      obtain ⟨G, hva, hmu⟩ := Mut.start HLO.out HOO.out (HG23.out.trans g4)
      have HB0S : Hid (w1.heap.size ≤ w4.heap.size) := Lib.hid (Nat.le_trans HB2.out (HG23.out.trans g4).size)
      have HVA := Lib.hid hva
      have HMU := Lib.hid hmu
      clear hsame hs4 hl4 hr4 hc4 g4 hva hmu HX3 HXO3 HC3 HG23 HLO HOO HRE HRS HI1 HI2 HI3 HI HR1 HB2
      generalize w1.heap.size = B0 at *
      generalize w2.heap.size = D at *


      go_wp2
      go_loopw [38] (fun i wr => ∃ k : Nat, k ≤ rs.length ∧ i = .int .i64 (k : Int) ∧ Hid (Mut B0 D G w4 wr rs)) (fun i _ => rs.length - (intOf i).toNat)
      case atStart => exact ⟨0, Nat.zero_le _, rfl, HMU⟩
      case round =>
        rename World => wr
        clear HMU
        obtain ⟨k, hk, rfl, HMU⟩ := hrel
        by_cases hlt : k < rs.length
        · obtain ⟨r, hrk⟩ : ∃ r, rs[k]? = some r := ⟨_, List.getElem?_eq_getElem hlt⟩
          obtain rfl := HVA.out (by omega)
          obtain ⟨k0, k1⟩ := HMU.out.row k r hrk
          have hGl := World.block_lt_of_cell? wr _ k0
          have HMU1 := HMU
          obtain ⟨hlx, hly⟩ := HLEN.out k r hrk
          go_wp2
          go_loopw [47] (fun i wi => ∃ t : Nat, t ≤ r.2.1.length ∧ i = .int .i64 (t : Int) ∧ Hid (Mut B0 D G w4 wi rs)) (fun i _ => r.2.1.length - (intOf i).toNat)
          case atStart => exact ⟨0, Nat.zero_le _, rfl, HMU1⟩
          case round =>
            clear k0 k1 hGl HMU1 HMU
            rename World => wi
            obtain ⟨t, ht, rfl, HMt⟩ := hrel
            obtain ⟨k0, k1⟩ := HMt.out.row k r hrk
            have hGl := World.block_lt_of_cell? wi _ k0
            by_cases htl : t < r.2.1.length
            · obtain ⟨g, z, hga, hg1, hg2, hg3, hcz, hfz⟩ := (HMt.out.ints k r hrk).1.at htl
              have HST := Lib.hid (fun y => HMt.out.set (t := t) hg1 hg2 hg3 y)
              have HGA := Lib.hid hga
              rw [hga] at k0
              clear hga
              generalize r.2.1.length = m1 at *
              go_wp2
              go_roundw
              case rel => exact ⟨t + 1, by omega, by go_num, Lib.hid (HST.out _)⟩
              case measure => simp [intOf]; omega
            · obtain rfl : t = r.2.1.length := by omega
              have HMU2 := HMt
              go_wp2
              go_loopw [67] (fun i wi => ∃ t : Nat, t ≤ r.2.2.length ∧ i = .int .i64 (t : Int) ∧ Hid (Mut B0 D G w4 wi rs)) (fun i _ => r.2.2.length - (intOf i).toNat)
              case atStart => exact ⟨0, Nat.zero_le _, rfl, HMU2⟩
              case round =>
                clear k0 k1 hGl HMU2 HMt
                rename World => wj
                obtain ⟨t, ht, rfl, HMt⟩ := hrel
                obtain ⟨k0, k1⟩ := HMt.out.row k r hrk
                have hGl := World.block_lt_of_cell? wj _ k0
                by_cases htl : t < r.2.2.length
                · obtain ⟨g, z, hga, hg1, hg2, hg3, hcz, hfz⟩ := (HMt.out.ints k r hrk).2.at htl
                  have HST := Lib.hid (fun y => HMt.out.set (t := t) hg1 hg2 hg3 y)
                  rw [hga] at k1
                  clear hga
                  generalize r.2.2.length = m2 at *
                  go_wp2
                  go_roundw
                  case rel => exact ⟨t + 1, by omega, by go_num, Lib.hid (HST.out _)⟩
                  case measure => simp [intOf]; omega
                · obtain rfl : t = r.2.2.length := by omega
                  go_wp2
                  go_roundw
                  case rel => exact ⟨k + 1, by omega, by go_num, HMt⟩
                  case measure => simp [intOf]; omega
        · obtain rfl : k = rs.length := by omega
          have HMD := Lib.hid HMU.out.mid
          have HGW : Hid (Grew w wr) := Lib.hid (HG4.out.trans_below HMD.out.below HB0.out)
          have HX5 := Lib.hid (LotE.rdE (HMD.out.lot HX4.out) (HMD.out.own HXO4.out).rd)
          have HY5 := Lib.hid (LotE.rdE (HMD.out.lot HY4.out) ((HMD.out.rdl HYR4.out).mono (Nat.le_trans HB0S.out HMD.out.size)))
          clear HMU
          go_wp2_with fail
          refine (aliveE_any _ (tab_below hT (Nat.le_refl _) HGW.out)).mono ?_
          rintro u w6 ⟨rfl, g6⟩
          have HX6 := Lib.hid (HX5.out.grow g6)
          have HY6 := Lib.hid (HY5.out.grow g6)
          have HG6 := Lib.hid (HGW.out.trans g6)
          clear g6
          go_wp2_with fail
          refine (rsameAll_any xa ya xc yc (rs3.map Prod.snd) (rs4.map Prod.snd) w6 (by rw [List.length_map]) (by rw [List.length_map]) HSM3.out HSM4.out HX6.out HY6.out).mono ?_
          rintro u w7 ⟨rfl, g7⟩
          rw [decide_eq_true HSAME.out]
          go_wp2
          go_ret
          exact ⟨ret_bool (by simp), HG6.out.trans g7⟩
    · have h100b : ¬ (zs1.length : Int) ≤ 100 := by omega
      go_enter Tryd.func6, Tryd.ntmps6

      go_wp2_with fail
      refine (rfewE_any a0 cap0 es0 w hl0 HL.out HR.out).mono ?_
      rintro u w1 ⟨rfl, g1⟩
      rw [HF.out]
      have HG1 := Lib.hid g1
      clear g1
      go_wp2_with fail
      refine (aliveE_any _ (tab_below hT (Nat.le_refl _) HG1.out)).mono ?_
      rintro u w2 ⟨rfl, g2⟩
      go_wp2
      go_ret
      exact ⟨rfl, HG1.out.trans g2⟩

/-- The listed variables hold what they list in a world where the program's start has laid them. -/
theorem laid_met (os : Os) : laidMet Tryd.prog Rows.dataPicksRow.laid ((World.laidAll Tryd.prog os Rows.dataPicksRow.laid).forCall (fun _ _ => 0) ⟨#[], #[.slice none 0 0, .slice none 0 0], []⟩).memory :=
  laidMet_of_run' 8 (by kernel_rfl) (by kernel_rfl)
theorem reads (os : Os) {H : Type} (enc : TypeId × Value → H) : ∃ places, DataW.whole enc Tryd.prog ((World.laidAll Tryd.prog os Rows.dataPicksRow.laid).forCall (fun _ _ => 0) ⟨#[], #[.slice none 0 0, .slice none 0 0], []⟩).memory Tryd.f6.params.toList Rows.dataPicksSpec.vars false (#[.slice none 0 0, .slice none 0 0] : Array Value).toList 8 = some ([.nil, .nil], [], places) :=
  ⟨[], by kernel_rfl⟩

set_option maxRecDepth 100000 in
theorem lifted (os : Os) (started : os.Started) (H : Type) (enc : TypeId × Value → H) (F : Stop.Interp) :
    ReturnsInHanded {} Tryd.checked os 6 .any ((OpenSpec.ofChange Rows.dataPicksSpec).preRow enc Tryd.prog Tryd.f6 Rows.dataPicksRow.domain false Rows.dataPicksRow.laid) (((OpenSpec.ofChange Rows.dataPicksSpec).at F).post enc Tryd.prog Tryd.f6 false true false false) := by
  obtain ⟨places, hx⟩ := reads os enc
  refine returnsInHanded_of_row (C := Tryd.checked) (s := (OpenSpec.ofChange Rows.dataPicksSpec)) own started (by kernel_rfl) Tryd.func6
    (witness_row_at (enc := enc) (C := Tryd.checked) false (World.laidAll Tryd.prog os Rows.dataPicksRow.laid) #[.slice none 0 0, .slice none 0 0] rfl (by kernel_rfl) (by kernel_rfl) (by kernel_rfl)
      (OpenSpec.preRow_of_cond 8 hx (by kernel_rfl) (fun k hk => by cases hk) (by kernel_rfl) (laid_met os))) ?_
  intro W base args ds gs before hval0 hW _ _ hsz0 hL hsh _
  have hsz : (DataW.weightsEach Tryd.prog (Tryd.f6.params.toList ++ Rows.dataPicksSpec.plain.varTypes Tryd.prog) (ds ++ gs)).all (· ≤ reachBytes) = true := hsz0
  have hval : ∀ (j : Nat) t v, Tryd.f6.params[j]? = some t → args[j]? = some v → Value.okWide Tryd.prog W .any base t v := hval0
  have hW' := hW
  obtain ⟨p, q, hA0, hV, rfl, hfz, hnd⟩ := hW
  have hA : DataW.TrodAll enc Tryd.prog W 0 (fun _ => true) true Tryd.f6.params.toList args.toList ds p := hA0
  rw [Tryd.params6] at hA hval hsz
  obtain ⟨v0, vs0, d0, ds0, p0, q0, hargs, rfl, rfl, h0, r0⟩ := trodAll_cons hA
  obtain ⟨v1, vs1, d1, ds1, p1, q1, rfl, rfl, rfl, h1, r1⟩ := trodAll_cons r0
  obtain ⟨rfl, rfl, rfl⟩ := trodAll_nil r1
  obtain rfl : args = #[v0, v1] := by cases args; simp_all
  obtain ⟨rfl, rfl⟩ := trodVars_none hV
  have k0 := h0
  have lt0 : ∀ x ∈ p0, x.block < W.heap.size := by obtain ⟨m, hm⟩ := k0; exact DataW.trod_lt m _ _ _ hm
  obtain ⟨a0, len0, cap0, rfl⟩ := okWide_slice Tryd.underlying26 (hval 0 26 v0 rfl rfl)
  obtain ⟨es0, w0⟩ : ∃ us, CameE W a0 len0 cap0 us := by
    obtain ⟨fuel, hf⟩ := h0
    exact examples_in Tryd.underlying26 Tryd.underlying24 (by kernel_rfl) rfl rfl (by kernel_rfl) (by kernel_rfl) rfl rfl Tryd.underlying22 Tryd.underlying2 (by kernel_rfl) hf
  have k1 := h1
  have lt1 : ∀ x ∈ p1, x.block < W.heap.size := by obtain ⟨m, hm⟩ := k1; exact DataW.trod_lt m _ _ _ hm
  obtain ⟨a1, len1, cap1, rfl⟩ := okWide_slice Tryd.underlying38 (hval 1 38 v1 rfl rfl)
  obtain ⟨zs1, w1⟩ : ∃ us, CameK .i64 W a1 len1 cap1 us := by
    obtain ⟨fuel, hf⟩ := h1
    rcases open_ints Tryd.underlying38 Tryd.underlying3 (by kernel_rfl) hf with ⟨hcs, _⟩ | ⟨x, l, c, zs, hcs, _, hl, hm, hz, hx, hcell, hwz⟩
    · simp [Value.cells] at hcs
      obtain ⟨rfl, rfl, rfl⟩ := hcs
      exact ⟨[], cameK_none _ W⟩
    · simp [Value.cells] at hcs
      obtain ⟨rfl, rfl, rfl⟩ := hcs
      simp only [if_true] at hz
      have hd := congrArg Prod.fst hx
      have hreach : cap1 * 8 ≤ 140737488351232 := by
        have hs := sized_slice hsz (j := 1) (t := 38) (e := 3) rfl (congrArg some hd) Tryd.underlying38
        rw [show Tryd.prog.bytesOf 3 = 8 from by kernel_rfl] at hs
        simp only [lits, List.length_map, List.length_take, List.length_drop, reachBytes] at hs
        omega
      exact ⟨_, cameK_some hl hreach hz hcell hwz⟩
  clear hA0 hval0 hsz0 hsz
  have hwalk := walk a0 len0 cap0 es0 a1 len1 cap1 zs1 W w0 w1 (table hL)
  refine hwalk.mono fun e W' ⟨he, bel⟩ => ?_
  subst he
  exact ⟨_, rfl, _, _, _, [], _, [], hW', trodAll_mk1 (shut_bool Tryd.underlying4 _), (trodAll_cons_mk (Below.trod laidOut (by kernel_rfl) (of_decide_eq_true (by kernel_rfl)) k0 bel lt0) (trodAll_cons_mk (Below.trod laidOut (by kernel_rfl) (of_decide_eq_true (by kernel_rfl)) k1 bel lt1) trodAll_mk0)), rfl, bel.frame _, fun h => by cases h⟩

theorem said : Rows.DataPicksSaid :=
  OpenClaim.holds_of_cond 6 Tryd.f6 rfl rfl rfl rfl rfl rfl rfl ⟨rfl, rfl, rfl, rfl, rfl⟩ rfl rfl rfl rfl rfl (by kernel_rfl) Tryd.func6 (by kernel_rfl)
    (of_decide_eq_true (by kernel_rfl)) (by unfold Func.isWrapper; first | (rw [if_pos (by decide +kernel)]; kernel_rfl) | (rw [if_neg (by decide +kernel)]; exact ⟨rfl, rfl⟩))
    (fun os started H enc _ F => by rw [OpenClaim.pre_eq_preRow]; exact lifted os started H enc F)
theorem plain (f : FuncId) (fn : Func) (hf : Tryd.pinned.checked.prog.funcNamed "sakia/sakialaw10.DataPicks" = some f) (hfn : Tryd.pinned.checked.prog.funcs[f]? = some fn) :
    false = Tryd.pinned.checked.prog.looks [] ∧ ∀ (j : Nat) t, fn.params[j]? = some t → Tryd.pinned.checked.prog.wantsStandIn t = false := by
  obtain rfl : f = 6 := Option.some.inj ((show Tryd.prog.funcNamed "sakia/sakialaw10.DataPicks" = some 6 by kernel_rfl).symm.trans hf) |>.symm
  obtain rfl : fn = Tryd.f6 := (Option.some.inj (Tryd.func6.symm.trans hfn)).symm
  refine ⟨by kernel_rfl, fun j t ht => ?_⟩
  rw [Tryd.params6] at ht
  have hm : t = 26 ∨ t = 38 := by simpa using Array.mem_of_getElem? ht
  rcases hm with rfl | rfl
  · exact (show Tryd.prog.wantsStandIn 26 = false by kernel_rfl)
  · exact (show Tryd.prog.wantsStandIn 38 = false by kernel_rfl)

/-- The card. -/
theorem proved : Rows.DataPicksCardSaid :=
  Claim7.holds_tied_plain_at .later [] _ _ _ _ said (fun _ h => by cases h) (by kernel_rfl) (fun _ h => by cases h) dataPicks_row_tie rfl ⟨rfl, rfl⟩ (by kernel_rfl) rfl plain (by kernel_rfl)
end Go.Proofs.YthdkanmpapioeaaDoor.dataPicks
