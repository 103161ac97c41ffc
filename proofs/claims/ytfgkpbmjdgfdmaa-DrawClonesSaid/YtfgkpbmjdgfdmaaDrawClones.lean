/-
  For all draws and numbers of uses, sakialaw05.DrawClones(l, used, more) returns true. No condition.
-/
import Derived.Test.YtfgkpbmjdgfdmaaRows
import Derived.Test.YtfgkpbmjdgfdmaaSe
import Derived.Deep.CutBlock
import Derived.Deep.DeepCutAuto
import Derived.WalkKit
import Derived.ProofKit
import Derived.OpenShut
import Derived.ShutString
import Derived.ChangeOld
import Derived.Below
import Derived.SizedLaws
namespace Go.Proofs.Ytfgkpbmjdgfdmaa.drawClones
open Go.ChangeShapes Go.WideShapes Go.ChangeAt Go.RowKit
open Go.Proofs.Ytfgkpbmjdgfdmaa
set_option linter.unusedVariables false

theorem own : ownKnob Try.prog.godebug = none := by kernel_rfl
theorem laidOut : laidOutB Try.prog = true := by kernel_rfl

set_option maxHeartbeats 1000000 in
theorem walk (a0 : Option Addr) (len0 cap0 : Nat) (zs0 : List Int) (a1 : Int) (a2 : Int) (w : World) (w0 : CameK .u64 w a0 len0 cap0 zs0) (w1 : (Lit.int .u8 a1).wf = true) (w2 : (Lit.int .u8 a2).wf = true) :
    Calls Try.prog 5 #[.slice a0 len0 cap0, .int .u8 a1, .int .u8 a2] w fun e w' => e = .returned (.bool true) ∧ Below w.heap.size w w' := by
  obtain ⟨hl0, hlc0, hr0, hrd0, hnn0, hwf0⟩ := w0
  subst hl0
  have hu : U64 zs0 := fun j hj => u64_wf (hwf0 j hj)
  have hz17 : zs0.length ≤ 17592186044416 := by omega
  have hcm : cap0 ≤ 9223372036854775807 := by omega
  have HX := Lib.hid hrd0
  clear hrd0 hwf0

  have hu8 := u8_in w1
  obtain ⟨n1, rfl⟩ := Int.eq_ofNat_of_zero_le (a := a1) (by omega)
  have hn1 : n1 ≤ 255 := by omega
  have hv8 := u8_in w2
  obtain ⟨n2, rfl⟩ := Int.eq_ofNat_of_zero_le (a := a2) (by omega)
  have hn2 : n2 ≤ 255 := by omega
  clear hu8 hv8 w1 w2

  by_cases hA : 300 < zs0.length
  · skip

    go_enter Try.func5, Try.ntmps5
    go_wp2_with fail
    refine (new_any a0 cap0 zs0 _ hz17 HX.out).mono ?_
    rintro e w1 ⟨⟨b, rfl, hb, hs⟩, g1⟩
    have HG1 := Lib.hid g1
    clear hs g1
    go_wp2_with fail
    refine (dalive_any _).mono ?_
    rintro e w2 ⟨rfl, g2⟩
    have HG2 := Lib.hid (HG1.out.trans g2)
    clear g2
    go_wp2
    go_ret
    exact ⟨by simp, HG2.out⟩

  · go_enter Try.func5, Try.ntmps5
    go_wp2_with fail
    refine (new_any a0 cap0 zs0 _ hz17 HX.out).mono ?_
    rintro e w1 ⟨⟨b, rfl, hb, hs⟩, g1⟩
    have hbl := hs.lt
    have HS1 := Lib.hid (hs.grow ((Grew.refl w1).alloc (.cells #[.slice a0 zs0.length cap0, .int .i64 0] 28)))
    have HT1 := Lib.hid (Two.new w1 28 (.slice a0 zs0.length cap0) (.int .i64 0))
    have HG1 : Hid (Below w.heap.size w (w1.alloc (.cells #[.slice a0 zs0.length cap0, .int .i64 0] 28))) := Lib.hid (g1.alloc _)
    have hw1 := g1.size
    clear hs g1

    go_wp2_with fail
    go_loopw [34] (fun i wr => ∃ k u : Nat, k ≤ n1 ∧ u ≤ zs0.length ∧ i = .int .i64 k ∧ Hid (Stm b wr b zs0 u) ∧ Hid (Two wr w1.heap.size 28 (.slice a0 zs0.length cap0) (.int .i64 u)) ∧ Hid (Below w.heap.size w wr)) (fun i _ => n1 - (intOf i).toNat)
    case atStart => exact ⟨0, 0, Nat.zero_le _, Nat.zero_le _, rfl, HS1, HT1, HG1⟩
    case round =>
      obtain ⟨k, u, hk, huz, rfl, HS, HT, HG⟩ := hrel
      by_cases hlt : k < n1
      · go_wp2_with fail
        refine (next_any 9 hz17 hu (by decide) HS.out).mono ?_
        rintro e w2 ⟨rfl, hs2, g2⟩
        have HS2 := Lib.hid hs2
        have ht2 := HT.out.grown g2 (by intro e; injection e with e; omega)
        have HT2 := Lib.hid ht2
        have t0 := ht2.c0
        have t1 := ht2.c1
        have HG2 := Lib.hid (HG.out.trans (grownBy_below g2 (B := w.heap.size) (by omega) HG.out.size))
        clear hs2 g2 ht2
        go_wp2_with fail
        refine (rnext_any a0 cap0 u zs0 9 _ hz17 huz hu (by decide) ((HX.out.below HG2.out).mono HG2.out.size)).mono ?_
        rintro e w3 ⟨rfl, g3⟩
        have huz' := nxN_le (n := 9) huz
        generalize outN zs0 u 9 = x
        generalize okN zs0 u 9 = ok
        generalize nxN zs0 u 9 = u' at *
        have HS3 := Lib.hid (HS2.out.grow g3)
        have ht3 := HT2.out.grow g3
        have HT3 := Lib.hid ht3
        have qf0 := ht3.f0
        have qf1 := ht3.f1
        have q0 := ht3.c0
        have q1 := ht3.c1
        have HG3 := Lib.hid (HG2.out.trans (Below.mono g3 HG2.out.size))
        clear ht3 g3 t0 t1
        have HS4 := Lib.hid (HS3.out.aside (r := w1.heap.size) (by omega) (by omega) (.slice a0 zs0.length cap0) (.int .i64 u'))
        have HT4 := Lib.hid (HT3.out.both (.slice a0 zs0.length cap0) (.int .i64 u'))
        have HG4 := Lib.hid (below_both HG3.out hw1 (.slice a0 zs0.length cap0) (.int .i64 u'))
        go_wp2_with fail
        go_roundw
        case rel => exact ⟨k + 1, u', by omega, huz', by go_num, HS4, HT4, HG4⟩
        case measure => simp [intOf]; omega

      · have hbw := HT.out.lt
        have HS0 := HS
        have HT0 := HT
        have HG0 := HG
        have huz0 := huz
        obtain rfl : k = n1 := by omega
        clear HS HT HG hk hlt huz
        rename World => W1
        go_wp2_with fail
        refine (sclone_any HS0.out).mono ?_
        rintro e w2 ⟨⟨b2, rfl, hb2, hs2⟩, g2⟩
        have HC2 := Lib.hid hs2
        have HS2 := Lib.hid (HS0.out.grow g2)
        have ht2 := HT0.out.grow g2
        have HT2 := Lib.hid ht2
        have t0 := ht2.c0
        have t1 := ht2.c1
        have HG2 := Lib.hid (HG0.out.trans (Below.mono g2 HG0.out.size))
        have hW1 := HG0.out.size
        clear hs2 g2 ht2
        go_wp2_with fail
        refine (same_any a0 cap0 _ hz17 HC2.out).mono ?_
        rintro e w3 ⟨rfl, g3⟩
        have HC3 := Lib.hid (HC2.out.grow g3)
        have HS3 := Lib.hid (HS2.out.grow g3)
        have ht3 := HT2.out.grow g3
        have HT3 := Lib.hid ht3
        have hb3 := HC3.out.lt
        have HG3 := Lib.hid (HG2.out.trans (Below.mono g3 HG2.out.size))
        have q0 := ht3.c0
        have q1 := ht3.c1
        have hw3 := HG3.out.size
        have hbw3 := ht3.lt
        have gA : Grew w3 (w3.alloc (.cells #[(.slice a0 zs0.length cap0), .int .i64 u] 28)) := (Grew.refl _).alloc _
        have HCA := Lib.hid (HC3.out.grow gA)
        have HSA := Lib.hid (HS3.out.grow gA)
        have HTA := Lib.hid (HT3.out.grow gA)
        have HVA := Lib.hid (Two.new w3 28 (.slice a0 zs0.length cap0) (.int .i64 u))
        have HGA := Lib.hid (HG3.out.trans (Below.mono gA HG3.out.size))
        clear ht3 g3 t0 t1 gA
        go_wp2_with fail
        go_loopw [58] (fun i wr => ∃ k v : Nat, k ≤ n2 ∧ v ≤ zs0.length ∧ i = .int .i64 k ∧ Hid (Stm b wr b2 zs0 v) ∧ Hid (Stm b wr b zs0 u) ∧ Hid (Two wr w1.heap.size 28 (.slice a0 zs0.length cap0) (.int .i64 u)) ∧ Hid (Two wr w3.heap.size 28 (.slice a0 zs0.length cap0) (.int .i64 v)) ∧ Hid (Below w.heap.size w wr)) (fun i _ => n2 - (intOf i).toNat)
        case atStart => exact ⟨0, u, Nat.zero_le _, huz0, rfl, HCA, HSA, HTA, HVA, HGA⟩
        case round =>
          obtain ⟨k, v, hk, hvz, rfl, HC, HS, HT, HV, HG⟩ := hrel
          by_cases hlt : k < n2
          · go_wp2_with fail
            refine (next_any 1000 hz17 hu (by decide) HC.out).mono ?_
            rintro e w4 ⟨rfl, hs4, g4⟩
            have HC4 := Lib.hid hs4
            have HS4 := Lib.hid (HS.out.grown g4 (by omega) (by omega))
            have HT4 := Lib.hid (HT.out.grown g4 (by intro e; injection e with e; omega))
            have ht4 := HV.out.grown g4 (by intro e; injection e with e; omega)
            have HV4 := Lib.hid ht4
            have t0 := ht4.c0
            have t1 := ht4.c1
            have HG4 := Lib.hid (HG.out.trans (grownBy_below g4 (B := w.heap.size) (by omega) HG.out.size))
            clear hs4 g4 ht4
            go_wp2_with fail
            refine (rnext_any a0 cap0 v zs0 1000 _ hz17 hvz hu (by decide) ((HX.out.below HG4.out).mono HG4.out.size)).mono ?_
            rintro e w5 ⟨rfl, g5⟩
            have hvz' := nxN_le (n := 1000) hvz
            generalize outN zs0 v 1000 = x
            generalize okN zs0 v 1000 = ok
            generalize nxN zs0 v 1000 = v' at *
            have HC5 := Lib.hid (HC4.out.grow g5)
            have HS5 := Lib.hid (HS4.out.grow g5)
            have HT5 := Lib.hid (HT4.out.grow g5)
            have ht5 := HV4.out.grow g5
            have HV5 := Lib.hid ht5
            have qf0 := ht5.f0
            have qf1 := ht5.f1
            have p0 := ht5.c0
            have p1 := ht5.c1
            have hv5 := ht5.lt
            have HG5 := Lib.hid (HG4.out.trans (Below.mono g5 HG4.out.size))
            clear ht5 g5 t0 t1
            have gB : Grew ((w5.setCell ⟨w3.heap.size, 0, none⟩ (.slice a0 zs0.length cap0)).setCell ⟨w3.heap.size, 1, none⟩ (.int .i64 v')) (((w5.setCell ⟨w3.heap.size, 0, none⟩ (.slice a0 zs0.length cap0)).setCell ⟨w3.heap.size, 1, none⟩ (.int .i64 v')).alloc (.cells #[(.slice a0 zs0.length cap0), .int .i64 v'] 28)) := (Grew.refl _).alloc _
            have HC6 := Lib.hid ((HC5.out.aside (r := w3.heap.size) (by omega) (by omega) (.slice a0 zs0.length cap0) (.int .i64 v')).grow gB)
            have HS6 := Lib.hid ((HS5.out.aside (r := w3.heap.size) (by omega) (by omega) (.slice a0 zs0.length cap0) (.int .i64 v')).grow gB)
            have HT6 := Lib.hid (((HT5.out.other ⟨w3.heap.size, 0, none⟩ (.slice a0 zs0.length cap0) (by show w1.heap.size ≠ w3.heap.size; omega)).other ⟨w3.heap.size, 1, none⟩ (.int .i64 v') (by show w1.heap.size ≠ w3.heap.size; omega)).grow gB)
            have HV6 := Lib.hid ((HV5.out.both (.slice a0 zs0.length cap0) (.int .i64 v')).grow gB)
            have hb6 := below_both HG5.out hw3 (.slice a0 zs0.length cap0) (.int .i64 v')
            have HG6 := Lib.hid (hb6.trans (Below.mono gB hb6.size))
            clear gB hb6
            go_wp2_with fail
            go_roundw
            case rel => exact ⟨k + 1, v', by omega, hvz', by go_num, HC6, HS6, HT6, HV6, HG6⟩
            case measure => simp [intOf]; omega
          · go_wp2_with fail
            refine (dalive_any _).mono ?_
            rintro e w4 ⟨rfl, g4⟩
            have HC4 := Lib.hid (HC.out.grow g4)
            have HS4 := Lib.hid (HS.out.grow g4)
            have ht4 := HT.out.grow g4
            have HT4 := Lib.hid ht4
            have HV4 := Lib.hid (HV.out.grow g4)
            have HG4 := Lib.hid (HG.out.trans (Below.mono g4 HG.out.size))
            have t0 := ht4.c0
            have t1 := ht4.c1
            clear g4 ht4
            go_wp2_with fail
            refine (same_any a0 cap0 _ hz17 HS4.out).mono ?_
            rintro e w5 ⟨rfl, g5⟩
            have HC5 := Lib.hid (HC4.out.grow g5)
            have ht5 := HV4.out.grow g5
            have HG5 := Lib.hid (HG4.out.trans (Below.mono g5 HG4.out.size))
            have p0 := ht5.c0
            have p1 := ht5.c1
            clear g5 ht5 t0 t1
            go_wp2_with fail
            refine (same_any a0 cap0 _ hz17 HC5.out).mono ?_
            rintro e w6 ⟨rfl, g6⟩
            have HG6 := Lib.hid (HG5.out.trans (Below.mono g6 HG5.out.size))
            clear g6
            go_wp2
            go_ret
            exact ⟨rfl, HG6.out⟩

set_option maxRecDepth 100000 in
theorem lifted (os : Os) (started : os.Started) (H : Type) (enc : TypeId × Value → H) :
    ReturnsInHanded {} Try.checked os 5 .any (Rows.drawClonesSpec.pre6 enc Try.prog Try.f5 Rows.drawClonesRow.domain false) (Rows.drawClonesSpec.post enc Try.prog Try.f5 false true false false) := by
  refine returnsInHanded_of_change_sized (C := Try.checked) own started (by kernel_rfl) Try.func5
    (ChangeSpec.witness6 (enc := enc) (C := Try.checked) false ⟨#[], #[.slice none 0 0, .int .u8 0, .int .u8 0], []⟩ 8 (by kernel_rfl) (by kernel_rfl) (by kernel_rfl) (by kernel_rfl)) ?_
  intro W base args ds gs before hval0 hW hcnd hsz0 _
  have hsz : (DataW.weightsEach Try.prog (Try.f5.params.toList ++ Rows.drawClonesSpec.plain.varTypes Try.prog) (ds ++ gs)).all (· ≤ reachBytes) = true := hsz0
  have hval : ∀ (j : Nat) t v, Try.f5.params[j]? = some t → args[j]? = some v → Value.okWide Try.prog W .any base t v := hval0
  have hW' := hW
  obtain ⟨p, q, hA0, hV, rfl, hfz, hnd⟩ := hW
  have hA : DataW.TrodAll enc Try.prog W 0 (fun _ => true) true Try.f5.params.toList args.toList ds p := hA0
  rw [Try.params5] at hA hval hsz
  obtain ⟨v0, vs0, d0, ds0, p0, q0, hargs, rfl, rfl, h0, r0⟩ := trodAll_cons hA
  obtain ⟨v1, vs1, d1, ds1, p1, q1, rfl, rfl, rfl, h1, r1⟩ := trodAll_cons r0
  obtain ⟨v2, vs2, d2, ds2, p2, q2, rfl, rfl, rfl, h2, r2⟩ := trodAll_cons r1
  obtain ⟨rfl, rfl, rfl⟩ := trodAll_nil r2
  obtain rfl : args = #[v0, v1, v2] := by cases args; simp_all
  obtain ⟨rfl, rfl⟩ := trodVars_none hV
  have k0 := h0
  have lt0 : ∀ x ∈ p0, x.block < W.heap.size := by obtain ⟨m, hm⟩ := k0; exact DataW.trod_lt m _ _ _ hm
  obtain ⟨a0, len0, cap0, rfl⟩ := okWide_slice Try.underlying22 (hval 0 22 v0 rfl rfl)
  obtain ⟨zs0, w0⟩ : ∃ us, CameK .u64 W a0 len0 cap0 us := by
    obtain ⟨fuel, hf⟩ := h0
    rcases open_ints Try.underlying22 Try.underlying45 (by kernel_rfl) hf with ⟨hcs, _⟩ | ⟨x, l, c, zs, hcs, _, hl, hm, hz, hx, hcell, hwz⟩
    · simp [Value.cells] at hcs
      obtain ⟨rfl, rfl, rfl⟩ := hcs
      exact ⟨[], cameK_none _ W⟩
    · simp [Value.cells] at hcs
      obtain ⟨rfl, rfl, rfl⟩ := hcs
      simp only [if_true] at hz
      have hd := congrArg Prod.fst hx
      have hreach : cap0 * 8 ≤ 140737488351232 := by
        have hs := sized_slice hsz (j := 0) (t := 22) (e := 45) rfl (congrArg some hd) Try.underlying22
        rw [show Try.prog.bytesOf 45 = 8 from by kernel_rfl] at hs
        simp only [lits, List.length_map, List.length_take, List.length_drop, reachBytes] at hs
        omega
      exact ⟨_, cameK_some hl hreach hz hcell hwz⟩
  obtain ⟨a1, rfl, rfl, rfl, w1⟩ := open_int Try.underlying5 (hval 1 5 v1 rfl rfl) h1
  obtain ⟨a2, rfl, rfl, rfl, w2⟩ := open_int Try.underlying5 (hval 2 5 v2 rfl rfl) h2
  clear hA0 hval0 hsz hsz0
  refine (walk a0 len0 cap0 zs0 a1 a2 W w0 w1 w2).mono fun e W' ⟨he, bel⟩ => ?_
  subst he
  exact ⟨_, rfl, _, _, _, [], _, [], hW', trodAll_mk1 (shut_bool Try.underlying4 _), (trodAll_cons_mk (Below.trod laidOut (by kernel_rfl) (of_decide_eq_true (by kernel_rfl)) k0 bel lt0) (trodAll_cons_mk (shut_int Try.underlying5 w1) (trodAll_cons_mk (shut_int Try.underlying5 w2) trodAll_mk0))), rfl, bel.frame _, fun h => by cases h⟩

theorem over : Rows.drawClonesRow.holds Try.pinned (OpenSpec.ofChange Rows.drawClonesSpec) :=
  OpenClaim.holds_of_wide 5 Try.f5 rfl rfl rfl rfl rfl rfl rfl ⟨rfl, rfl, rfl, rfl, rfl⟩ rfl rfl rfl rfl rfl (by kernel_rfl) Try.func5 (by kernel_rfl)
    (of_decide_eq_true (by kernel_rfl)) (by unfold Func.isWrapper; first | (rw [if_pos (by decide +kernel)]; kernel_rfl) | (rw [if_neg (by decide +kernel)]; exact ⟨rfl, rfl⟩))
    (fun os started H enc _ => lifted os started H enc)

theorem proved : Rows.DrawClonesSaid := over
end Go.Proofs.Ytfgkpbmjdgfdmaa.drawClones
