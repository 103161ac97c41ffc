/-
  For all draws and bounds, sakialaw05.DrawNexts(l, bounds) returns true. No condition.
-/
import Derived.Test.YtfgkpbmjdgfdmaaRows
import Derived.Test.YtfgkpbmjdgfdmaaSe
import Derived.Deep.CutBlock
import Derived.Deep.DeepCutAuto
import Derived.WalkKit
import Derived.ProofKit
import Derived.OpenShut
import Derived.ShutString
import Derived.ChangeOld
import Derived.Below
import Derived.SizedLaws
namespace Go.Proofs.Ytfgkpbmjdgfdmaa.drawNexts
open Go.ChangeShapes Go.WideShapes Go.ChangeAt Go.RowKit
open Go.Proofs.Ytfgkpbmjdgfdmaa
set_option linter.unusedVariables false

theorem own : ownKnob Try.prog.godebug = none := by kernel_rfl
theorem laidOut : laidOutB Try.prog = true := by kernel_rfl

set_option maxHeartbeats 1000000 in
theorem walk (a0 : Option Addr) (len0 cap0 : Nat) (zs0 : List Int) (a1 : Option Addr) (len1 cap1 : Nat) (zs1 : List Int) (w : World) (w0 : CameK .u64 w a0 len0 cap0 zs0) (w1 : CameK .i64 w a1 len1 cap1 zs1) :
    Calls Try.prog 3 #[.slice a0 len0 cap0, .slice a1 len1 cap1] w fun e w' => e = .returned (.bool true) ∧ Below w.heap.size w w' := by
  obtain ⟨hl0, hlc0, hr0, hrd0, hnn0, hwf0⟩ := w0
  subst hl0
  have hu : U64 zs0 := fun j hj => u64_wf (hwf0 j hj)
  have hz17 : zs0.length ≤ 17592186044416 := by omega
  have hcm : cap0 ≤ 9223372036854775807 := by omega
  have HX := Lib.hid hrd0
  clear hrd0 hwf0

  obtain ⟨hl1, hlc1, hr1, hrd1, hnn1, hwf1⟩ := w1
  subst hl1
  have HB := Lib.hid hrd1
  have HN : Hid (∀ j, j < zs1.length → el zs1 j ≤ 9223372036854775807) := Lib.hid (fun j hj => by have := in64_wf (hwf1 j hj); unfold In64 at this; omega)
  clear hrd1 hwf1
  by_cases hA : 300 < zs0.length
  · skip

    go_enter Try.func3, Try.ntmps3
    go_wp2_with fail
    refine (new_any a0 cap0 zs0 _ hz17 HX.out).mono ?_
    rintro e w1 ⟨⟨b, rfl, hb, hs⟩, g1⟩
    have HG1 := Lib.hid g1
    clear hs g1
    go_wp2_with fail
    refine (dalive_any _).mono ?_
    rintro e w2 ⟨rfl, g2⟩
    have HG2 := Lib.hid (HG1.out.trans g2)
    clear g2
    go_wp2
    go_ret
    exact ⟨by simp, HG2.out⟩

  by_cases hA1 : 300 < zs1.length
  · skip

    go_enter Try.func3, Try.ntmps3
    go_wp2_with fail
    refine (new_any a0 cap0 zs0 _ hz17 HX.out).mono ?_
    rintro e w1 ⟨⟨b, rfl, hb, hs⟩, g1⟩
    have HG1 := Lib.hid g1
    clear hs g1
    go_wp2_with fail
    refine (dalive_any _).mono ?_
    rintro e w2 ⟨rfl, g2⟩
    have HG2 := Lib.hid (HG1.out.trans g2)
    clear g2
    go_wp2
    go_ret
    exact ⟨by simp, HG2.out⟩

  · go_enter Try.func3, Try.ntmps3
    go_wp2_with fail
    refine (new_any a0 cap0 zs0 _ hz17 HX.out).mono ?_
    rintro e w1 ⟨⟨b, rfl, hb, hs⟩, g1⟩
    have hbl := hs.lt
    have HS1 := Lib.hid (hs.grow ((Grew.refl w1).alloc (.cells #[.slice a0 zs0.length cap0, .int .i64 0] 28)))
    have HT1 := Lib.hid (Two.new w1 28 (.slice a0 zs0.length cap0) (.int .i64 0))
    have HG1 : Hid (Below w.heap.size w (w1.alloc (.cells #[.slice a0 zs0.length cap0, .int .i64 0] 28))) := Lib.hid (g1.alloc _)
    have hw1 := g1.size
    clear hs g1

    go_wp2_with fail
    go_loopw [37] (fun i wr => ∃ k u : Nat, k ≤ zs1.length ∧ u ≤ zs0.length ∧ i = .int .i64 k ∧ Hid (Stm b wr b zs0 u) ∧ Hid (Two wr w1.heap.size 28 (.slice a0 zs0.length cap0) (.int .i64 u)) ∧ Hid (Below w.heap.size w wr)) (fun i _ => zs1.length - (intOf i).toNat)
    case atStart => exact ⟨0, 0, Nat.zero_le _, Nat.zero_le _, rfl, HS1, HT1, HG1⟩
    case round =>
      obtain ⟨k, u, hk, huz, rfl, HS, HT, HG⟩ := hrel
      by_cases hlt : k < zs1.length
      · obtain ⟨g, off, rfl, hg, hcell⟩ := (HB.out.below HG.out).at hlt
        have hn := HN.out k hlt
        generalize el zs1 k = n at hcell hn
        go_wp2_with fail
        refine (next_any n hz17 hu hn HS.out).mono ?_
        rintro e w2 ⟨rfl, hs2, g2⟩
        have HS2 := Lib.hid hs2
        have ht2 := HT.out.grown g2 (by intro e; injection e with e; omega)
        have HT2 := Lib.hid ht2
        have t0 := ht2.c0
        have t1 := ht2.c1
        have HG2 := Lib.hid (HG.out.trans (grownBy_below g2 (B := w.heap.size) (by omega) HG.out.size))
        clear hs2 g2 ht2 hcell
        go_wp2_with fail
        refine (rnext_any a0 cap0 u zs0 n _ hz17 huz hu hn ((HX.out.below HG2.out).mono HG2.out.size)).mono ?_
        rintro e w3 ⟨rfl, g3⟩
        have huz' := nxN_le (n := n) huz
        generalize outN zs0 u n = x
        generalize okN zs0 u n = ok
        generalize nxN zs0 u n = u' at *
        have HS3 := Lib.hid (HS2.out.grow g3)
        have ht3 := HT2.out.grow g3
        have HT3 := Lib.hid ht3
        have q0 := ht3.c0
        have q1 := ht3.c1
        have qf0 := ht3.f0
        have qf1 := ht3.f1
        have hw3 := ht3.lt
        have HG3 := Lib.hid (HG2.out.trans (Below.mono g3 HG2.out.size))
        clear ht3 g3 t0 t1
        go_upto_region 11 with fail
        have HS4 := Lib.hid ((HS3.out.aside (r := w1.heap.size) (by omega) (by omega) (.slice a0 zs0.length cap0) (.int .i64 u')).grow ((Grew.refl _).alloc (.cells #[.slice a0 zs0.length cap0, .int .i64 u'] 28)))
        have ht4 := (HT3.out.both (.slice a0 zs0.length cap0) (.int .i64 u')).alloc (.cells #[.slice a0 zs0.length cap0, .int .i64 u'] 28)
        have HG4 := Lib.hid ((below_both HG3.out hw1 (.slice a0 zs0.length cap0) (.int .i64 u')).alloc (by have := HG3.out.size; simp; omega) (.cells #[.slice a0 zs0.length cap0, .int .i64 u'] 28))
        generalize ((w3.setCell ⟨w1.heap.size, 0, none⟩ (.slice a0 zs0.length cap0)).setCell ⟨w1.heap.size, 1, none⟩ (.int .i64 u')).alloc (.cells #[.slice a0 zs0.length cap0, .int .i64 u'] 28) = W4 at *
        have HT4 := Lib.hid ht4
        have p0 := ht4.c0
        have p1 := ht4.c1
        clear ht4 q0 q1 qf0 qf1 hw3
        go_wp2_with fail
        refine (same_any a0 cap0 _ hz17 HS4.out).mono ?_
        rintro e w5 ⟨rfl, g5⟩
        have HS5 := Lib.hid (HS4.out.grow g5)
        have HT5 := Lib.hid (HT4.out.grow g5)
        have HG5 := Lib.hid (HG4.out.trans (Below.mono g5 HG4.out.size))
        clear g5 p0 p1
        go_wp2
        go_roundw
        case rel => exact ⟨k + 1, u', by omega, huz', by go_num, HS5, HT5, HG5⟩
        case measure => simp [intOf]; omega
      · go_wp2_with fail
        refine (dalive_any _).mono ?_
        rintro e w2 ⟨rfl, g2⟩
        have HG2 := Lib.hid (HG.out.trans (Below.mono g2 HG.out.size))
        clear g2
        go_wp2
        go_ret
        exact ⟨rfl, HG2.out⟩

set_option maxRecDepth 100000 in
theorem lifted (os : Os) (started : os.Started) (H : Type) (enc : TypeId × Value → H) :
    ReturnsInHanded {} Try.checked os 3 .any (Rows.drawNextsSpec.pre6 enc Try.prog Try.f3 Rows.drawNextsRow.domain false) (Rows.drawNextsSpec.post enc Try.prog Try.f3 false true false false) := by
  refine returnsInHanded_of_change_sized (C := Try.checked) own started (by kernel_rfl) Try.func3
    (ChangeSpec.witness6 (enc := enc) (C := Try.checked) false ⟨#[], #[.slice none 0 0, .slice none 0 0], []⟩ 8 (by kernel_rfl) (by kernel_rfl) (by kernel_rfl) (by kernel_rfl)) ?_
  intro W base args ds gs before hval0 hW hcnd hsz0 _
  have hsz : (DataW.weightsEach Try.prog (Try.f3.params.toList ++ Rows.drawNextsSpec.plain.varTypes Try.prog) (ds ++ gs)).all (· ≤ reachBytes) = true := hsz0
  have hval : ∀ (j : Nat) t v, Try.f3.params[j]? = some t → args[j]? = some v → Value.okWide Try.prog W .any base t v := hval0
  have hW' := hW
  obtain ⟨p, q, hA0, hV, rfl, hfz, hnd⟩ := hW
  have hA : DataW.TrodAll enc Try.prog W 0 (fun _ => true) true Try.f3.params.toList args.toList ds p := hA0
  rw [Try.params3] at hA hval hsz
  obtain ⟨v0, vs0, d0, ds0, p0, q0, hargs, rfl, rfl, h0, r0⟩ := trodAll_cons hA
  obtain ⟨v1, vs1, d1, ds1, p1, q1, rfl, rfl, rfl, h1, r1⟩ := trodAll_cons r0
  obtain ⟨rfl, rfl, rfl⟩ := trodAll_nil r1
  obtain rfl : args = #[v0, v1] := by cases args; simp_all
  obtain ⟨rfl, rfl⟩ := trodVars_none hV
  have k0 := h0
  have lt0 : ∀ x ∈ p0, x.block < W.heap.size := by obtain ⟨m, hm⟩ := k0; exact DataW.trod_lt m _ _ _ hm
  obtain ⟨a0, len0, cap0, rfl⟩ := okWide_slice Try.underlying22 (hval 0 22 v0 rfl rfl)
  obtain ⟨zs0, w0⟩ : ∃ us, CameK .u64 W a0 len0 cap0 us := by
    obtain ⟨fuel, hf⟩ := h0
    rcases open_ints Try.underlying22 Try.underlying45 (by kernel_rfl) hf with ⟨hcs, _⟩ | ⟨x, l, c, zs, hcs, _, hl, hm, hz, hx, hcell, hwz⟩
    · simp [Value.cells] at hcs
      obtain ⟨rfl, rfl, rfl⟩ := hcs
      exact ⟨[], cameK_none _ W⟩
    · simp [Value.cells] at hcs
      obtain ⟨rfl, rfl, rfl⟩ := hcs
      simp only [if_true] at hz
      have hd := congrArg Prod.fst hx
      have hreach : cap0 * 8 ≤ 140737488351232 := by
        have hs := sized_slice hsz (j := 0) (t := 22) (e := 45) rfl (congrArg some hd) Try.underlying22
        rw [show Try.prog.bytesOf 45 = 8 from by kernel_rfl] at hs
        simp only [lits, List.length_map, List.length_take, List.length_drop, reachBytes] at hs
        omega
      exact ⟨_, cameK_some hl hreach hz hcell hwz⟩
  have k1 := h1
  have lt1 : ∀ x ∈ p1, x.block < W.heap.size := by obtain ⟨m, hm⟩ := k1; exact DataW.trod_lt m _ _ _ hm
  obtain ⟨a1, len1, cap1, rfl⟩ := okWide_slice Try.underlying23 (hval 1 23 v1 rfl rfl)
  obtain ⟨zs1, w1⟩ : ∃ us, CameK .i64 W a1 len1 cap1 us := by
    obtain ⟨fuel, hf⟩ := h1
    rcases open_ints Try.underlying23 Try.underlying3 (by kernel_rfl) hf with ⟨hcs, _⟩ | ⟨x, l, c, zs, hcs, _, hl, hm, hz, hx, hcell, hwz⟩
    · simp [Value.cells] at hcs
      obtain ⟨rfl, rfl, rfl⟩ := hcs
      exact ⟨[], cameK_none _ W⟩
    · simp [Value.cells] at hcs
      obtain ⟨rfl, rfl, rfl⟩ := hcs
      simp only [if_true] at hz
      have hd := congrArg Prod.fst hx
      have hreach : cap1 * 8 ≤ 140737488351232 := by
        have hs := sized_slice hsz (j := 1) (t := 23) (e := 3) rfl (congrArg some hd) Try.underlying23
        rw [show Try.prog.bytesOf 3 = 8 from by kernel_rfl] at hs
        simp only [lits, List.length_map, List.length_take, List.length_drop, reachBytes] at hs
        omega
      exact ⟨_, cameK_some hl hreach hz hcell hwz⟩
  clear hA0 hval0 hsz hsz0
  refine (walk a0 len0 cap0 zs0 a1 len1 cap1 zs1 W w0 w1).mono fun e W' ⟨he, bel⟩ => ?_
  subst he
  exact ⟨_, rfl, _, _, _, [], _, [], hW', trodAll_mk1 (shut_bool Try.underlying4 _), (trodAll_cons_mk (Below.trod laidOut (by kernel_rfl) (of_decide_eq_true (by kernel_rfl)) k0 bel lt0) (trodAll_cons_mk (Below.trod laidOut (by kernel_rfl) (of_decide_eq_true (by kernel_rfl)) k1 bel lt1) trodAll_mk0)), rfl, bel.frame _, fun h => by cases h⟩

theorem over : Rows.drawNextsRow.holds Try.pinned (OpenSpec.ofChange Rows.drawNextsSpec) :=
  OpenClaim.holds_of_wide 3 Try.f3 rfl rfl rfl rfl rfl rfl rfl ⟨rfl, rfl, rfl, rfl, rfl⟩ rfl rfl rfl rfl rfl (by kernel_rfl) Try.func3 (by kernel_rfl)
    (of_decide_eq_true (by kernel_rfl)) (by unfold Func.isWrapper; first | (rw [if_pos (by decide +kernel)]; kernel_rfl) | (rw [if_neg (by decide +kernel)]; exact ⟨rfl, rfl⟩))
    (fun os started H enc _ => lifted os started H enc)

theorem proved : Rows.DrawNextsSaid := over
end Go.Proofs.Ytfgkpbmjdgfdmaa.drawNexts
