/-
  For all draws, sakialaw05.DrawKeeps(l) returns true. No condition.
-/
import Derived.Test.YtfgkpbmjdgfdmaaRows
import Derived.Test.YtfgkpbmjdgfdmaaSg
import Derived.Deep.CutBlock
import Derived.Deep.DeepCutAuto
import Derived.WalkKit
import Derived.ProofKit
import Derived.OpenShut
import Derived.ShutString
import Derived.ChangeOld
import Derived.Below
import Derived.SizedLaws
namespace Go.Proofs.Ytfgkpbmjdgfdmaa.drawKeeps
open Go.ChangeShapes Go.WideShapes Go.ChangeAt Go.RowKit Go.Shelf
open Go.Proofs.Ytfgkpbmjdgfdmaa
set_option linter.unusedVariables false

theorem own : ownKnob Try.prog.godebug = none := by kernel_rfl
theorem laidOut : laidOutB Try.prog = true := by kernel_rfl

attribute [local go_sem] Oper.semAt_some
/-- The statement's result still stands at false; what lay in memory lies as it lay. -/
def Res (w W : World) : Prop := Boxed W w.heap.size 4 (.bool false) ∧ Below w.heap.size w W
theorem Res.below {w W W' : World} (h : Res w W) (g : Below (w.heap.size + 1) W W') : Res w W' := result_below h g (Nat.lt_succ_self _)
theorem Res.grow {w W W' : World} (h : Res w W) (g : Grew W W') : Res w W' := h.below (Below.mono g h.1.lt)
theorem Res.at {w W : World} (h : Res w W) : W.cell? ⟨w.heap.size, 0, none⟩ = some (.bool false) ∧ W.frozen? ⟨w.heap.size, 0, none⟩ = false := ⟨h.1.cell, h.1.frozen⟩

set_option maxRecDepth 100000 in
set_option maxHeartbeats 2000000 in
theorem walk (a0 : Option Addr) (len0 cap0 : Nat) (zs0 : List Int) (w : World) (w0 : CameK .u64 w a0 len0 cap0 zs0) :
    Calls Try.prog 7 #[.slice a0 len0 cap0] w fun e w' => e = .returned (.bool true) ∧ Below w.heap.size w w' := by
  obtain ⟨hl0, hlc0, hr0, hrd0, hnn0, hwf0⟩ := w0
  subst hl0
  have hu : U64 zs0 := fun j hj => u64_wf (hwf0 j hj)
  have hz17 : zs0.length ≤ 17592186044416 := by omega
  have hcm : cap0 ≤ 9223372036854775807 := by omega
  have HX := Lib.hid hrd0
  clear hrd0 hwf0

  obtain ⟨i0, hi, hz0, hz1, hz2⟩ := info_parts info_u64
  refine (callsIn_wide (n := 5)).1 ?_
  refine callsIn_of_wp_marks Try.func7 rfl trivial ?_ rfl
  simp only [Try.ntmps7, List.size_toArray, List.length_cons, List.length_nil, Nat.reduceAdd, Nat.reduceSub, Array.replicate_succ, Array.replicate_zero, List.push_toArray, List.append_toArray, List.nil_append, List.cons_append]
  refine wpIn_wide.2 ?_
  go_upto_region 1 with fail
  have HR0 : Hid (Res w (w.alloc (.cells #[.bool false] 4))) := Lib.hid ⟨Boxed.new w _ _, (Grew.refl w).alloc _⟩
  have Hs0 : Hid ((w.alloc (.cells #[.bool false] 4)).heap.size = w.heap.size + 1) := Lib.hid (World.size_alloc _ _)
  have HX0 := Lib.hid ((HX.out.below HR0.out.2).mono HR0.out.2.size)
  generalize w.alloc (.cells #[.bool false] 4) = W0 at *
  go_cut [3] from 17 (fun v wx => ∃ ao co, v = .slice ao zs0.length co ∧ Hid (BufK .u64 45 W0.heap.size wx ao zs0.length co zs0) ∧ Hid (Grew W0 wx))
  case first =>
    have g0 : Grew W0 (W0.alloc (.cells #[] 45)) := (Grew.refl W0).alloc _
    have hown : (W0.alloc (.cells #[] 45)).ownsRow W0.heap.size 45 1 (.slice (some ⟨W0.heap.size, 0, none⟩) 0 0) 0 [] := World.ownsRow_made W0 #[] 0 (Nat.le_refl _) (Nat.zero_le _) (by simp)
    cases a0 with
    | none =>
      obtain rfl := hnn0 rfl
      obtain rfl : zs0 = [] := by
        rcases HX0.out with h | ⟨b, off, e, _⟩
        · exact h
        · cases e
      have HO := Lib.hid hown
      have HG := Lib.hid g0
      clear hown g0
      go_wp2_with fail
      go_meet
      exact ⟨_, _, rfl, HO, HG⟩
    | some x =>
      have HN : Hid (∀ (j : Nat) (u : Value), (zs0.map (Value.int .u64))[j]? = some u → (W0.alloc (.cells #[] 45)).cell? (x.add j) = some u) := Lib.hid (by
        intro j u hj
        have hlt : j < zs0.length := by
          rcases Nat.lt_or_ge j zs0.length with h' | h'
          · exact h'
          · rw [List.getElem?_eq_none (by simpa using h')] at hj; cases hj
        obtain ⟨b, off, e, hb, hc⟩ := (HX0.out.grow g0).at hlt
        injection e with e
        subst e
        rw [List.getElem?_map, el_lt hlt] at hj
        rw [Addr.add_lit, hc]
        exact hj)
      have HO := Lib.hid hown
      have HG := Lib.hid g0
      clear hown g0
      go_wp2_with (at_builtin; refine wpList_append_own _ rfl _ _ 22 rfl W0.heap.size 45 i0 (.int .u64 0) 1 8 Try.underlying22 hi hz0 hz1 hz2 rfl (by decide) _ _ _ rfl HO.out x zs0.length cap0 (zs0.map (Value.int .u64)) rfl ?qc1 ?qc2 ?qc3 ?qc4 ?qc5 ?qc6 ?_)
      case qc1 => simp
      case qc2 => exact HN.out
      case qc3 => intro u hu; obtain ⟨z, _, rfl⟩ := List.mem_map.1 hu; rfl
      case qc4 => unfold maxLen; omega
      case qc5 => omega
      case qc6 => simp
      intro v' w1 hown hgrow hnil
      have HG1 : Hid (Grew W0 w1) := Lib.hid (Below.grown HG.out hgrow (by simp) (by intro k hk; simp [Value.ownBlock] at hk; omega))
      obtain ⟨a', c', rfl, hb⟩ := own_ints (n := zs0.length) (zs := zs0) (q := .u64) hown
      have HB := Lib.hid hb
      clear hown hgrow hnil hb
      go_wp2_with fail
      go_meet
      exact ⟨_, _, rfl, HB, HG1⟩
  case rest =>
    obtain ⟨ao, co, rfl, HB, HG⟩ := hcut
    have HR1 := Lib.hid (HR0.out.grow HG.out)
    have hW0 : w.heap.size < W0.heap.size := HR0.out.1.lt
    have hWc := HG.out.size
    clear HG HX0
    go_wp2_with fail
    refine (new_fresh ao co zs0 _ hz17 HB.out.rd).mono ?_
    rintro e w1 ⟨⟨b, rfl, hf⟩, g1⟩
    have HN1 := Lib.hid hf
    have HB1 := Lib.hid (HB.out.grow g1)
    have hr1 := HR1.out.grow g1
    have HR2 := Lib.hid hr1
    have hbl := hf.lt
    have hbc : wc.heap.size ≤ b := hf.1
    clear g1 hf
    by_cases hA : 300 < zs0.length
    · go_wp2_with fail
      refine (dalive_any _).mono ?_
      rintro e w2 ⟨rfl, g2⟩
      have HR3 := Lib.hid (HR2.out.grow g2)
      have r0 := HR3.out.at.1
      have rf := HR3.out.at.2
      clear g2
      go_wp2
      have z := (HR3.out.1.set (.bool true)).cell
      refine ⟨.bool true, by simp [results, Try.results7, go_sem, z], rfl, ?_⟩
      exact HR3.out.2.setCell (p := ⟨w.heap.size, 0, none⟩) (Nat.le_refl _) _
    · go_wp2_with fail
      go_loopw [36] (fun i wr => ∃ (k : Nat) (ys : List Int), k ≤ zs0.length ∧ i = .int .i64 k ∧ Hid (BufK .u64 45 W0.heap.size wr ao zs0.length co ys) ∧ Hid (Fresh wc.heap.size wr b zs0) ∧ Hid (Res w wr) ∧ Hid (ao = none ∨ ∃ g, ao = some ⟨g, 0, none⟩ ∧ g < wc.heap.size)) (fun i _ => zs0.length - (intOf i).toNat)
      case atStart => exact ⟨0, zs0, Nat.zero_le _, rfl, HB1, HN1, HR2, Lib.hid (by
        cases hao : ao with
        | none => exact .inl rfl
        | some x =>
          right
          have hb := HB.out
          rw [hao] at hb
          rcases hb.2 with ⟨e, _⟩ | ⟨g, c, cur, e, h1, h2, _⟩
          · cases e
          · injection e with e1 e2 e3
            injection e1 with e1
            exact ⟨g, by rw [e1], (Array.getElem?_eq_some_iff.1 h2).1⟩)⟩
      case round =>
        obtain ⟨k, ys, hk, rfl, HB, HN, HR, HA⟩ := hrel
        by_cases hlt : k < zs0.length
        · obtain ⟨g, rfl, hg, hgl, hc, hfz⟩ := HB.out.at hlt
          have hgc : g < wc.heap.size := by
            rcases HA.out with h | ⟨g', e, h⟩
            · cases h
            · injection e with e; injection e with e; rw [e]; exact h
          generalize el ys k = z at *
          have HB' := Lib.hid (HB.out.set k (IntKind.u64.wrap (z + 1)))
          have HN' := Lib.hid (HN.out.set ⟨g, k, none⟩ hgc (.int .u64 (IntKind.u64.wrap (z + 1))))
          have HR' := Lib.hid (HR.out.below ((Below.refl (w.heap.size + 1) _).setCell (p := ⟨g, k, none⟩) (by show w.heap.size + 1 ≤ g; omega) (.int .u64 (IntKind.u64.wrap (z + 1)))))
          go_wp2_with fail
          go_roundw
          case rel => exact ⟨k + 1, _, by omega, by go_num, HB', HN', HR', HA⟩
          case measure => simp [intOf]; omega
        · obtain rfl : k = zs0.length := by omega
          rename World => W1
          have hwl := HN.out.lt
          have hWl : w.heap.size < W1.heap.size := HR.out.1.lt
          have gT : Grew W1 (W1.alloc (.cells #[(.slice a0 zs0.length cap0), .int .i64 0] 28)) := (Grew.refl _).alloc _
          have HS1 := Lib.hid (HN.out.stm.grow gT)
          have HT1 := Lib.hid (Two.new W1 28 (.slice a0 zs0.length cap0) (.int .i64 0))
          have HRt := Lib.hid (HR.out.grow gT)
          clear HB HN HR HA hk hlt gT HB1 HN1 HR2
          go_wp2_with fail
          go_loopw [50] (fun i wr => ∃ k u : Nat, k ≤ zs0.length ∧ u ≤ zs0.length ∧ i = .int .i64 k ∧ Hid (Stm b wr b zs0 u) ∧ Hid (Two wr W1.heap.size 28 (.slice a0 zs0.length cap0) (.int .i64 u)) ∧ Hid (Res w wr)) (fun i _ => zs0.length - (intOf i).toNat)
          case atStart => exact ⟨0, 0, Nat.zero_le _, Nat.zero_le _, rfl, HS1, HT1, HRt⟩
          case round =>
            obtain ⟨k, u, hk, huz, rfl, HS, HT, HR⟩ := hrel
            by_cases hlt : k < zs0.length
            · go_wp2_with fail
              refine (next_any 1099511627776 hz17 hu (by decide) HS.out).mono ?_
              rintro e w2 ⟨rfl, hs2, g2⟩
              have HS2 := Lib.hid hs2
              have ht2 := HT.out.grown g2 (by intro e; injection e with e; omega)
              have HT2 := Lib.hid ht2
              have t0 := ht2.c0
              have t1 := ht2.c1
              have HR2 := Lib.hid (HR.out.below (grownBy_below g2 (B := w.heap.size + 1) (by omega) HR.out.1.lt))
              clear hs2 g2 ht2
              go_wp2_with fail
              refine (rnext_any a0 cap0 u zs0 1099511627776 _ hz17 huz hu (by decide) ((HX.out.below HR2.out.2).mono HR2.out.2.size)).mono ?_
              rintro e w3 ⟨rfl, g3⟩
              have huz' := nxN_le (n := 1099511627776) huz
              generalize outN zs0 u 1099511627776 = x
              generalize okN zs0 u 1099511627776 = ok
              generalize nxN zs0 u 1099511627776 = u' at *
              have HS3 := Lib.hid (HS2.out.grow g3)
              have ht3 := HT2.out.grow g3
              have HT3 := Lib.hid ht3
              have q0 := ht3.c0
              have q1 := ht3.c1
              have qf0 := ht3.f0
              have qf1 := ht3.f1
              have hw3 := ht3.lt
              have HR3 := Lib.hid (HR2.out.grow g3)
              clear ht3 g3 t0 t1
              have gB : Grew ((w3.setCell ⟨W1.heap.size, 0, none⟩ (.slice a0 zs0.length cap0)).setCell ⟨W1.heap.size, 1, none⟩ (.int .i64 u')) (((w3.setCell ⟨W1.heap.size, 0, none⟩ (.slice a0 zs0.length cap0)).setCell ⟨W1.heap.size, 1, none⟩ (.int .i64 u')).alloc (.cells #[(.slice a0 zs0.length cap0), .int .i64 u'] 28)) := (Grew.refl _).alloc _
              have HS4 := Lib.hid ((HS3.out.aside (r := W1.heap.size) (by omega) (by omega) (.slice a0 zs0.length cap0) (.int .i64 u')).grow gB)
              have HT4 := Lib.hid ((HT3.out.both (.slice a0 zs0.length cap0) (.int .i64 u')).grow gB)
              have HR4 := Lib.hid ((HR3.out.below (below_both (Below.refl _ _) (show w.heap.size + 1 ≤ W1.heap.size by omega) (.slice a0 zs0.length cap0) (.int .i64 u'))).grow gB)
              clear gB
              go_wp2_with fail
              go_roundw
              case rel => exact ⟨k + 1, u', by omega, huz', by go_num, HS4, HT4, HR4⟩
              case measure => simp [intOf]; omega
            · obtain rfl : k = zs0.length := by omega
              rename World => W2
              have hW2 := HR.out.1.lt
              clear HS HT hk hlt HS1 HT1 HRt
              go_wp2_with fail
              refine (next_nil 1 _).mono ?_
              rintro e w3 ⟨rfl, rfl⟩
              go_wp2_with fail
              refine (many_nil0 _).mono ?_
              rintro e w3 ⟨rfl, rfl⟩
              go_wp2_with fail
              refine (wpIn_wide (n := 5)).1 (range_method (F := Fence.wide) (n := 5) rfl (by omega) (gf := 17) (rc := .pointer none) rfl trivial (enters_of Try.func17 (by kernel_rfl) rfl) (n₀ := 0) (Nat.zero_le _) (all_nil_yields Fence.wide 4 trivial rfl (drawAt zs0 0) 0 _) (fun _ => rfl)
                (fun _ W => Res w W) (fun _ _ => False) ?hI (fun _ _ _ h _ => h.elim) HR.out ?round ?done (fun _ _ _ _ h _ => h.elim))
              case hI => exact fun k W W' h g => h.below (g.mono hW2)
              case round => exact fun l k V _ hk => absurd hk (Nat.not_lt_zero _)
              case done =>
                rintro D V hD hr hK
                have HRv := Lib.hid hr
                have hDl : w.heap.size < D := Nat.lt_of_lt_of_le hW2 hD
                clear hr
                go_wp2_with fail
                refine (dalive_any _).mono ?_
                rintro e w4 ⟨rfl, g4⟩
                have HR4 := Lib.hid (HRv.out.grow g4)
                have HK4 : Hid (w4.heap[D]? = some (.deferred (some []))) := Lib.hid ((Below.block g4 D (Array.getElem?_eq_some_iff.1 hK).1).trans hK)
                clear g4 hK
                go_wp2_with fail
                refine (left_nil _).mono ?_
                rintro e w5 ⟨rfl, rfl⟩
                go_wp2_with fail
                refine (used_nil _).mono ?_
                rintro e w5 ⟨rfl, rfl⟩
                go_wp2_with fail
                refine (sclone_nil _).mono ?_
                rintro e w5 ⟨rfl, rfl⟩
                have r0 := HR4.out.at.1
                have rf := HR4.out.at.2
                go_wp2
                have hK6 : (w4.setCell ⟨w.heap.size, 0, none⟩ (.bool true)).heap[D]? = some (.deferred (some [])) := (heap_setCell_other w4 ⟨w.heap.size, 0, none⟩ D _ (by show D ≠ w.heap.size; omega)).trans HK4.out
                have z1 : Boxed ((w4.setCell ⟨w.heap.size, 0, none⟩ (.bool true)).putObj D (.deferred none)) w.heap.size 4 (.bool true) := (World.putObj_heap_other (by omega)).trans (HR4.out.1.set (.bool true))
                have z := z1.cell
                refine ⟨by simp, .inl ⟨_, _, rfl, run_takeDeferred hK6, ?_⟩⟩
                refine ⟨.bool true, by simp [results, Try.results7, go_sem, z], rfl, ?_⟩
                exact (HR4.out.2.setCell (p := ⟨w.heap.size, 0, none⟩) (Nat.le_refl _) _).trans (below_put (Nat.le_of_lt hDl) hK6)

set_option maxRecDepth 100000 in
theorem lifted (os : Os) (started : os.Started) (H : Type) (enc : TypeId × Value → H) :
    ReturnsInHanded {} Try.checked os 7 .any (Rows.drawKeepsSpec.pre6 enc Try.prog Try.f7 Rows.drawKeepsRow.domain false) (Rows.drawKeepsSpec.post enc Try.prog Try.f7 false true false false) := by
  refine returnsInHanded_of_change_sized (C := Try.checked) own started (by kernel_rfl) Try.func7
    (ChangeSpec.witness6 (enc := enc) (C := Try.checked) false ⟨#[], #[.slice none 0 0], []⟩ 8 (by kernel_rfl) (by kernel_rfl) (by kernel_rfl) (by kernel_rfl)) ?_
  intro W base args ds gs before hval0 hW hcnd hsz0 _
  have hsz : (DataW.weightsEach Try.prog (Try.f7.params.toList ++ Rows.drawKeepsSpec.plain.varTypes Try.prog) (ds ++ gs)).all (· ≤ reachBytes) = true := hsz0
  have hval : ∀ (j : Nat) t v, Try.f7.params[j]? = some t → args[j]? = some v → Value.okWide Try.prog W .any base t v := hval0
  have hW' := hW
  obtain ⟨p, q, hA0, hV, rfl, hfz, hnd⟩ := hW
  have hA : DataW.TrodAll enc Try.prog W 0 (fun _ => true) true Try.f7.params.toList args.toList ds p := hA0
  rw [Try.params7] at hA hval hsz
  obtain ⟨v0, vs0, d0, ds0, p0, q0, hargs, rfl, rfl, h0, r0⟩ := trodAll_cons hA
  obtain ⟨rfl, rfl, rfl⟩ := trodAll_nil r0
  obtain rfl : args = #[v0] := by cases args; simp_all
  obtain ⟨rfl, rfl⟩ := trodVars_none hV
  have k0 := h0
  have lt0 : ∀ x ∈ p0, x.block < W.heap.size := by obtain ⟨m, hm⟩ := k0; exact DataW.trod_lt m _ _ _ hm
  obtain ⟨a0, len0, cap0, rfl⟩ := okWide_slice Try.underlying22 (hval 0 22 v0 rfl rfl)
  obtain ⟨zs0, w0⟩ : ∃ us, CameK .u64 W a0 len0 cap0 us := by
    obtain ⟨fuel, hf⟩ := h0
    rcases open_ints Try.underlying22 Try.underlying45 (by kernel_rfl) hf with ⟨hcs, _⟩ | ⟨x, l, c, zs, hcs, _, hl, hm, hz, hx, hcell, hwz⟩
    · simp [Value.cells] at hcs
      obtain ⟨rfl, rfl, rfl⟩ := hcs
      exact ⟨[], cameK_none _ W⟩
    · simp [Value.cells] at hcs
      obtain ⟨rfl, rfl, rfl⟩ := hcs
      simp only [if_true] at hz
      have hd := congrArg Prod.fst hx
      have hreach : cap0 * 8 ≤ 140737488351232 := by
        have hs := sized_slice hsz (j := 0) (t := 22) (e := 45) rfl (congrArg some hd) Try.underlying22
        rw [show Try.prog.bytesOf 45 = 8 from by kernel_rfl] at hs
        simp only [lits, List.length_map, List.length_take, List.length_drop, reachBytes] at hs
        omega
      exact ⟨_, cameK_some hl hreach hz hcell hwz⟩
  clear hA0 hval0 hsz hsz0
  refine (walk a0 len0 cap0 zs0 W w0).mono fun e W' ⟨he, bel⟩ => ?_
  subst he
  exact ⟨_, rfl, _, _, _, [], _, [], hW', trodAll_mk1 (shut_bool Try.underlying4 _), (trodAll_cons_mk (Below.trod laidOut (by kernel_rfl) (of_decide_eq_true (by kernel_rfl)) k0 bel lt0) trodAll_mk0), rfl, bel.frame _, fun h => by cases h⟩

theorem over : Rows.drawKeepsRow.holds Try.pinned (OpenSpec.ofChange Rows.drawKeepsSpec) :=
  OpenClaim.holds_of_wide 7 Try.f7 rfl rfl rfl rfl rfl rfl rfl ⟨rfl, rfl, rfl, rfl, rfl⟩ rfl rfl rfl rfl rfl (by kernel_rfl) Try.func7 (by kernel_rfl)
    (of_decide_eq_true (by kernel_rfl)) (by unfold Func.isWrapper; first | (rw [if_pos (by decide +kernel)]; kernel_rfl) | (rw [if_neg (by decide +kernel)]; exact ⟨rfl, rfl⟩))
    (fun os started H enc _ => lifted os started H enc)

theorem proved : Rows.DrawKeepsSaid := over
end Go.Proofs.Ytfgkpbmjdgfdmaa.drawKeeps
