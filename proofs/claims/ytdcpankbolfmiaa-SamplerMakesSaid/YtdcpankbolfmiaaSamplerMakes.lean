/-
  For all runs and steps, New returns the code of the reference, and the sampler has the batches of the reference, whatever becomes of the draws that were passed. No condition.
-/
import Derived.Test.YtdcpankbolfmiaaRows
import Derived.Test.YtdcpankbolfmiaaQl
import Derived.Lib.SmallJoins
import Derived.Laws.AppendOwnNone
import Derived.Deep.DeepCutAuto
import Derived.WalkKit
import Derived.ProofKit
import Derived.OpenShut
import Derived.ShutString
import Derived.ChangeOld
import Derived.Below
namespace Go.Proofs.Ytdcpankbolfmiaa.samplerMakes
open Go.ChangeShapes Go.WideShapes Go.ChangeAt Go.RowKit
open Go.Proofs.Ytdcpankbolfmiaa
set_option linter.unusedVariables false

theorem own : ownKnob Try.prog.godebug = none := by kernel_rfl
theorem laidOut : laidOutB Try.prog = true := by kernel_rfl

theorem info_u6412 : (Try.prog.info? 36).map (fun i => (i.zero, i.size, i.bytes)) = some (some (.int .u64 0), 1, 8) := by kernel_rfl

set_option maxRecDepth 100000 in
set_option maxHeartbeats 4000000 in
theorem walk (N0 B0 S0 : Int) (a0 : Option Addr) (len0 cap0 : Nat) (zs0 : List Int) (a1 : Int) (w : World) (w0 : CameRun w N0 B0 S0 a0 len0 cap0 zs0) (w1 : (Lit.int .i64 a1).wf = true) :
    Calls Try.prog 3 #[.agg #[.int .i64 N0, .int .i64 B0, .int .i64 S0, .slice a0 len0 cap0], .int .i64 a1] w fun e w' => e = .returned (.bool true) ∧ Below w.heap.size w w' := by
  obtain ⟨hz, hlc, hcm, hr, hnn, hu⟩ := w0
  have HX := Lib.hid hr
  have HU := Lib.hid hu
  clear hr hu
  by_cases hf : fewB N0 S0 len0 = true
  · have h60 : N0 ≤ 60 ∧ S0 ≤ 60 ∧ len0 ≤ 4000 := by unfold fewB at hf; simpa [and_assoc] using hf
    by_cases hok : ∃ n sz st, Ok12 N0 B0 S0 len0 n sz st
    · obtain ⟨n, sz, st, rfl, rfl, rfl, hS, hm⟩ := hok
      have HF0 := Lib.hid (Four.new w 24 (.int .i64 (n : Int)) (.int .i64 (sz : Int)) (.int .i64 (st : Int)) (.slice a0 len0 cap0))
      have HG0 := Lib.hid ((Grew.refl w).alloc (.cells #[.int .i64 (n : Int), .int .i64 (sz : Int), .int .i64 (st : Int), .slice a0 len0 cap0] 24))
      skip
      go_enter Try.func3, Try.ntmps3
      go_wp2_with fail
      refine (few_any (n : Int) (sz : Int) (st : Int) a0 len0 cap0 _).mono ?_
      rintro e w1 ⟨rfl, g1⟩
      rw [hf]
      have HF1 := Lib.hid (HF0.out.grow g1)
      have HG1 := Lib.hid (HG0.out.trans g1)
      clear g1
      have X0 := HF1.out.c0
      have X1 := HF1.out.c1
      have X2 := HF1.out.c2
      have X3 := HF1.out.c3
      have hlX := HF1.out.lt
      have HX1 := Lib.hid (HX.out.grow HG1.out)
      have HO := Lib.hid (World.ownsRow_made w1 (e := 36) (base := w1.heap.size) #[] 0 (Nat.le_refl _) (Nat.zero_le _) (by simp) : (w1.alloc (.cells #[] 36)).ownsRow w1.heap.size 36 1 (.slice (some ⟨w1.heap.size, 0, none⟩) 0 0) 0 [])
      have HGL := Lib.hid (show Grew w1 (w1.alloc (.cells #[] 36)) from (Grew.refl w1).alloc _)
      have HLt := Lib.hid (show w1.heap.size < (w1.alloc (.cells #[] 36)).heap.size from by simp)
      obtain ⟨i0, hi, hz0, hz1, hz2⟩ := info_parts info_u6412
      go_upto_region 3 with fail
      go_cut [5] (fun v wx => ∃ ao co, v = .slice ao len0 co ∧ Hid (BufK .u64 36 w1.heap.size wx ao len0 co zs0) ∧ Hid (Grew w1 wx) ∧ Hid (w1.heap.size < wx.heap.size))
      case first =>
        cases a0 with
        | none =>
          obtain rfl := hnn rfl
          obtain rfl : len0 = 0 := by omega
          obtain rfl : zs0 = [] := List.eq_nil_of_length_eq_zero hz
          go_wp2_with (at_builtin; refine wpList_append_own_none rfl _ _ 22 rfl w1.heap.size 36 i0 1 Try.underlying22 hi _ _ _ rfl HO.out rfl ?_)
          go_wp2_with fail
          go_meet
          exact ⟨_, _, rfl, HO, HGL, HLt⟩
        | some x =>
          have HNw : Hid (∀ (j : Nat) (u : Value), (zs0.map (Value.int .u64))[j]? = some u → (w1.alloc (.cells #[] 36)).cell? (x.add j) = some u) := Lib.hid (by
            intro j u hj
            have hlt : j < zs0.length := by
              rcases Nat.lt_or_ge j zs0.length with h' | h'
              · exact h'
              · rw [List.getElem?_eq_none (by simpa using h')] at hj; cases hj
            obtain ⟨b, off, e, hb, hc⟩ := (HX1.out.grow HGL.out).at hlt
            injection e with e
            subst e
            rw [List.getElem?_map, el_lt hlt] at hj
            rw [Addr.add_lit, hc]
            exact hj)
          go_wp2_with (at_builtin; refine wpList_append_own _ rfl _ _ 22 rfl w1.heap.size 36 i0 (.int .u64 0) 1 8 Try.underlying22 hi hz0 hz1 hz2 rfl (by decide) _ _ _ rfl HO.out x len0 cap0 (zs0.map (Value.int .u64)) rfl ?qc1 ?qc2 ?qc3 ?qc4 ?qc5 ?qc6 ?_)
          case qc1 => rw [List.length_map, hz]; simp
          case qc2 => exact HNw.out
          case qc3 => intro u hu; obtain ⟨z, _, rfl⟩ := List.mem_map.1 hu; rfl
          case qc4 => unfold maxLen; omega
          case qc5 => omega
          case qc6 => simp
          intro v' w2 hown hgrow hnil
          have HG2 : Hid (Grew w1 w2) := Lib.hid (Below.grown HGL.out hgrow (by simp) (by intro k hk; simp [Value.ownBlock] at hk; omega))
          have HL2 := Lib.hid (Nat.lt_of_lt_of_le HLt.out hgrow.size)
          obtain ⟨a', c', rfl, hb⟩ := own_ints (n := len0) (zs := zs0) (q := .u64) hown
          have HB := Lib.hid hb
          clear hown hgrow hnil hb
          go_wp2_with fail
          go_meet
          exact ⟨_, _, rfl, HB, HG2, HL2⟩
      case rest =>
        obtain ⟨ao, co, rfl, HBo, HGo, HLo⟩ := hcut
        rename World => W2
        have HF2 := Lib.hid (HF1.out.grow HGo.out)
        have HG2 := Lib.hid (HG1.out.trans HGo.out)
        have hW1 := HG1.out.size
        obtain ⟨g, hg1, hg2, hga⟩ : ∃ g, w1.heap.size ≤ g ∧ g < W2.heap.size ∧ (0 < len0 → ao = some ⟨g, 0, none⟩) := by
          rcases Nat.eq_zero_or_pos len0 with h0 | h0
          · exact ⟨w1.heap.size, Nat.le_refl _, HLo.out, fun h => by omega⟩
          · obtain ⟨g, e, h1, h2, _⟩ := HBo.out.at h0
            exact ⟨g, h1, h2, fun _ => e⟩
        clear X0 X1 X2 X3
        have X0 := HF2.out.c0
        have X1 := HF2.out.c1
        have X2 := HF2.out.c2
        have X3 := HF2.out.c3
        have hlX2 := HF2.out.lt
        have hfit := HBo.out.fits
        have hco : co ≤ 9223372036854775807 := by have := hfit.2; unfold maxLen at this; omega
        have HXr := Lib.hid (HX.out.grow HG2.out)
        go_wp2_with fail
        refine (new_yes ao len0 co zs0 W2 hz hS hm h60.2.2 hfit.1 hco HU.out HBo.out.rd).mono ?_
        rintro e w3 ⟨⟨b, rfl, hs⟩, g3⟩
        have HS3 := Lib.hid hs
        have HF3 := Lib.hid (HF2.out.grow g3)
        have HG3 := Lib.hid (HG2.out.trans g3)
        have HB3 := Lib.hid (HBo.out.grow g3)
        have HX3 := Lib.hid (HXr.out.grow g3)
        have HW3 := Lib.hid g3.size
        clear hs g3 X0 X1 X2 X3 hlX2
        have X0 := HF3.out.c0
        have X1 := HF3.out.c1
        have X2 := HF3.out.c2
        have X3 := HF3.out.c3
        have hlX2 := HF3.out.lt
        go_wp2_with fail
        refine (rnew_yes a0 len0 cap0 zs0 w3 hz hS hm h60.2.2 HU.out HX3.out).mono ?_
        rintro e w4 ⟨⟨oa, oc, rfl, ho⟩, g4⟩
        have HSU := Lib.hid ((HS3.out.grow g4).grow ((Grew.refl w4).alloc (.cells #[.int .i64 n, .int .i64 sz, .int .i64 st, .slice oa (epoN st (n / sz)) oc] 33)))
        have HOU := Lib.hid ((ho.mono HW3.out).grow ((Grew.refl w4).alloc (.cells #[.int .i64 n, .int .i64 sz, .int .i64 st, .slice oa (epoN st (n / sz)) oc] 33)))
        have HWU := Lib.hid (Four.new w4 33 (.int .i64 n) (.int .i64 sz) (.int .i64 st) (.slice oa (epoN st (n / sz)) oc))
        have HXU := Lib.hid ((HF3.out.grow g4).alloc (.cells #[.int .i64 n, .int .i64 sz, .int .i64 st, .slice oa (epoN st (n / sz)) oc] 33))
        have HG4 := Lib.hid ((HG3.out.trans g4).alloc (.cells #[.int .i64 n, .int .i64 sz, .int .i64 st, .slice oa (epoN st (n / sz)) oc] 33))
        have HB4 := Lib.hid (HB3.out.grow (g4.alloc (.cells #[.int .i64 n, .int .i64 sz, .int .i64 st, .slice oa (epoN st (n / sz)) oc] 33)))
        have HWb := Lib.hid (Nat.le_trans HW3.out g4.size)
        clear ho g4 X0 X1 X2 X3 hlX2 hfit hm
        go_wp2_with fail
        generalize w4.alloc (.cells #[.int .i64 n, .int .i64 sz, .int .i64 st, .slice oa (epoN st (n / sz)) oc] 33) = U at *
        generalize w4.heap.size = wb at *
        go_wp2
        go_loopw [45] (fun x wr => ∃ j : Nat, j ≤ len0 ∧ x = .int .i64 j ∧ (∃ zs' : List Int, Hid (BufK .u64 36 w1.heap.size wr ao len0 co zs')) ∧ Hid (U.grownBy wr (some g))) (fun x _ => len0 - (intOf x).toNat)
        case atStart => exact ⟨0, Nat.zero_le _, rfl, ⟨_, HB4⟩, Lib.hid (Grew.by' (Grew.refl U) _)⟩
        case round =>
          obtain ⟨j, hj, rfl, ⟨zs', HB⟩, HG⟩ := hrel
          by_cases hlt : j < len0
          · obtain rfl := hga (by omega)
            obtain ⟨g', e1, _, hgl, cz, fz⟩ := HB.out.at hlt
            obtain rfl : g' = g := by injection e1 with e1; injection e1 with e1; exact e1.symm
            clear e1
            have HBn := Lib.hid (fun v => HB.out.set j v)
            have HGn := Lib.hid (fun (v : Value) => grownBy_trans HG.out (grownBy_setCell1 wr ⟨g', j, none⟩ v))
            generalize el zs' j = z at *
            go_wp2
            go_roundw
            case rel => exact ⟨j + 1, by omega, by go_num, ⟨_, Lib.hid (HBn.out _)⟩, Lib.hid (HGn.out _)⟩
            case measure => simp [intOf]; omega
          · obtain rfl : j = len0 := by omega
            have HGw := Lib.hid (HG4.out.trans_below (grownBy_below HG.out (show w.heap.size ≤ g by omega) HG4.out.size) (Nat.le_refl _))
            rename World => V
            have HSV := Lib.hid (HSU.out.aside HG.out hg2)
            have HOV := Lib.hid (HOU.out.aside HG.out hg2)
            have HWV := Lib.hid (HWU.out.grown HG.out (by intro e; injection e with e; have := HWb.out; omega))
            have HXV := Lib.hid (HXU.out.grown HG.out (by intro e; injection e with e; omega))
            have HBt := Lib.hid (fun (t : Int) (W : World) (g : Grew V W) => batch_any t (HSV.out.grow g))
            have HRt := Lib.hid (fun (t : Int) (W : World) (g : Grew V W) => rbatch_any t hS (HOV.out.grow g))
            have HStp := Lib.hid (fun (W : World) (g : Grew V W) => steps_any (HSV.out.grow g))
            have HLe := Lib.hid (fun (t : Int) => batL_le n sz st zs0 t)
            have hst := hS.2.2.2
            have hn60 := hS.2.2.1
            generalize epoN st (n / sz) = E at *
            have X0 := HXV.out.c0
            have X1 := HXV.out.c1
            have X2 := HXV.out.c2
            have X3 := HXV.out.c3
            have hlX2 := HXV.out.lt
            go_wp2_with fail
            clear X0 X1 X2 X3
            go_loopw [67] (fun x wr => ∃ k : Nat, k ≤ st ∧ x = .int .i64 k ∧ Hid (Grew V wr)) (fun x _ => st - (intOf x).toNat)
            case atStart => exact ⟨0, Nat.zero_le _, rfl, Lib.hid (Grew.refl _)⟩
            case round =>
              obtain ⟨k, hk, rfl, HGk⟩ := hrel
              by_cases hlt2 : k < st
              · have hle := HLe.out k
                have HWk := Lib.hid (HWV.out.grow HGk.out)
                have W0 := HWk.out.c0
                have W1 := HWk.out.c1
                have W2 := HWk.out.c2
                have W3 := HWk.out.c3
                have hlW := HWk.out.lt
                rename World => Wk
                go_wp2_with fail
                refine wp_region_held_drew (S := (fun W' => Grew Wk W' ∧ W'.cell? ⟨wb, 0, none⟩ = some (.int .i64 n) ∧ W'.cell? ⟨wb, 1, none⟩ = some (.int .i64 sz) ∧ W'.cell? ⟨wb, 2, none⟩ = some (.int .i64 st) ∧ W'.cell? ⟨wb, 3, none⟩ = some (.slice oa E oc))) (by kernel_rfl) ⟨Grew.drew' (Grew.refl _), W0, W1, W2, W3⟩ (fun hHeld => ?_)
                refine wpAnyH_take (i := 0) (oi := { dst := some 70, op := Go.Op.move (Go.Operand.tmp 6), type := 27, pos := _, after := #[], guard := none }) (v := ?v1) rfl (by kernel_rfl) (by kernel_rfl) (by kernel_rfl) (fun _ _ _ h => h) (Or.inl ⟨by kernel_rfl, ?hy1⟩) (by assumption) ?_
                case hy1 => intro w hSw; (try dsimp only at hSw); first | (go_simp; done) | (go_simp; with_reducible rfl)
                (try simp only [Act.put, List.setIfInBounds_toArray, List.set_cons_zero, List.set_cons_succ])
                refine wpAnyH_take (i := 1) (oi := { dst := some 71, op := Go.Op.move (Go.Operand.tmp 11), type := 3, pos := _, after := #[], guard := none }) (v := ?v2) rfl (by kernel_rfl) (by kernel_rfl) (by kernel_rfl) (fun _ _ _ h => h) (Or.inl ⟨by kernel_rfl, ?hy2⟩) (by assumption) ?_
                case hy2 => intro w hSw; (try dsimp only at hSw); first | (go_simp; done) | (go_simp; with_reducible rfl)
                (try simp only [Act.put, List.setIfInBounds_toArray, List.set_cons_zero, List.set_cons_succ])
                refine wpAnyH_take (i := 3) (oi := { dst := some 73, op := Go.Op.load 33 (Go.Operand.tmp 8), type := 33, pos := _, after := #[], guard := none }) (v := ?v3) rfl (by kernel_rfl) (by kernel_rfl) (by kernel_rfl) (fun _ _ _ h => h) (Or.inl ⟨by kernel_rfl, ?hy3⟩) (by assumption) ?_
                case hy3 => intro w hSw; (try dsimp only at hSw); first | (go_simp; done) | (go_simp; with_reducible rfl)
                (try simp only [Act.put, List.setIfInBounds_toArray, List.set_cons_zero, List.set_cons_succ])
                refine wpAnyH_take (i := 4) (oi := { dst := some 74, op := Go.Op.move (Go.Operand.tmp 11), type := 3, pos := _, after := #[], guard := none }) (v := ?v4) rfl (by kernel_rfl) (by kernel_rfl) (by kernel_rfl) (fun _ _ _ h => h) (Or.inl ⟨by kernel_rfl, ?hy4⟩) (by assumption) ?_
                case hy4 => intro w hSw; (try dsimp only at hSw); first | (go_simp; done) | (go_simp; with_reducible rfl)
                (try simp only [Act.put, List.setIfInBounds_toArray, List.set_cons_zero, List.set_cons_succ])
                refine wpAnyH_ready (rs := [2]) (by kernel_rfl) (by simp) ?_
                refine AllReadyH.cons (o := { dst := some 72, op := Go.Op.call { callee := Go.Callee.value (Go.Operand.func 11), args := #[Go.Operand.tmp 70, Go.Operand.tmp 71], argTypes := #[27, 3] }, type := 38, pos := _, after := #[{ on := 0, ground := Go.Ground.data }, { on := 1, ground := Go.Ground.data }], guard := none }) rfl (fun K hK => ?_) AllReadyH.nil
                go_simp
                (go_at_call 11; refine (HBt.out (k : Int) _ (Grew.drew' HGk.out)).mono ?_; rintro e w5 ⟨⟨a5, c5, rfl, hr5⟩, g5⟩; have HR5 := Lib.hid hr5; have HG5 := Lib.hid ((Grew.drew' HGk.out).trans g5); clear hr5)
                (try go_wp2_with fail)
                refine hK.out _ _ ?hS6 (fun hHeld => ?_)
                case hS6 => (try dsimp only); exact keep_w4 g5 (by assumption)
                clear hK K
                (try simp only [Act.put, List.setIfInBounds_toArray, List.set_cons_zero, List.set_cons_succ])
                refine wpAnyH_ready (rs := [5]) (by kernel_rfl) (by simp) ?_
                refine AllReadyH.cons (o := { dst := some 75, op := Go.Op.call { callee := Go.Callee.value (Go.Operand.func 12), args := #[Go.Operand.tmp 73, Go.Operand.tmp 74], argTypes := #[33, 3] }, type := 38, pos := _, after := #[{ on := 3, ground := Go.Ground.data }, { on := 4, ground := Go.Ground.data }, { on := 2, ground := Go.Ground.chain }], guard := none }) rfl (fun K hK => ?_) AllReadyH.nil
                go_simp
                (go_at_call 12; refine (HRt.out (k : Int) _ HG5.out).mono ?_; rintro e w6 ⟨⟨a6, c6, rfl, _, _, hr6⟩, g6⟩; have HR6 := Lib.hid hr6; have HR56 := Lib.hid (HR5.out.grow g6); have HG6 := Lib.hid (HG5.out.trans g6); clear hr6)
                (try go_wp2_with fail)
                refine hK.out _ _ ?hS8 (fun hHeld => ?_)
                case hS8 => (try dsimp only); exact keep_w4 g6 (by assumption)
                clear hK K
                (try simp only [Act.put, List.setIfInBounds_toArray, List.set_cons_zero, List.set_cons_succ])
                refine wpAnyH_ready (rs := [6]) (by kernel_rfl) (by simp) ?_
                refine AllReadyH.cons (o := { dst := some 76, op := Go.Op.call { callee := Go.Callee.value (Go.Operand.func 10), args := #[Go.Operand.tmp 72, Go.Operand.tmp 75], argTypes := #[38, 38] }, type := 4, pos := _, after := #[{ on := 2, ground := Go.Ground.data }, { on := 5, ground := Go.Ground.data }, { on := 5, ground := Go.Ground.chain }], guard := none }) rfl (fun K hK => ?_) AllReadyH.nil
                go_simp
                (go_at_call 10; refine (iequal_n a5 a6 c5 c6 _ _ _ rfl rfl (by omega) (by omega) HR56.out HR6.out).mono ?_; rintro e w7 ⟨rfl, g7⟩; rw [decide_eq_true rfl]; have HG7 := Lib.hid (HG6.out.trans g7))
                (try go_wp2_with fail)
                refine hK.out _ _ ?hS10 (fun hHeld => ?_)
                case hS10 => (try dsimp only); exact keep_w4 g7 (by assumption)
                clear hK K
                (try simp only [Act.put, List.setIfInBounds_toArray, List.set_cons_zero, List.set_cons_succ])
                refine wpAnyH_take (i := 7) (oi := { dst := some 77, op := Go.Op.unOp Go.UnOp.not 4 (Go.Operand.tmp 76), type := 4, pos := _, after := #[{ on := 6, ground := Go.Ground.data }], guard := none }) (v := ?v11) rfl (by kernel_rfl) (by kernel_rfl) (by kernel_rfl) (fun _ _ _ h => h) (Or.inl ⟨by kernel_rfl, ?hy11⟩) (by assumption) ?_
                case hy11 => intro w hSw; (try dsimp only at hSw); first | (go_simp; done) | (go_simp; with_reducible rfl)
                (try simp only [Act.put, List.setIfInBounds_toArray, List.set_cons_zero, List.set_cons_succ])
                refine wpAnyH_done (by kernel_rfl) ?_ _
                go_wp2
                go_roundw
                case rel => exact ⟨k + 1, by omega, by go_num, HG7⟩
                case measure => simp [intOf]; omega
              · obtain rfl : st = k := by omega
                rename World => Wk
                have HXk := Lib.hid (HXV.out.grow HGk.out)
                have HWk := Lib.hid (HWV.out.grow HGk.out)
                have HG10 := Lib.hid (HGw.out.trans HGk.out)
                have X0 := HXk.out.c0
                have X1 := HXk.out.c1
                have X2 := HXk.out.c2
                have X3 := HXk.out.c3
                have hlX3 := HXk.out.lt
                have W0 := HWk.out.c0
                have W1 := HWk.out.c1
                have W2 := HWk.out.c2
                have W3 := HWk.out.c3
                have hlW := HWk.out.lt
                have hle := HLe.out a1
                have hss : ((st : Int) == (st : Int)) = true := by simp
                go_wp2_with fail
                refine wp_region_held_drew (S := (fun W' => Grew Wk W' ∧ W'.cell? ⟨w.heap.size, 2, none⟩ = some (.int .i64 st) ∧ W'.cell? ⟨wb, 0, none⟩ = some (.int .i64 n) ∧ W'.cell? ⟨wb, 1, none⟩ = some (.int .i64 sz) ∧ W'.cell? ⟨wb, 2, none⟩ = some (.int .i64 st) ∧ W'.cell? ⟨wb, 3, none⟩ = some (.slice oa E oc))) (by kernel_rfl) ⟨Grew.drew' (Grew.refl _), X2, W0, W1, W2, W3⟩ (fun hHeld => ?_)
                refine wpAnyH_ready (rs := [0]) (by kernel_rfl) (by simp) ?_
                refine AllReadyH.cons (o := { dst := some 79, op := Go.Op.call { callee := Go.Callee.value (Go.Operand.func 7), args := #[], argTypes := #[] }, type := 4, pos := _, after := #[], guard := none }) rfl (fun K hK => ?_) AllReadyH.nil
                go_simp
                (go_at_call 7; refine (salive_any _).mono ?_; rintro e w9 ⟨rfl, g9⟩; have HG9 := Lib.hid ((Grew.drew' HGk.out).trans g9))
                (try go_wp2_with fail)
                refine hK.out _ _ ?hS13 (fun hHeld => ?_)
                case hS13 => (try dsimp only); exact keep_w5 g9 (by assumption)
                clear hK K
                (try simp only [Act.put, List.setIfInBounds_toArray, List.set_cons_zero, List.set_cons_succ])
                refine wpAnyH_take (i := 1) (oi := { dst := some 80, op := Go.Op.move (Go.Operand.tmp 79), type := 4, pos := _, after := #[{ on := 0, ground := Go.Ground.data }, { on := 0, ground := Go.Ground.chain }], guard := none }) (v := ?v14) rfl (by kernel_rfl) (by kernel_rfl) (by kernel_rfl) (fun _ _ _ h => h) (Or.inl ⟨by kernel_rfl, ?hy14⟩) (by assumption) ?_
                case hy14 => intro w hSw; (try dsimp only at hSw); first | (go_simp; done) | (go_simp; with_reducible rfl)
                (try simp only [Act.put, List.setIfInBounds_toArray, List.set_cons_zero, List.set_cons_succ])
                refine wpAnyH_take (i := 2) (oi := { dst := some 81, op := Go.Op.move (Go.Operand.tmp 6), type := 27, pos := _, after := #[{ on := 1, ground := Go.Ground.guard }], guard := some (1, true) }) (v := ?v15) rfl (by kernel_rfl) (by kernel_rfl) (by kernel_rfl) (fun _ _ _ h => h) (Or.inl ⟨by kernel_rfl, ?hy15⟩) (by assumption) ?_
                case hy15 => intro w hSw; (try dsimp only at hSw); first | (go_simp; done) | (go_simp; with_reducible rfl)
                (try simp only [Act.put, List.setIfInBounds_toArray, List.set_cons_zero, List.set_cons_succ])
                refine wpAnyH_take (i := 4) (oi := { dst := some 83, op := Go.Op.fieldAddr 24 (Go.Operand.tmp 2) 2, type := 0, pos := _, after := #[{ on := 1, ground := Go.Ground.guard }], guard := some (1, true) }) (v := ?v16) rfl (by kernel_rfl) (by kernel_rfl) (by kernel_rfl) (fun _ _ _ h => h) (Or.inl ⟨by kernel_rfl, ?hy16⟩) (by assumption) ?_
                case hy16 => intro w hSw; (try dsimp only at hSw); first | (go_simp; done) | (go_simp; with_reducible rfl)
                (try simp only [Act.put, List.setIfInBounds_toArray, List.set_cons_zero, List.set_cons_succ])
                refine wpAnyH_take (i := 5) (oi := { dst := some 84, op := Go.Op.load 3 (Go.Operand.tmp 83), type := 3, pos := _, after := #[{ on := 4, ground := Go.Ground.data }, { on := 1, ground := Go.Ground.guard }], guard := some (1, true) }) (v := ?v17) rfl (by kernel_rfl) (by kernel_rfl) (by kernel_rfl) (fun _ _ _ h => h) (Or.inl ⟨by kernel_rfl, ?hy17⟩) (by assumption) ?_
                case hy17 => intro w hSw; (try dsimp only at hSw); first | (go_simp; done) | (go_simp; with_reducible rfl)
                (try simp only [Act.put, List.setIfInBounds_toArray, List.set_cons_zero, List.set_cons_succ])
                refine wpAnyH_ready (rs := [3]) (by kernel_rfl) (by simp) ?_
                refine AllReadyH.cons (o := { dst := some 82, op := Go.Op.call { callee := Go.Callee.value (Go.Operand.func 13), args := #[Go.Operand.tmp 81], argTypes := #[27] }, type := 3, pos := _, after := #[{ on := 2, ground := Go.Ground.data }, { on := 1, ground := Go.Ground.chain }, { on := 1, ground := Go.Ground.guard }], guard := some (1, true) }) rfl (fun K hK => ?_) AllReadyH.nil
                go_simp
                (go_at_call 13; refine (HStp.out _ HG9.out).mono ?_; rintro e w10 ⟨rfl, rfl⟩)
                (try go_wp2_with fail)
                refine hK.out _ _ ?hS19 (fun hHeld => ?_)
                case hS19 => (try dsimp only); assumption
                clear hK K
                (try simp only [Act.put, List.setIfInBounds_toArray, List.set_cons_zero, List.set_cons_succ])
                refine wpAnyH_take (i := 6) (oi := { dst := some 85, op := Go.Op.binOp Go.BinOp.eql 3 (Go.Operand.tmp 82) (Go.Operand.tmp 84) 3, type := 4, pos := _, after := #[{ on := 3, ground := Go.Ground.data }, { on := 5, ground := Go.Ground.data }, { on := 1, ground := Go.Ground.guard }], guard := some (1, true) }) (v := ?v20) rfl (by kernel_rfl) (by kernel_rfl) (by kernel_rfl) (fun _ _ _ h => h) (Or.inl ⟨by kernel_rfl, ?hy20⟩) (by assumption) ?_
                case hy20 => intro w hSw; (try dsimp only at hSw); first | (go_simp; done) | (go_simp; with_reducible rfl)
                (try simp only [Act.put, List.setIfInBounds_toArray, List.set_cons_zero, List.set_cons_succ])
                refine wpAnyH_take (i := 7) (oi := { dst := some 86, op := Go.Op.pick (Go.Operand.tmp 80) (Go.Operand.tmp 85) (Go.Operand.const (Go.Value.bool false)), type := 4, pos := _, after := #[{ on := 1, ground := Go.Ground.data }, { on := 6, ground := Go.Ground.data }], guard := none }) (v := ?v21) rfl (by kernel_rfl) (by kernel_rfl) (by kernel_rfl) (fun _ _ _ h => h) (Or.inl ⟨by kernel_rfl, ?hy21⟩) (by assumption) ?_
                case hy21 => intro w hSw; (try dsimp only at hSw); first | (go_simp; done) | (go_simp; with_reducible rfl)
                (try simp only [Act.put, List.setIfInBounds_toArray, List.set_cons_zero, List.set_cons_succ])
                refine wpAnyH_take (i := 8) (oi := { dst := some 87, op := Go.Op.move (Go.Operand.tmp 86), type := 4, pos := _, after := #[{ on := 7, ground := Go.Ground.data }, { on := 3, ground := Go.Ground.chain }], guard := none }) (v := ?v22) rfl (by kernel_rfl) (by kernel_rfl) (by kernel_rfl) (fun _ _ _ h => h) (Or.inl ⟨by kernel_rfl, ?hy22⟩) (by assumption) ?_
                case hy22 => intro w hSw; (try dsimp only at hSw); first | (go_simp; done) | (go_simp; with_reducible rfl)
                (try simp only [Act.put, List.setIfInBounds_toArray, List.set_cons_zero, List.set_cons_succ])
                refine wpAnyH_take (i := 9) (oi := { dst := some 88, op := Go.Op.move (Go.Operand.tmp 6), type := 27, pos := _, after := #[{ on := 8, ground := Go.Ground.guard }], guard := some (8, true) }) (v := ?v23) rfl (by kernel_rfl) (by kernel_rfl) (by kernel_rfl) (fun _ _ _ h => h) (Or.inl ⟨by kernel_rfl, ?hy23⟩) (by assumption) ?_
                case hy23 => intro w hSw; (try dsimp only at hSw); first | (go_simp; done) | (go_simp; with_reducible rfl)
                (try simp only [Act.put, List.setIfInBounds_toArray, List.set_cons_zero, List.set_cons_succ])
                refine wpAnyH_take (i := 10) (oi := { dst := some 89, op := Go.Op.move (Go.Operand.tmp 1), type := 3, pos := _, after := #[{ on := 8, ground := Go.Ground.guard }], guard := some (8, true) }) (v := ?v24) rfl (by kernel_rfl) (by kernel_rfl) (by kernel_rfl) (fun _ _ _ h => h) (Or.inl ⟨by kernel_rfl, ?hy24⟩) (by assumption) ?_
                case hy24 => intro w hSw; (try dsimp only at hSw); first | (go_simp; done) | (go_simp; with_reducible rfl)
                (try simp only [Act.put, List.setIfInBounds_toArray, List.set_cons_zero, List.set_cons_succ])
                refine wpAnyH_take (i := 12) (oi := { dst := some 91, op := Go.Op.load 33 (Go.Operand.tmp 8), type := 33, pos := _, after := #[{ on := 8, ground := Go.Ground.guard }], guard := some (8, true) }) (v := ?v25) rfl (by kernel_rfl) (by kernel_rfl) (by kernel_rfl) (fun _ _ _ h => h) (Or.inl ⟨by kernel_rfl, ?hy25⟩) (by assumption) ?_
                case hy25 => intro w hSw; (try dsimp only at hSw); first | (go_simp; done) | (go_simp; with_reducible rfl)
                (try simp only [Act.put, List.setIfInBounds_toArray, List.set_cons_zero, List.set_cons_succ])
                refine wpAnyH_take (i := 13) (oi := { dst := some 92, op := Go.Op.move (Go.Operand.tmp 1), type := 3, pos := _, after := #[{ on := 8, ground := Go.Ground.guard }], guard := some (8, true) }) (v := ?v26) rfl (by kernel_rfl) (by kernel_rfl) (by kernel_rfl) (fun _ _ _ h => h) (Or.inl ⟨by kernel_rfl, ?hy26⟩) (by assumption) ?_
                case hy26 => intro w hSw; (try dsimp only at hSw); first | (go_simp; done) | (go_simp; with_reducible rfl)
                (try simp only [Act.put, List.setIfInBounds_toArray, List.set_cons_zero, List.set_cons_succ])
                refine wpAnyH_ready (rs := [11]) (by kernel_rfl) (by simp) ?_
                refine AllReadyH.cons (o := { dst := some 90, op := Go.Op.call { callee := Go.Callee.value (Go.Operand.func 11), args := #[Go.Operand.tmp 88, Go.Operand.tmp 89], argTypes := #[27, 3] }, type := 38, pos := _, after := #[{ on := 9, ground := Go.Ground.data }, { on := 10, ground := Go.Ground.data }, { on := 8, ground := Go.Ground.chain }, { on := 8, ground := Go.Ground.guard }], guard := some (8, true) }) rfl (fun K hK => ?_) AllReadyH.nil
                go_simp
                (go_at_call 11; refine (HBt.out a1 _ HG9.out).mono ?_; rintro e w5 ⟨⟨a5, c5, rfl, hr5⟩, g5⟩; have HR5 := Lib.hid hr5; have HG5 := Lib.hid (HG9.out.trans g5); clear hr5)
                (try go_wp2_with fail)
                refine hK.out _ _ ?hS28 (fun hHeld => ?_)
                case hS28 => (try dsimp only); exact keep_w5 g5 (by assumption)
                clear hK K
                (try simp only [Act.put, List.setIfInBounds_toArray, List.set_cons_zero, List.set_cons_succ])
                refine wpAnyH_ready (rs := [14]) (by kernel_rfl) (by simp) ?_
                refine AllReadyH.cons (o := { dst := some 93, op := Go.Op.call { callee := Go.Callee.value (Go.Operand.func 12), args := #[Go.Operand.tmp 91, Go.Operand.tmp 92], argTypes := #[33, 3] }, type := 38, pos := _, after := #[{ on := 12, ground := Go.Ground.data }, { on := 13, ground := Go.Ground.data }, { on := 11, ground := Go.Ground.chain }, { on := 8, ground := Go.Ground.guard }], guard := some (8, true) }) rfl (fun K hK => ?_) AllReadyH.nil
                go_simp
                (go_at_call 12; refine (HRt.out a1 _ HG5.out).mono ?_; rintro e w6 ⟨⟨a6, c6, rfl, _, _, hr6⟩, g6⟩; have HR6 := Lib.hid hr6; have HR56 := Lib.hid (HR5.out.grow g6); have HG6 := Lib.hid (HG5.out.trans g6); clear hr6)
                (try go_wp2_with fail)
                refine hK.out _ _ ?hS30 (fun hHeld => ?_)
                case hS30 => (try dsimp only); exact keep_w5 g6 (by assumption)
                clear hK K
                (try simp only [Act.put, List.setIfInBounds_toArray, List.set_cons_zero, List.set_cons_succ])
                refine wpAnyH_ready (rs := [15]) (by kernel_rfl) (by simp) ?_
                refine AllReadyH.cons (o := { dst := some 94, op := Go.Op.call { callee := Go.Callee.value (Go.Operand.func 10), args := #[Go.Operand.tmp 90, Go.Operand.tmp 93], argTypes := #[38, 38] }, type := 4, pos := _, after := #[{ on := 11, ground := Go.Ground.data }, { on := 14, ground := Go.Ground.data }, { on := 14, ground := Go.Ground.chain }, { on := 8, ground := Go.Ground.guard }], guard := some (8, true) }) rfl (fun K hK => ?_) AllReadyH.nil
                go_simp
                (go_at_call 10; refine (iequal_n a5 a6 c5 c6 _ _ _ rfl rfl (by omega) (by omega) HR56.out HR6.out).mono ?_; rintro e w7 ⟨rfl, g7⟩; rw [decide_eq_true rfl]; have HG7 := Lib.hid (HG6.out.trans g7))
                (try go_wp2_with fail)
                refine hK.out _ _ ?hS32 (fun hHeld => ?_)
                case hS32 => (try dsimp only); exact keep_w5 g7 (by assumption)
                clear hK K
                (try simp only [Act.put, List.setIfInBounds_toArray, List.set_cons_zero, List.set_cons_succ])
                refine wpAnyH_take (i := 16) (oi := { dst := some 95, op := Go.Op.pick (Go.Operand.tmp 87) (Go.Operand.tmp 94) (Go.Operand.const (Go.Value.bool false)), type := 4, pos := _, after := #[{ on := 8, ground := Go.Ground.data }, { on := 15, ground := Go.Ground.data }], guard := none }) (v := ?v33) rfl (by kernel_rfl) (by kernel_rfl) (by kernel_rfl) (fun _ _ _ h => h) (Or.inl ⟨by kernel_rfl, ?hy33⟩) (by assumption) ?_
                case hy33 => intro w hSw; (try dsimp only at hSw); first | (go_simp; done) | (go_simp; with_reducible rfl)
                (try simp only [Act.put, List.setIfInBounds_toArray, List.set_cons_zero, List.set_cons_succ])
                refine wpAnyH_take (i := 17) (oi := { dst := some 4, op := Go.Op.assign (Go.Operand.tmp 95), type := 4, pos := _, after := #[{ on := 16, ground := Go.Ground.data }, { on := 15, ground := Go.Ground.chain }, { on := 0, ground := Go.Ground.phase }, { on := 1, ground := Go.Ground.phase }, { on := 2, ground := Go.Ground.phase }, { on := 3, ground := Go.Ground.phase }, { on := 4, ground := Go.Ground.phase }, { on := 5, ground := Go.Ground.phase }, { on := 6, ground := Go.Ground.phase }, { on := 7, ground := Go.Ground.phase }, { on := 8, ground := Go.Ground.phase }, { on := 9, ground := Go.Ground.phase }, { on := 10, ground := Go.Ground.phase }, { on := 11, ground := Go.Ground.phase }, { on := 12, ground := Go.Ground.phase }, { on := 13, ground := Go.Ground.phase }, { on := 14, ground := Go.Ground.phase }, { on := 15, ground := Go.Ground.phase }, { on := 16, ground := Go.Ground.phase }], guard := none }) (v := ?v34) rfl (by kernel_rfl) (by kernel_rfl) (by kernel_rfl) (fun _ _ _ h => h) (Or.inl ⟨by kernel_rfl, ?hy34⟩) (by assumption) ?_
                case hy34 => intro w hSw; (try dsimp only at hSw); first | (go_simp; done) | (go_simp; with_reducible rfl)
                (try simp only [Act.put, List.setIfInBounds_toArray, List.set_cons_zero, List.set_cons_succ])
                refine wpAnyH_done (by kernel_rfl) ?_ _
                go_wp2
                go_ret
                exact ⟨rfl, HGw.out.trans HG7.out⟩
    · skip
      have HF0 := Lib.hid (Four.new w 24 (.int .i64 N0) (.int .i64 B0) (.int .i64 S0) (.slice a0 len0 cap0))
      have HG0 := Lib.hid ((Grew.refl w).alloc (.cells #[.int .i64 N0, .int .i64 B0, .int .i64 S0, .slice a0 len0 cap0] 24))
      have HP := Lib.hid (fun (a : Option Addr) (c : Nat) (w : World) => pnew_bad N0 B0 S0 a len0 c w h60.1 h60.2.1 h60.2.2 hok)
      have HR := Lib.hid (fun (w : World) => rnew_bad N0 B0 S0 a0 len0 cap0 w h60.1 h60.2.1 h60.2.2 hok)
      obtain ⟨hcd, hcd0, hcd8⟩ := codeV_ne N0 B0 S0
      generalize codeV N0 B0 S0 = cd at *
      clear hok
      go_enter Try.func3, Try.ntmps3
      go_wp2_with fail
      refine (few_any N0 B0 S0 a0 len0 cap0 _).mono ?_
      rintro e w1 ⟨rfl, g1⟩
      rw [hf]
      have HF1 := Lib.hid (HF0.out.grow g1)
      have HG1 := Lib.hid (HG0.out.trans g1)
      clear g1
      have X0 := HF1.out.c0
      have X1 := HF1.out.c1
      have X2 := HF1.out.c2
      have X3 := HF1.out.c3
      have hlX := HF1.out.lt
      have HX1 := Lib.hid (HX.out.grow HG1.out)
      have HO := Lib.hid (World.ownsRow_made w1 (e := 36) (base := w1.heap.size) #[] 0 (Nat.le_refl _) (Nat.zero_le _) (by simp) : (w1.alloc (.cells #[] 36)).ownsRow w1.heap.size 36 1 (.slice (some ⟨w1.heap.size, 0, none⟩) 0 0) 0 [])
      have HGL := Lib.hid (show Grew w1 (w1.alloc (.cells #[] 36)) from (Grew.refl w1).alloc _)
      have HLt := Lib.hid (show w1.heap.size < (w1.alloc (.cells #[] 36)).heap.size from by simp)
      obtain ⟨i0, hi, hz0, hz1, hz2⟩ := info_parts info_u6412
      go_upto_region 3 with fail
      go_cut [5] (fun v wx => ∃ ao co, v = .slice ao len0 co ∧ Hid (BufK .u64 36 w1.heap.size wx ao len0 co zs0) ∧ Hid (Grew w1 wx) ∧ Hid (w1.heap.size < wx.heap.size))
      case first =>
        cases a0 with
        | none =>
          obtain rfl := hnn rfl
          obtain rfl : len0 = 0 := by omega
          obtain rfl : zs0 = [] := List.eq_nil_of_length_eq_zero hz
          go_wp2_with (at_builtin; refine wpList_append_own_none rfl _ _ 22 rfl w1.heap.size 36 i0 1 Try.underlying22 hi _ _ _ rfl HO.out rfl ?_)
          go_wp2_with fail
          go_meet
          exact ⟨_, _, rfl, HO, HGL, HLt⟩
        | some x =>
          have HNw : Hid (∀ (j : Nat) (u : Value), (zs0.map (Value.int .u64))[j]? = some u → (w1.alloc (.cells #[] 36)).cell? (x.add j) = some u) := Lib.hid (by
            intro j u hj
            have hlt : j < zs0.length := by
              rcases Nat.lt_or_ge j zs0.length with h' | h'
              · exact h'
              · rw [List.getElem?_eq_none (by simpa using h')] at hj; cases hj
            obtain ⟨b, off, e, hb, hc⟩ := (HX1.out.grow HGL.out).at hlt
            injection e with e
            subst e
            rw [List.getElem?_map, el_lt hlt] at hj
            rw [Addr.add_lit, hc]
            exact hj)
          go_wp2_with (at_builtin; refine wpList_append_own _ rfl _ _ 22 rfl w1.heap.size 36 i0 (.int .u64 0) 1 8 Try.underlying22 hi hz0 hz1 hz2 rfl (by decide) _ _ _ rfl HO.out x len0 cap0 (zs0.map (Value.int .u64)) rfl ?qc1 ?qc2 ?qc3 ?qc4 ?qc5 ?qc6 ?_)
          case qc1 => rw [List.length_map, hz]; simp
          case qc2 => exact HNw.out
          case qc3 => intro u hu; obtain ⟨z, _, rfl⟩ := List.mem_map.1 hu; rfl
          case qc4 => unfold maxLen; omega
          case qc5 => omega
          case qc6 => simp
          intro v' w2 hown hgrow hnil
          have HG2 : Hid (Grew w1 w2) := Lib.hid (Below.grown HGL.out hgrow (by simp) (by intro k hk; simp [Value.ownBlock] at hk; omega))
          have HL2 := Lib.hid (Nat.lt_of_lt_of_le HLt.out hgrow.size)
          obtain ⟨a', c', rfl, hb⟩ := own_ints (n := len0) (zs := zs0) (q := .u64) hown
          have HB := Lib.hid hb
          clear hown hgrow hnil hb
          go_wp2_with fail
          go_meet
          exact ⟨_, _, rfl, HB, HG2, HL2⟩
      case rest =>
        obtain ⟨ao, co, rfl, HBo, HGo, HLo⟩ := hcut
        rename World => W2
        have HF2 := Lib.hid (HF1.out.grow HGo.out)
        have HG2 := Lib.hid (HG1.out.trans HGo.out)
        have hW1 := HG1.out.size
        obtain ⟨g, hg1, hg2, hga⟩ : ∃ g, w1.heap.size ≤ g ∧ g < W2.heap.size ∧ (0 < len0 → ao = some ⟨g, 0, none⟩) := by
          rcases Nat.eq_zero_or_pos len0 with h0 | h0
          · exact ⟨w1.heap.size, Nat.le_refl _, HLo.out, fun h => by omega⟩
          · obtain ⟨g, e, h1, h2, _⟩ := HBo.out.at h0
            exact ⟨g, h1, h2, fun _ => e⟩
        clear X0 X1 X2 X3
        have X0 := HF2.out.c0
        have X1 := HF2.out.c1
        have X2 := HF2.out.c2
        have X3 := HF2.out.c3
        have hlX2 := HF2.out.lt
        go_wp2_with fail
        refine (HP.out ao co W2).mono ?_
        rintro e w3 ⟨rfl, rfl⟩
        go_wp2_with fail
        refine (HR.out W2).mono ?_
        rintro e w4 ⟨rfl, g4⟩
        have HG4 := Lib.hid ((HG2.out.trans g4).alloc (.cells #[.int .i64 0, .int .i64 0, .int .i64 0, .slice none 0 0] 33))
        have HB4 := Lib.hid (HBo.out.grow (g4.alloc (.cells #[.int .i64 0, .int .i64 0, .int .i64 0, .slice none 0 0] 33)))
        clear g4 X0 X1 X2 X3 hlX2
        go_wp2_with fail
        generalize w4.alloc (.cells #[.int .i64 0, .int .i64 0, .int .i64 0, .slice none 0 0] 33) = U at *
        generalize w4.heap.size = wb at *
        go_wp2
        go_loopw [45] (fun x wr => ∃ j : Nat, j ≤ len0 ∧ x = .int .i64 j ∧ (∃ zs' : List Int, Hid (BufK .u64 36 w1.heap.size wr ao len0 co zs')) ∧ Hid (U.grownBy wr (some g))) (fun x _ => len0 - (intOf x).toNat)
        case atStart => exact ⟨0, Nat.zero_le _, rfl, ⟨_, HB4⟩, Lib.hid (Grew.by' (Grew.refl U) _)⟩
        case round =>
          obtain ⟨j, hj, rfl, ⟨zs', HB⟩, HG⟩ := hrel
          by_cases hlt : j < len0
          · obtain rfl := hga (by omega)
            obtain ⟨g', e1, _, hgl, cz, fz⟩ := HB.out.at hlt
            obtain rfl : g' = g := by injection e1 with e1; injection e1 with e1; exact e1.symm
            clear e1
            have HBn := Lib.hid (fun v => HB.out.set j v)
            have HGn := Lib.hid (fun (v : Value) => grownBy_trans HG.out (grownBy_setCell1 wr ⟨g', j, none⟩ v))
            generalize el zs' j = z at *
            go_wp2
            go_roundw
            case rel => exact ⟨j + 1, by omega, by go_num, ⟨_, Lib.hid (HBn.out _)⟩, Lib.hid (HGn.out _)⟩
            case measure => simp [intOf]; omega
          · obtain rfl : j = len0 := by omega
            have HGw := Lib.hid (HG4.out.trans_below (grownBy_below HG.out (show w.heap.size ≤ g by omega) HG4.out.size) (Nat.le_refl _))
            go_wp2_with fail
            refine (salive_any _).mono ?_
            rintro e w9 ⟨rfl, g9⟩
            have HG9 := Lib.hid (HGw.out.trans g9)
            clear g9
            go_wp2
            go_ret
            exact ⟨rfl, HG9.out⟩
  · have hf : fewB N0 S0 len0 = false := by simpa using hf
    have HF0 := Lib.hid (Four.new w 24 (.int .i64 N0) (.int .i64 B0) (.int .i64 S0) (.slice a0 len0 cap0))
    have HG0 := Lib.hid ((Grew.refl w).alloc (.cells #[.int .i64 N0, .int .i64 B0, .int .i64 S0, .slice a0 len0 cap0] 24))
    go_enter Try.func3, Try.ntmps3
    go_wp2_with fail
    refine (few_any N0 B0 S0 a0 len0 cap0 _).mono ?_
    rintro e w1 ⟨rfl, g1⟩
    rw [hf]
    have HF1 := Lib.hid (HF0.out.grow g1)
    have HG1 := Lib.hid (HG0.out.trans g1)
    clear g1
    go_wp2_with fail
    refine (salive_any _).mono ?_
    rintro e w9 ⟨rfl, g9⟩
    have HG9 := Lib.hid (HG1.out.trans g9)
    clear g9
    go_wp2
    go_ret
    exact ⟨rfl, HG9.out⟩

set_option maxRecDepth 100000 in
theorem lifted (os : Os) (started : os.Started) (H : Type) (enc : TypeId × Value → H) :
    ReturnsInHanded {} Try.checked os 3 .any (Rows.samplerMakesSpec.pre6 enc Try.prog Try.f3 Rows.samplerMakesRow.domain false) (Rows.samplerMakesSpec.post enc Try.prog Try.f3 false true false false) := by
  refine returnsInHanded_of_change (C := Try.checked) own started (by kernel_rfl) Try.func3
    (ChangeSpec.witness6 (enc := enc) (C := Try.checked) false ⟨#[], #[.agg #[.int .i64 0, .int .i64 0, .int .i64 0, .slice none 0 0], .int .i64 0], []⟩ 8 (by kernel_rfl) (by kernel_rfl) (by kernel_rfl) (by kernel_rfl)) ?_
  intro W base args ds gs before hval0 hW hcnd _
  have hval : ∀ (j : Nat) t v, Try.f3.params[j]? = some t → args[j]? = some v → Value.okWide Try.prog W .any base t v := hval0
  have hW' := hW
  obtain ⟨p, q, hA0, hV, rfl, hfz, hnd⟩ := hW
  have hA : DataW.TrodAll enc Try.prog W 0 (fun _ => true) true Try.f3.params.toList args.toList ds p := hA0
  rw [Try.params3] at hA hval
  obtain ⟨v0, vs0, d0, ds0, p0, q0, hargs, rfl, rfl, h0, r0⟩ := trodAll_cons hA
  obtain ⟨v1, vs1, d1, ds1, p1, q1, rfl, rfl, rfl, h1, r1⟩ := trodAll_cons r0
  obtain ⟨rfl, rfl, rfl⟩ := trodAll_nil r1
  obtain rfl : args = #[v0, v1] := by cases args; simp_all
  obtain ⟨rfl, rfl⟩ := trodVars_none hV
  have k0 := h0
  have lt0 : ∀ x ∈ p0, x.block < W.heap.size := by obtain ⟨m, hm⟩ := k0; exact DataW.trod_lt m _ _ _ hm
  obtain ⟨c00, c10, c20, c30, y00, y10, y20, y30, m0, rfl, rfl, rfl, hy00, hy10, hy20, hy30⟩ := Joins.open_agg4 Try.underlying24 (by kernel_rfl) (by kernel_rfl) (hval 0 24 v0 rfl rfl) h0
  obtain ⟨N0, e00, rfl, _⟩ := DataW.trod_int Try.underlying3 hy00
  obtain ⟨B0, e10, rfl, _⟩ := DataW.trod_int Try.underlying3 hy10
  obtain ⟨S0, e20, rfl, _⟩ := DataW.trod_int Try.underlying3 hy20
  simp at e00 e10 e20
  subst e00 e10 e20
  obtain ⟨a0, len0, cap0, zs0, rfl, w0⟩ : ∃ a l c us, c30 = .slice a l c ∧ CameRun W N0 B0 S0 a l c us := by
    rcases open_ints Try.underlying22 Try.underlying36 (by kernel_rfl) hy30 with ⟨hcs, _⟩ | ⟨x, l, c, zs, hcs, _, hl, hm, hz, hx, hcell, hwz⟩
    · simp at hcs
      subst hcs
      exact ⟨none, 0, 0, [], rfl, cameRun_none _ _ _ _⟩
    · simp at hcs
      subst hcs
      simp only [if_true] at hz
      exact ⟨some x, l, c, _, rfl, cameRun_some hl hm hz hcell hwz⟩
  obtain ⟨a1, rfl, rfl, rfl, w1⟩ := open_int Try.underlying3 (hval 1 3 v1 rfl rfl) h1
  clear hA0 hval0
  refine (walk N0 B0 S0 a0 len0 cap0 zs0 a1 W w0 w1).mono fun e W' ⟨he, bel⟩ => ?_
  subst he
  exact ⟨_, rfl, _, _, _, [], _, [], hW', trodAll_mk1 (shut_bool Try.underlying4 _), (trodAll_cons_mk (Below.trod laidOut (by kernel_rfl) (of_decide_eq_true (by kernel_rfl)) k0 bel lt0) (trodAll_cons_mk (shut_int Try.underlying3 w1) trodAll_mk0)), rfl, bel.frame _, fun h => by cases h⟩

theorem over : Rows.samplerMakesRow.holds Try.pinned (OpenSpec.ofChange Rows.samplerMakesSpec) :=
  OpenClaim.holds_of_wide 3 Try.f3 rfl rfl rfl rfl rfl rfl rfl ⟨rfl, rfl, rfl, rfl, rfl⟩ rfl rfl rfl rfl rfl (by kernel_rfl) Try.func3 (by kernel_rfl)
    (of_decide_eq_true (by kernel_rfl)) (by unfold Func.isWrapper; first | (rw [if_pos (by decide +kernel)]; kernel_rfl) | (rw [if_neg (by decide +kernel)]; exact ⟨rfl, rfl⟩))
    (fun os started H enc _ => lifted os started H enc)

theorem proved : Rows.SamplerMakesSaid := over
end Go.Proofs.Ytdcpankbolfmiaa.samplerMakes
