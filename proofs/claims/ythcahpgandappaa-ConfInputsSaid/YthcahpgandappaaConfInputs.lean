/-
  For all inputs in, sakialaw11.ConfInputs(in) returns true. No condition.
-/
import Derived.Test.YthcahpgandappaaRows
import Derived.Test.YthcahpgandappaaCh
import Derived.Deep.RegionHeld
import Derived.OrdersHeld
import Derived.WalkKit
import Derived.ProofKit
import Derived.OpenShut
import Derived.ShutString
import Derived.ChangeOld
import Derived.Below
namespace Go.Proofs.Ythcahpgandappaa.confInputs
open Go.ChangeShapes Go.WideShapes Go.ChangeAt Go.RowKit
open Go.Proofs.Ythcahpgandappaa
set_option linter.unusedVariables false

theorem own : ownKnob Try.prog.godebug = none := by kernel_rfl
theorem laidOut : laidOutB Try.prog = true := by kernel_rfl

set_option maxHeartbeats 1000000 in
theorem aliveC_any (w : World) : Calls Try.prog 6 #[] w fun e w' => e = .returned (.bool true) ∧ Grew w w' := by
  have hk := check_any none 0 ⟨[], 99, 0, 0, 0, 0, 0, 0, 0, 0, 0, 0⟩ w rfl (by decide) (by decide) (Nat.zero_le _) (.inl rfl)
  rw [show codeC ⟨[], 99, 0, 0, 0, 0, 0, 0, 0, 0, 0, 0⟩ = 6 from by decide +kernel] at hk
  have HK := Lib.hid hk
  clear hk
  go_enter Try.func6, Try.ntmps6
  go_wp2_with fail
  refine HK.out.mono ?_
  rintro e w1 ⟨rfl, g1⟩
  go_wp2
  go_ret
  exact ⟨rfl, g1⟩
theorem cameI_grow {w w' : World} {a : Option Addr} {n c : Nat} {f : Cf} {da : Option Addr} {dn dc : Nat} {es : List Ex} {sn sc rn rc : Nat} (h : CameI w a n c f da dn dc es sn sc rn rc) (g : Grew w w') : CameI w' a n c f da dn dc es sn sc rn rc := by
  obtain ⟨⟨h1, h2, h3, h4, h5, h6⟩, ⟨k1, k2, k3, k4, k5⟩, h7⟩ := h
  exact ⟨⟨h1, h2, h3, h4, h5.grow g, h6⟩, ⟨k1, k2, k3, k4.grow g, k5⟩, h7⟩

set_option maxRecDepth 100000 in
set_option maxHeartbeats 4000000 in
theorem walk (a0 : Option Addr) (n0 c0 : Nat) (f0 : Cf) (da0 : Option Addr) (dn0 dc0 : Nat) (es0 : List Ex) (sa0 : Option Addr) (sn0 sc0 : Nat) (ra0 : Option Addr) (rn0 rc0 : Nat) (w : World) (w0 : CameI w a0 n0 c0 f0 da0 dn0 dc0 es0 sn0 sc0 rn0 rc0) :
    Calls Try.prog 4 #[.agg #[.slice a0 n0 c0, .int .i64 f0.sh, .int .i64 f0.ra, .int .i64 f0.mo, .int .i64 f0.wo, .int .i64 f0.ba, .int .i64 f0.mi, .int .i64 f0.st, .int .i64 f0.bu, .int .i64 f0.ch, .int .i64 f0.wi, .int .i64 f0.ca, .slice da0 dn0 dc0, .slice sa0 sn0 sc0, .slice ra0 rn0 rc0]] w fun e w' => e = .returned (.bool true) ∧ Below w.heap.size w w' := by
  have hdm : dn0 ≤ 9223372036854775807 := by
    have h1 := w0.2.1.2.1
    have h2 := w0.2.1.2.2.1
    unfold maxLen at h2
    omega
  have hel : es0.length = dn0 := w0.2.1.1
  have g0 : Grew w (w.alloc (.cells #[.slice a0 n0 c0, .int .i64 f0.sh, .int .i64 f0.ra, .int .i64 f0.mo, .int .i64 f0.wo, .int .i64 f0.ba, .int .i64 f0.mi, .int .i64 f0.st, .int .i64 f0.bu, .int .i64 f0.ch, .int .i64 f0.wi, .int .i64 f0.ca, .slice da0 dn0 dc0, .slice sa0 sn0 sc0, .slice ra0 rn0 rc0] 34)) := (Grew.refl w).alloc _
  have HM := Lib.hid (InM.new w a0 n0 c0 f0 da0 dn0 dc0 sa0 sn0 sc0 ra0 rn0 rc0)
  have HX := Lib.hid (cameI_grow w0 g0)
  have HG := Lib.hid g0
  have HEL := Lib.hid hel
  clear g0 w0 hel
  go_enter Try.func4, Try.ntmps4
  go_wp2_with fail
  generalize hW0 : w.alloc (.cells #[.slice a0 n0 c0, .int .i64 f0.sh, .int .i64 f0.ra, .int .i64 f0.mo, .int .i64 f0.wo, .int .i64 f0.ba, .int .i64 f0.mi, .int .i64 f0.st, .int .i64 f0.bu, .int .i64 f0.ch, .int .i64 f0.wi, .int .i64 f0.ca, .slice da0 dn0 dc0, .slice sa0 sn0 sc0, .slice ra0 rn0 rc0] 34) = W0 at *
  generalize hb0 : w.heap.size = b0 at *
  refine (rfewI_any a0 n0 c0 f0 da0 dn0 dc0 es0 sa0 sn0 sc0 ra0 rn0 rc0 W0 HX.out hdm).mono ?_
  rintro e w1 ⟨rfl, g1⟩
  have HX1 := Lib.hid (cameI_grow HX.out g1)
  have HG1 := Lib.hid (HG.out.trans g1)
  have HM1 := HM.out.grow g1
  clear HX HG HM g1
  cases hf : fewI n0 es0 sn0 rn0 with
  | false =>
    clear hf HX1
    go_wp2_with fail
    refine (aliveC_any _).mono ?_
    rintro e w2 ⟨rfl, g2⟩
    go_wp2
    go_ret
    exact ⟨rfl, HG1.out.trans g2⟩
  | true =>
    have hk := few_yes hf
    have hn40 : n0 ≤ 17592186044416 := Nat.le_trans hk.1 (by decide)
    have hdn : dn0 ≤ 17592186044416 := by
      have h := (few_small hk.2.1).1
      rw [HEL.out] at h
      exact Nat.le_trans h (by decide)
    have q0 := HM1.c0
    have q1 := HM1.c1
    have q2 := HM1.c2
    have q3 := HM1.c3
    have q4 := HM1.c4
    have q5 := HM1.c5
    have q6 := HM1.c6
    have q7 := HM1.c7
    have q8 := HM1.c8
    have q9 := HM1.c9
    have q10 := HM1.c10
    have q11 := HM1.c11
    have q12 := HM1.c12
    have q13 := HM1.c13
    have q14 := HM1.c14
    clear hk hf HM1
    go_upto_region 3 with fail
    have HXD := Lib.hid (cameI_grow HX1.out (Grew.drew' (Grew.refl w1)))
    have HGD := Lib.hid (HG1.out.drew')
    refine wp_region_held_drew (S := (fun W' => Grew w1 W' ∧ W'.cell? ⟨b0, 0, none⟩ = some (.slice a0 n0 c0) ∧ W'.cell? ⟨b0, 1, none⟩ = some (.int .i64 f0.sh) ∧ W'.cell? ⟨b0, 2, none⟩ = some (.int .i64 f0.ra) ∧ W'.cell? ⟨b0, 3, none⟩ = some (.int .i64 f0.mo) ∧ W'.cell? ⟨b0, 4, none⟩ = some (.int .i64 f0.wo) ∧ W'.cell? ⟨b0, 5, none⟩ = some (.int .i64 f0.ba) ∧ W'.cell? ⟨b0, 6, none⟩ = some (.int .i64 f0.mi) ∧ W'.cell? ⟨b0, 7, none⟩ = some (.int .i64 f0.st) ∧ W'.cell? ⟨b0, 8, none⟩ = some (.int .i64 f0.bu) ∧ W'.cell? ⟨b0, 9, none⟩ = some (.int .i64 f0.ch) ∧ W'.cell? ⟨b0, 10, none⟩ = some (.int .i64 f0.wi) ∧ W'.cell? ⟨b0, 11, none⟩ = some (.int .i64 f0.ca) ∧ W'.cell? ⟨b0, 12, none⟩ = some (.slice da0 dn0 dc0) ∧ W'.cell? ⟨b0, 13, none⟩ = some (.slice sa0 sn0 sc0) ∧ W'.cell? ⟨b0, 14, none⟩ = some (.slice ra0 rn0 rc0))) (by kernel_rfl) ⟨Grew.drew' (Grew.refl _), q0, q1, q2, q3, q4, q5, q6, q7, q8, q9, q10, q11, q12, q13, q14⟩ (fun hHeld => ?_)
    refine wpAnyH_ready (rs := [0]) (by kernel_rfl) (by simp) ?_
    refine AllReadyH.cons (o := { dst := some 7, op := Go.Op.call { callee := Go.Callee.value (Go.Operand.func 6), args := #[], argTypes := #[] }, type := 4, pos := _, after := #[], guard := none }) rfl (fun K hK => ?_) AllReadyH.nil
    go_simp
    (go_at_call 6; refine (aliveC_any _).mono ?_; rintro e w2 ⟨rfl, g2⟩; have HX2 := Lib.hid (cameI_grow HXD.out g2); have HG2 := Lib.hid (HGD.out.trans g2))
    (try go_wp2_with fail)
    refine hK.out _ _ ?hS2 (fun hHeld => ?_)
    case hS2 => (try dsimp only); exact keepI g2 (by assumption)
    clear hK K
    (try simp only [Act.put, List.setIfInBounds_toArray, List.set_cons_zero, List.set_cons_succ])
    refine wpAnyH_take (i := 1) (oi := { dst := some 8, op := Go.Op.move (Go.Operand.tmp 7), type := 4, pos := _, after := #[{ on := 0, ground := Go.Ground.data }, { on := 0, ground := Go.Ground.chain }], guard := none }) (v := ?v3) rfl (by kernel_rfl) (by kernel_rfl) (by kernel_rfl) (fun _ _ _ h => h) (Or.inl ⟨by kernel_rfl, ?hy3⟩) (by assumption) ?_
    case hy3 => intro w hSw; (try dsimp only at hSw); first | (go_simp; done) | (go_simp; with_reducible rfl)
    (try simp only [Act.put, List.setIfInBounds_toArray, List.set_cons_zero, List.set_cons_succ])
    refine wpAnyH_take (i := 2) (oi := { dst := some 9, op := Go.Op.load 34 (Go.Operand.tmp 1), type := 34, pos := _, after := #[{ on := 1, ground := Go.Ground.guard }], guard := some (1, true) }) (v := ?v4) rfl (by kernel_rfl) (by kernel_rfl) (by kernel_rfl) (fun _ _ _ h => h) (Or.inl ⟨by kernel_rfl, ?hy4⟩) (by assumption) ?_
    case hy4 => intro w hSw; (try dsimp only at hSw); first | (go_simp; done) | (go_simp; with_reducible rfl)
    (try simp only [Act.put, List.setIfInBounds_toArray, List.set_cons_zero, List.set_cons_succ])
    refine wpAnyH_take (i := 4) (oi := { dst := some 11, op := Go.Op.load 34 (Go.Operand.tmp 1), type := 34, pos := _, after := #[{ on := 1, ground := Go.Ground.guard }], guard := some (1, true) }) (v := ?v5) rfl (by kernel_rfl) (by kernel_rfl) (by kernel_rfl) (fun _ _ _ h => h) (Or.inl ⟨by kernel_rfl, ?hy5⟩) (by assumption) ?_
    case hy5 => intro w hSw; (try dsimp only at hSw); first | (go_simp; done) | (go_simp; with_reducible rfl)
    (try simp only [Act.put, List.setIfInBounds_toArray, List.set_cons_zero, List.set_cons_succ])
    refine wpAnyH_ready (rs := [3]) (by kernel_rfl) (by simp) ?_
    refine AllReadyH.cons (o := { dst := some 10, op := Go.Op.call { callee := Go.Callee.value (Go.Operand.func 10), args := #[Go.Operand.tmp 9], argTypes := #[34] }, type := 26, pos := _, after := #[{ on := 2, ground := Go.Ground.data }, { on := 1, ground := Go.Ground.chain }, { on := 1, ground := Go.Ground.guard }], guard := some (1, true) }) rfl (fun K hK => ?_) AllReadyH.nil
    go_simp
    (go_at_call 10; refine (input_any a0 n0 c0 f0 da0 dn0 dc0 es0 sa0 sn0 sc0 ra0 rn0 rc0 _ HX2.out hdn hn40).mono ?_; rintro e w3 ⟨rfl, g3⟩; have HX3 := Lib.hid (cameI_grow HX2.out g3); have HG3 := Lib.hid (HG2.out.trans g3))
    (try go_wp2_with fail)
    refine hK.out _ _ ?hS7 (fun hHeld => ?_)
    case hS7 => (try dsimp only); exact keepI g3 (by assumption)
    clear hK K
    (try simp only [Act.put, List.setIfInBounds_toArray, List.set_cons_zero, List.set_cons_succ])
    refine wpAnyH_ready (rs := [5]) (by kernel_rfl) (by simp) ?_
    refine AllReadyH.cons (o := { dst := some 12, op := Go.Op.call { callee := Go.Callee.value (Go.Operand.func 11), args := #[Go.Operand.tmp 11], argTypes := #[34] }, type := 3, pos := _, after := #[{ on := 4, ground := Go.Ground.data }, { on := 3, ground := Go.Ground.chain }, { on := 1, ground := Go.Ground.guard }], guard := some (1, true) }) rfl (fun K hK => ?_) AllReadyH.nil
    go_simp
    (go_at_call 11; refine (rinput_any a0 n0 c0 f0 da0 dn0 dc0 es0 sa0 sn0 sc0 ra0 rn0 rc0 _ HX3.out hdn hn40).mono ?_; rintro e w4 ⟨rfl, g4⟩; have HX4 := Lib.hid (cameI_grow HX3.out g4); have HG4 := Lib.hid (HG3.out.trans g4); have he4 : (codeI f0 es0 sn0 rn0 == codeI f0 es0 sn0 rn0) = true := beq_self_eq_true _)
    (try go_wp2_with fail)
    refine hK.out _ _ ?hS9 (fun hHeld => ?_)
    case hS9 => (try dsimp only); exact keepI g4 (by assumption)
    clear hK K
    (try simp only [Act.put, List.setIfInBounds_toArray, List.set_cons_zero, List.set_cons_succ])
    refine wpAnyH_take (i := 6) (oi := { dst := some 13, op := Go.Op.binOp Go.BinOp.eql 3 (Go.Operand.tmp 10) (Go.Operand.tmp 12) 3, type := 4, pos := _, after := #[{ on := 3, ground := Go.Ground.data }, { on := 5, ground := Go.Ground.data }, { on := 1, ground := Go.Ground.guard }], guard := some (1, true) }) (v := ?v10) rfl (by kernel_rfl) (by kernel_rfl) (by kernel_rfl) (fun _ _ _ h => h) (Or.inl ⟨by kernel_rfl, ?hy10⟩) (by assumption) ?_
    case hy10 => intro w hSw; (try dsimp only at hSw); first | (go_simp; done) | (go_simp; with_reducible rfl)
    (try simp only [Act.put, List.setIfInBounds_toArray, List.set_cons_zero, List.set_cons_succ])
    refine wpAnyH_take (i := 7) (oi := { dst := some 14, op := Go.Op.pick (Go.Operand.tmp 8) (Go.Operand.tmp 13) (Go.Operand.const (Go.Value.bool false)), type := 4, pos := _, after := #[{ on := 1, ground := Go.Ground.data }, { on := 6, ground := Go.Ground.data }], guard := none }) (v := ?v11) rfl (by kernel_rfl) (by kernel_rfl) (by kernel_rfl) (fun _ _ _ h => h) (Or.inl ⟨by kernel_rfl, ?hy11⟩) (by assumption) ?_
    case hy11 => intro w hSw; (try dsimp only at hSw); first | (go_simp; done) | (go_simp; with_reducible rfl)
    (try simp only [Act.put, List.setIfInBounds_toArray, List.set_cons_zero, List.set_cons_succ])
    refine wpAnyH_take (i := 8) (oi := { dst := some 2, op := Go.Op.assign (Go.Operand.tmp 14), type := 4, pos := _, after := #[{ on := 7, ground := Go.Ground.data }, { on := 5, ground := Go.Ground.chain }, { on := 0, ground := Go.Ground.phase }, { on := 1, ground := Go.Ground.phase }, { on := 2, ground := Go.Ground.phase }, { on := 3, ground := Go.Ground.phase }, { on := 4, ground := Go.Ground.phase }, { on := 5, ground := Go.Ground.phase }, { on := 6, ground := Go.Ground.phase }, { on := 7, ground := Go.Ground.phase }], guard := none }) (v := ?v12) rfl (by kernel_rfl) (by kernel_rfl) (by kernel_rfl) (fun _ _ _ h => h) (Or.inl ⟨by kernel_rfl, ?hy12⟩) (by assumption) ?_
    case hy12 => intro w hSw; (try dsimp only at hSw); first | (go_simp; done) | (go_simp; with_reducible rfl)
    (try simp only [Act.put, List.setIfInBounds_toArray, List.set_cons_zero, List.set_cons_succ])
    refine wpAnyH_done (by kernel_rfl) ?_ _
    go_wp2
    go_ret
    exact ⟨ret_bool (by simp), HG4.out⟩

set_option maxRecDepth 100000 in
theorem lifted (os : Os) (started : os.Started) (H : Type) (enc : TypeId × Value → H) :
    ReturnsInHanded {} Try.checked os 4 .any (Rows.confInputsSpec.pre6 enc Try.prog Try.f4 Rows.confInputsRow.domain false) (Rows.confInputsSpec.post enc Try.prog Try.f4 false true false false) := by
  refine returnsInHanded_of_change (C := Try.checked) own started (by kernel_rfl) Try.func4
    (ChangeSpec.witness6 (enc := enc) (C := Try.checked) false ⟨#[], #[.agg #[.slice none 0 0, .int .i64 0, .int .i64 0, .int .i64 0, .int .i64 0, .int .i64 0, .int .i64 0, .int .i64 0, .int .i64 0, .int .i64 0, .int .i64 0, .int .i64 0, .slice none 0 0, .slice none 0 0, .slice none 0 0]], []⟩ 8 (by kernel_rfl) (by kernel_rfl) (by kernel_rfl) (by kernel_rfl)) ?_
  intro W base args ds gs before hval0 hW hcnd _
  have hval : ∀ (j : Nat) t v, Try.f4.params[j]? = some t → args[j]? = some v → Value.okWide Try.prog W .any base t v := hval0
  have hW' := hW
  obtain ⟨p, q, hA0, hV, rfl, hfz, hnd⟩ := hW
  have hA : DataW.TrodAll enc Try.prog W 0 (fun _ => true) true Try.f4.params.toList args.toList ds p := hA0
  rw [Try.params4] at hA hval
  obtain ⟨v0, vs0, d0, ds0, p0, q0, hargs, rfl, rfl, h0, r0⟩ := trodAll_cons hA
  obtain ⟨rfl, rfl, rfl⟩ := trodAll_nil r0
  obtain rfl : args = #[v0] := by cases args; simp_all
  obtain ⟨rfl, rfl⟩ := trodVars_none hV
  have k0 := h0
  have lt0 : ∀ x ∈ p0, x.block < W.heap.size := by obtain ⟨m, hm⟩ := k0; exact DataW.trod_lt m _ _ _ hm
  obtain ⟨a0, n0, c0, f0, da0, dn0, dc0, es0, sa0, sn0, sc0, ra0, rn0, rc0, rfl, w0⟩ := input_in (hval 0 34 v0 rfl rfl) h0
  clear hA0 hval0
  refine (walk a0 n0 c0 f0 da0 dn0 dc0 es0 sa0 sn0 sc0 ra0 rn0 rc0 W w0).mono fun e W' ⟨he, bel⟩ => ?_
  subst he
  exact ⟨_, rfl, _, _, _, [], _, [], hW', trodAll_mk1 (shut_bool Try.underlying4 _), (trodAll_cons_mk (Below.trod laidOut (by kernel_rfl) (of_decide_eq_true (by kernel_rfl)) k0 bel lt0) trodAll_mk0), rfl, bel.frame _, fun h => by cases h⟩

theorem over : Rows.confInputsRow.holds Try.pinned (OpenSpec.ofChange Rows.confInputsSpec) :=
  OpenClaim.holds_of_wide 4 Try.f4 rfl rfl rfl rfl rfl rfl rfl ⟨rfl, rfl, rfl, rfl, rfl⟩ rfl rfl rfl rfl rfl (by kernel_rfl) Try.func4 (by kernel_rfl)
    (of_decide_eq_true (by kernel_rfl)) (by unfold Func.isWrapper; first | (rw [if_pos (by decide +kernel)]; kernel_rfl) | (rw [if_neg (by decide +kernel)]; exact ⟨rfl, rfl⟩))
    (fun os started H enc _ => lifted os started H enc)

theorem proved : Rows.ConfInputsSaid := over
end Go.Proofs.Ythcahpgandappaa.confInputs
