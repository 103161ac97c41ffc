/-
  For all matrices and numbers r and c, sakialaw07.MatMakes(m, r, c) returns true. No condition.
-/
import Derived.Test.YtklledigcabllaaRows
import Derived.Test.YtklledigcabllaaUy
import Derived.Lib.SmallJoins
import Derived.Deep.RegionHeld
import Derived.WalkKit
import Derived.ProofKit
import Derived.OpenShut
import Derived.ShutString
import Derived.ChangeOld
import Derived.Below
import Derived.SizedLaws
namespace Go.Proofs.Ytklledigcabllaa.matMakes
open Go.ChangeShapes Go.WideShapes Go.ChangeAt Go.RowKit
open Go.Proofs.Ytklledigcabllaa
set_option linter.unusedVariables false

theorem own : ownKnob Try.prog.godebug = none := by kernel_rfl
theorem laidOut : laidOutB Try.prog = true := by kernel_rfl

set_option linter.unusedSimpArgs false

set_option maxRecDepth 100000 in
set_option maxHeartbeats 4000000 in
theorem way_false0 (R0 C0 : Int) (a0 : Option Addr) (len0 cap0 : Nat) (zs0 : List Int) (a1 a2 : Int) (w : World) (hA : ¬ 600 < len0) (h0 : Seen w a0 len0 cap0 zs0) (hR : rightB R0 C0 len0 = false) (hB : R0 ≤ 50) (hC : C0 ≤ 50) :
    Calls Try.prog 3 #[.agg #[.int .i64 R0, .int .i64 C0, .slice a0 len0 cap0], .int .i64 a1, .int .i64 a2] w fun e w' => e = .returned (.bool true) ∧ Below w.heap.size w w' := by

    have HG0 : Hid (Grew w (w.alloc (.cells #[.int .i64 R0, .int .i64 C0, .slice a0 len0 cap0] 24))) := Lib.hid ((Grew.refl w).alloc _)
    have HM0 := Lib.hid (Three.new w 24 (.int .i64 R0) (.int .i64 C0) (.slice a0 len0 cap0))

    have HZ0 := Lib.hid h0
    have HR := Lib.hid hR
    clear h0 hR
    go_enter Try.func3, Try.ntmps3
    have Z0 := Lib.hid (HZ0.out.grow HG0.out)
    obtain ⟨av, hav⟩ : ∃ av, atV zs0 R0 C0 a1 a2 = av := ⟨_, rfl⟩
    have HAV := Lib.hid hav
    have hne : (av != av) = false := bne_self_eq_false av
    clear hav
    go_wp2_with fail
    refine (few_any R0 C0 a0 len0 cap0 _).mono ?_
    rintro e w1_ ⟨rfl, g1⟩
    have Z_1 := Lib.hid (Z0.out.grow g1)
    have HG_1 := Lib.hid (HG0.out.trans g1)
    have HM_1 := Lib.hid (HM0.out.grow g1)
    have m0_1 := HM_1.out.c0
    have m1_1 := HM_1.out.c1
    have m2_1 := HM_1.out.c2
    have hl_1 := HM_1.out.lt
    clear g1
    rw [decide_eq_true (by omega)]
    go_wp2_with fail
    refine (given_any R0 C0 a0 len0 cap0 _).mono ?_
    rintro e w2_ ⟨rfl, g2⟩
    have Z_2 := Lib.hid (Z_1.out.grow g2)
    have HG_2 := Lib.hid (HG_1.out.trans g2)
    have HM_2 := Lib.hid (HM_1.out.grow g2)
    clear m0_1 m1_1 m2_1 hl_1
    have m0_2 := HM_2.out.c0
    have m1_2 := HM_2.out.c1
    have m2_2 := HM_2.out.c2
    have hl_2 := HM_2.out.lt
    clear g2
    go_wp2_with fail
    have gA : Grew w2_ (w2_.alloc (.cells #[.int .i64 R0, .int .i64 C0, .slice a0 len0 cap0] 29)) := (Grew.refl _).alloc _
    have Hxb := Lib.hid (Three.new w2_ 29 (.int .i64 R0) (.int .i64 C0) (.slice a0 len0 cap0))
    have Z_2a := Lib.hid (Z_2.out.grow gA)
    have HG_2a := Lib.hid (HG_2.out.trans gA)
    have HM_2a := Lib.hid (HM_2.out.grow gA)
    clear m0_2 m1_2 m2_2 hl_2
    clear gA
    generalize w2_.alloc (.cells #[.int .i64 R0, .int .i64 C0, .slice a0 len0 cap0] 29) = w2a_ at *
    generalize w2_.heap.size = xb at *
    refine (of_no _ HR.out).mono ?_
    rintro e w3_ ⟨rfl, g3⟩
    have Z_3 := Lib.hid (Z_2a.out.grow g3)
    have HG_3 := Lib.hid (HG_2a.out.trans g3)
    have HM_3 := Lib.hid (HM_2a.out.grow g3)
    have m0_3 := HM_3.out.c0
    have m1_3 := HM_3.out.c1
    have m2_3 := HM_3.out.c2
    have hl_3 := HM_3.out.lt
    have xb_3 := Lib.hid (Hxb.out.grow g3)
    have b0xb_3 := xb_3.out.c0
    have b1xb_3 := xb_3.out.c1
    have b2xb_3 := xb_3.out.c2
    have blxb_3 := xb_3.out.lt
    clear g3
    go_wp2_with fail
    have gA : Grew w3_ (w3_.alloc (.cells #[.int .i64 0, .int .i64 0, .slice none 0 0] 29)) := (Grew.refl _).alloc _
    have Hyb := Lib.hid (Three.new w3_ 29 (.int .i64 0) (.int .i64 0) (.slice none 0 0))
    have Z_3a := Lib.hid (Z_3.out.grow gA)
    have Bxb_3a := Lib.hid (xb_3.out.grow gA)
    clear b0xb_3 b1xb_3 b2xb_3 blxb_3
    have HG_3a := Lib.hid (HG_3.out.trans gA)
    have HM_3a := Lib.hid (HM_3.out.grow gA)
    clear m0_3 m1_3 m2_3 hl_3
    clear gA
    generalize w3_.alloc (.cells #[.int .i64 0, .int .i64 0, .slice none 0 0] 29) = w3a_ at *
    generalize w3_.heap.size = yb at *
    refine (rright_any R0 C0 a0 len0 cap0 _ (by omega)).mono ?_
    rintro e w4_ ⟨rfl, g4⟩
    have Z_4 := Lib.hid (Z_3a.out.grow g4)
    have HG_4 := Lib.hid (HG_3a.out.trans g4)
    have HM_4 := Lib.hid (HM_3a.out.grow g4)
    have m0_4 := HM_4.out.c0
    have m1_4 := HM_4.out.c1
    have m2_4 := HM_4.out.c2
    have hl_4 := HM_4.out.lt
    have xb_4 := Lib.hid (Bxb_3a.out.grow g4)
    have b0xb_4 := xb_4.out.c0
    have b1xb_4 := xb_4.out.c1
    have b2xb_4 := xb_4.out.c2
    have blxb_4 := xb_4.out.lt
    have yb_4 := Lib.hid (Hyb.out.grow g4)
    have b0yb_4 := yb_4.out.c0
    have b1yb_4 := yb_4.out.c1
    have b2yb_4 := yb_4.out.c2
    have blyb_4 := yb_4.out.lt
    clear g4
    rw [HR.out]
    go_wp2_with fail
    have gA : Grew w4_ (w4_.alloc (.cells #[.int .i64 0, .int .i64 0, .slice none 0 0] 24)) := (Grew.refl _).alloc _
    have Hwb := Lib.hid (Three.new w4_ 24 (.int .i64 0) (.int .i64 0) (.slice none 0 0))
    have Z_4a := Lib.hid (Z_4.out.grow gA)
    have Bxb_4a := Lib.hid (xb_4.out.grow gA)
    clear b0xb_4 b1xb_4 b2xb_4 blxb_4
    have Byb_4a := Lib.hid (yb_4.out.grow gA)
    clear b0yb_4 b1yb_4 b2yb_4 blyb_4
    have HG_4a := Lib.hid (HG_4.out.trans gA)
    have HM_4a := Lib.hid (HM_4.out.grow gA)
    clear m0_4 m1_4 m2_4 hl_4
    clear gA
    generalize w4_.alloc (.cells #[.int .i64 0, .int .i64 0, .slice none 0 0] 24) = w4a_ at *
    generalize w4_.heap.size = wb at *
    have gD : Grew w4a_ w4a_.drew := Grew.drew' (Grew.refl _)
    have Z_4d := Lib.hid (Z_4a.out.grow gD)
    have Bxb_4d := Lib.hid (Bxb_4a.out.grow gD)
    have Byb_4d := Lib.hid (Byb_4a.out.grow gD)
    have Bwb_4d := Lib.hid (Hwb.out.grow gD)
    have HM_4d := Lib.hid (HM_4a.out.grow gD)
    have HG_4d := Lib.hid (HG_4a.out.trans gD)
    refine wp_region_held_drew (S := (fun W' => Grew w4a_ W' ∧ W'.cell? ⟨xb, 0, none⟩ = some (.int .i64 R0) ∧ W'.cell? ⟨xb, 1, none⟩ = some (.int .i64 C0) ∧ W'.cell? ⟨xb, 2, none⟩ = some (.slice a0 len0 cap0) ∧ W'.cell? ⟨yb, 0, none⟩ = some (.int .i64 0) ∧ W'.cell? ⟨yb, 1, none⟩ = some (.int .i64 0) ∧ W'.cell? ⟨yb, 2, none⟩ = some (.slice none 0 0) ∧ W'.cell? ⟨wb, 0, none⟩ = some (.int .i64 0) ∧ W'.cell? ⟨wb, 1, none⟩ = some (.int .i64 0) ∧ W'.cell? ⟨wb, 2, none⟩ = some (.slice none 0 0) ∧ W'.cell? ⟨w.heap.size, 0, none⟩ = some (.int .i64 R0) ∧ W'.cell? ⟨w.heap.size, 1, none⟩ = some (.int .i64 C0) ∧ W'.cell? ⟨w.heap.size, 2, none⟩ = some (.slice a0 len0 cap0))) (by kernel_rfl) ⟨Grew.drew' (Grew.refl _), Bxb_4a.out.c0, Bxb_4a.out.c1, Bxb_4a.out.c2, Byb_4a.out.c0, Byb_4a.out.c1, Byb_4a.out.c2, Hwb.out.c0, Hwb.out.c1, Hwb.out.c2, HM_4a.out.c0, HM_4a.out.c1, HM_4a.out.c2⟩ (fun hHeld => ?_)
    refine wpAnyH_take (i := 0) (oi := { dst := some 33, op := Go.Op.load 29 (Go.Operand.tmp 7), type := 29, pos := _, after := #[], guard := none }) (v := ?v1) rfl (by kernel_rfl) (by kernel_rfl) (by kernel_rfl) (fun _ _ _ h => h) (Or.inl ⟨by kernel_rfl, ?hy1⟩) (by assumption) ?_
    case hy1 => intro w hSw; (try dsimp only at hSw); first | (go_simp; done) | (go_simp; with_reducible rfl)
    (try simp only [Act.put, List.setIfInBounds_toArray, List.set_cons_zero, List.set_cons_succ])
    refine wpAnyH_take (i := 2) (oi := { dst := some 35, op := Go.Op.move (Go.Operand.tmp 10), type := 4, pos := _, after := #[], guard := none }) (v := ?v2) rfl (by kernel_rfl) (by kernel_rfl) (by kernel_rfl) (fun _ _ _ h => h) (Or.inl ⟨by kernel_rfl, ?hy2⟩) (by assumption) ?_
    case hy2 => intro w hSw; (try dsimp only at hSw); first | (go_simp; done) | (go_simp; with_reducible rfl)
    (try simp only [Act.put, List.setIfInBounds_toArray, List.set_cons_zero, List.set_cons_succ])
    refine wpAnyH_ready (rs := [1]) (by kernel_rfl) (by simp) ?_
    refine AllReadyH.cons (o := { dst := some 34, op := Go.Op.call { callee := Go.Callee.value (Go.Operand.func 13), args := #[Go.Operand.tmp 33], argTypes := #[29] }, type := 4, pos := _, after := #[{ on := 0, ground := Go.Ground.data }], guard := none }) rfl (fun K hK => ?_) AllReadyH.nil
    go_simp
    (go_at_call 13; refine (right_any R0 C0 a0 len0 cap0 _).mono ?_; rintro e w5_ ⟨rfl, g5⟩; rw [HR.out]; have Z_5 := Lib.hid (Z_4d.out.grow g5); have Bxb_5 := Lib.hid (Bxb_4d.out.grow g5); have Byb_5 := Lib.hid (Byb_4d.out.grow g5); have Bwb_5 := Lib.hid (Bwb_4d.out.grow g5); have HM_5 := Lib.hid (HM_4d.out.grow g5); have HG_5 := Lib.hid (HG_4d.out.trans g5))
    (try go_wp2_with fail)
    refine hK.out _ _ ?hS4 (fun hHeld => ?_)
    case hS4 => (try dsimp only); exact keep_h12 g5 (by assumption)
    clear hK K
    (try simp only [Act.put, List.setIfInBounds_toArray, List.set_cons_zero, List.set_cons_succ])
    refine wpAnyH_take (i := 3) (oi := { dst := some 36, op := Go.Op.binOp Go.BinOp.neq 4 (Go.Operand.tmp 34) (Go.Operand.tmp 35) 4, type := 4, pos := _, after := #[{ on := 1, ground := Go.Ground.data }, { on := 2, ground := Go.Ground.data }], guard := none }) (v := ?v5) rfl (by kernel_rfl) (by kernel_rfl) (by kernel_rfl) (fun _ _ _ h => h) (Or.inl ⟨by kernel_rfl, ?hy5⟩) (by assumption) ?_
    case hy5 => intro w hSw; (try dsimp only at hSw); first | (go_simp; done) | (go_simp; with_reducible rfl)
    (try simp only [Act.put, List.setIfInBounds_toArray, List.set_cons_zero, List.set_cons_succ])
    refine wpAnyH_take (i := 4) (oi := { dst := some 37, op := Go.Op.move (Go.Operand.tmp 36), type := 4, pos := _, after := #[{ on := 3, ground := Go.Ground.data }, { on := 1, ground := Go.Ground.chain }], guard := none }) (v := ?v6) rfl (by kernel_rfl) (by kernel_rfl) (by kernel_rfl) (fun _ _ _ h => h) (Or.inl ⟨by kernel_rfl, ?hy6⟩) (by assumption) ?_
    case hy6 => intro w hSw; (try dsimp only at hSw); first | (go_simp; done) | (go_simp; with_reducible rfl)
    (try simp only [Act.put, List.setIfInBounds_toArray, List.set_cons_zero, List.set_cons_succ])
    refine wpAnyH_take (i := 5) (oi := { dst := some 38, op := Go.Op.move (Go.Operand.tmp 9), type := 4, pos := _, after := #[{ on := 4, ground := Go.Ground.guard }], guard := some (4, false) }) (v := ?v7) rfl (by kernel_rfl) (by kernel_rfl) (by kernel_rfl) (fun _ _ _ h => h) (Or.inl ⟨by kernel_rfl, ?hy7⟩) (by assumption) ?_
    case hy7 => intro w hSw; (try dsimp only at hSw); first | (go_simp; done) | (go_simp; with_reducible rfl)
    (try simp only [Act.put, List.setIfInBounds_toArray, List.set_cons_zero, List.set_cons_succ])
    refine wpAnyH_take (i := 6) (oi := { dst := some 39, op := Go.Op.move (Go.Operand.tmp 10), type := 4, pos := _, after := #[{ on := 4, ground := Go.Ground.guard }], guard := some (4, false) }) (v := ?v8) rfl (by kernel_rfl) (by kernel_rfl) (by kernel_rfl) (fun _ _ _ h => h) (Or.inl ⟨by kernel_rfl, ?hy8⟩) (by assumption) ?_
    case hy8 => intro w hSw; (try dsimp only at hSw); first | (go_simp; done) | (go_simp; with_reducible rfl)
    (try simp only [Act.put, List.setIfInBounds_toArray, List.set_cons_zero, List.set_cons_succ])
    refine wpAnyH_take (i := 7) (oi := { dst := some 40, op := Go.Op.binOp Go.BinOp.neq 4 (Go.Operand.tmp 38) (Go.Operand.tmp 39) 4, type := 4, pos := _, after := #[{ on := 5, ground := Go.Ground.data }, { on := 6, ground := Go.Ground.data }, { on := 4, ground := Go.Ground.guard }], guard := some (4, false) }) (v := ?v9) rfl (by kernel_rfl) (by kernel_rfl) (by kernel_rfl) (fun _ _ _ h => h) (Or.inl ⟨by kernel_rfl, ?hy9⟩) (by assumption) ?_
    case hy9 => intro w hSw; (try dsimp only at hSw); first | (go_simp; done) | (go_simp; with_reducible rfl)
    (try simp only [Act.put, List.setIfInBounds_toArray, List.set_cons_zero, List.set_cons_succ])
    refine wpAnyH_take (i := 8) (oi := { dst := some 41, op := Go.Op.pick (Go.Operand.tmp 37) (Go.Operand.const (Go.Value.bool true)) (Go.Operand.tmp 40), type := 4, pos := _, after := #[{ on := 4, ground := Go.Ground.data }, { on := 7, ground := Go.Ground.data }], guard := none }) (v := ?v10) rfl (by kernel_rfl) (by kernel_rfl) (by kernel_rfl) (fun _ _ _ h => h) (Or.inl ⟨by kernel_rfl, ?hy10⟩) (by assumption) ?_
    case hy10 => intro w hSw; (try dsimp only at hSw); first | (go_simp; done) | (go_simp; with_reducible rfl)
    (try simp only [Act.put, List.setIfInBounds_toArray, List.set_cons_zero, List.set_cons_succ])
    refine wpAnyH_take (i := 9) (oi := { dst := some 42, op := Go.Op.move (Go.Operand.tmp 41), type := 4, pos := _, after := #[{ on := 8, ground := Go.Ground.data }, { on := 4, ground := Go.Ground.chain }], guard := none }) (v := ?v11) rfl (by kernel_rfl) (by kernel_rfl) (by kernel_rfl) (fun _ _ _ h => h) (Or.inl ⟨by kernel_rfl, ?hy11⟩) (by assumption) ?_
    case hy11 => intro w hSw; (try dsimp only at hSw); first | (go_simp; done) | (go_simp; with_reducible rfl)
    (try simp only [Act.put, List.setIfInBounds_toArray, List.set_cons_zero, List.set_cons_succ])
    refine wpAnyH_take (i := 10) (oi := { dst := some 43, op := Go.Op.load 29 (Go.Operand.tmp 8), type := 29, pos := _, after := #[{ on := 9, ground := Go.Ground.guard }], guard := some (9, false) }) (v := ?v12) rfl (by kernel_rfl) (by kernel_rfl) (by kernel_rfl) (fun _ _ _ h => h) (Or.inl ⟨by kernel_rfl, ?hy12⟩) (by assumption) ?_
    case hy12 => intro w hSw; (try dsimp only at hSw); first | (go_simp; done) | (go_simp; with_reducible rfl)
    (try simp only [Act.put, List.setIfInBounds_toArray, List.set_cons_zero, List.set_cons_succ])
    refine wpAnyH_take (i := 12) (oi := { dst := some 45, op := Go.Op.load 24 (Go.Operand.tmp 11), type := 24, pos := _, after := #[{ on := 9, ground := Go.Ground.guard }], guard := some (9, false) }) (v := ?v13) rfl (by kernel_rfl) (by kernel_rfl) (by kernel_rfl) (fun _ _ _ h => h) (Or.inl ⟨by kernel_rfl, ?hy13⟩) (by assumption) ?_
    case hy13 => intro w hSw; (try dsimp only at hSw); first | (go_simp; done) | (go_simp; with_reducible rfl)
    (try simp only [Act.put, List.setIfInBounds_toArray, List.set_cons_zero, List.set_cons_succ])
    refine wpAnyH_ready (rs := [11]) (by kernel_rfl) (by simp) ?_
    refine AllReadyH.cons (o := { dst := some 44, op := Go.Op.call { callee := Go.Callee.value (Go.Operand.func 15), args := #[Go.Operand.tmp 43], argTypes := #[29] }, type := 24, pos := _, after := #[{ on := 10, ground := Go.Ground.data }, { on := 9, ground := Go.Ground.chain }, { on := 9, ground := Go.Ground.guard }], guard := some (9, false) }) rfl (fun K hK => ?_) AllReadyH.nil
    go_simp
    (go_at_call 15; refine (back_any _ _ _ _ _ _).mono ?_; rintro e w6_ ⟨rfl, g6⟩; have Z_6 := Lib.hid (Z_5.out.grow g6); have Bxb_6 := Lib.hid (Bxb_5.out.grow g6); have Byb_6 := Lib.hid (Byb_5.out.grow g6); have Bwb_6 := Lib.hid (Bwb_5.out.grow g6); have HM_6 := Lib.hid (HM_5.out.grow g6); have HG_6 := Lib.hid (HG_5.out.trans g6))
    (try go_wp2_with fail)
    refine hK.out _ _ ?hS15 (fun hHeld => ?_)
    case hS15 => (try dsimp only); exact keep_h12 g6 (by assumption)
    clear hK K
    (try simp only [Act.put, List.setIfInBounds_toArray, List.set_cons_zero, List.set_cons_succ])
    refine wpAnyH_ready (rs := [13]) (by kernel_rfl) (by simp) ?_
    refine AllReadyH.cons (o := { dst := some 46, op := Go.Op.call { callee := Go.Callee.value (Go.Operand.func 14), args := #[Go.Operand.tmp 44, Go.Operand.tmp 45], argTypes := #[24, 24] }, type := 4, pos := _, after := #[{ on := 11, ground := Go.Ground.data }, { on := 12, ground := Go.Ground.data }, { on := 11, ground := Go.Ground.chain }, { on := 9, ground := Go.Ground.guard }], guard := some (9, false) }) rfl (fun K hK => ?_) AllReadyH.nil
    go_simp
    (go_at_call 14; refine (msame_seen Seen.none Seen.none).mono ?_; rintro e w7_ ⟨rfl, g7⟩; have Z_7 := Lib.hid (Z_6.out.grow g7); have Bxb_7 := Lib.hid (Bxb_6.out.grow g7); have Byb_7 := Lib.hid (Byb_6.out.grow g7); have Bwb_7 := Lib.hid (Bwb_6.out.grow g7); have HM_7 := Lib.hid (HM_6.out.grow g7); have HG_7 := Lib.hid (HG_6.out.trans g7))
    (try go_wp2_with fail)
    refine hK.out _ _ ?hS17 (fun hHeld => ?_)
    case hS17 => (try dsimp only); exact keep_h12 g7 (by assumption)
    clear hK K
    (try simp only [Act.put, List.setIfInBounds_toArray, List.set_cons_zero, List.set_cons_succ])
    refine wpAnyH_take (i := 14) (oi := { dst := some 47, op := Go.Op.unOp Go.UnOp.not 4 (Go.Operand.tmp 46), type := 4, pos := _, after := #[{ on := 13, ground := Go.Ground.data }, { on := 9, ground := Go.Ground.guard }], guard := some (9, false) }) (v := ?v18) rfl (by kernel_rfl) (by kernel_rfl) (by kernel_rfl) (fun _ _ _ h => h) (Or.inl ⟨by kernel_rfl, ?hy18⟩) (by assumption) ?_
    case hy18 => intro w hSw; (try dsimp only at hSw); first | (go_simp; done) | (go_simp; with_reducible rfl)
    (try simp only [Act.put, List.setIfInBounds_toArray, List.set_cons_zero, List.set_cons_succ])
    refine wpAnyH_take (i := 15) (oi := { dst := some 48, op := Go.Op.pick (Go.Operand.tmp 42) (Go.Operand.const (Go.Value.bool true)) (Go.Operand.tmp 47), type := 4, pos := _, after := #[{ on := 9, ground := Go.Ground.data }, { on := 14, ground := Go.Ground.data }], guard := none }) (v := ?v19) rfl (by kernel_rfl) (by kernel_rfl) (by kernel_rfl) (fun _ _ _ h => h) (Or.inl ⟨by kernel_rfl, ?hy19⟩) (by assumption) ?_
    case hy19 => intro w hSw; (try dsimp only at hSw); first | (go_simp; done) | (go_simp; with_reducible rfl)
    (try simp only [Act.put, List.setIfInBounds_toArray, List.set_cons_zero, List.set_cons_succ])
    refine wpAnyH_take (i := 16) (oi := { dst := some 49, op := Go.Op.move (Go.Operand.tmp 48), type := 4, pos := _, after := #[{ on := 15, ground := Go.Ground.data }, { on := 13, ground := Go.Ground.chain }], guard := none }) (v := ?v20) rfl (by kernel_rfl) (by kernel_rfl) (by kernel_rfl) (fun _ _ _ h => h) (Or.inl ⟨by kernel_rfl, ?hy20⟩) (by assumption) ?_
    case hy20 => intro w hSw; (try dsimp only at hSw); first | (go_simp; done) | (go_simp; with_reducible rfl)
    (try simp only [Act.put, List.setIfInBounds_toArray, List.set_cons_zero, List.set_cons_succ])
    refine wpAnyH_take (i := 17) (oi := { dst := some 50, op := Go.Op.load 29 (Go.Operand.tmp 7), type := 29, pos := _, after := #[{ on := 16, ground := Go.Ground.guard }], guard := some (16, false) }) (v := ?v21) rfl (by kernel_rfl) (by kernel_rfl) (by kernel_rfl) (fun _ _ _ h => h) (Or.inl ⟨by kernel_rfl, ?hy21⟩) (by assumption) ?_
    case hy21 => intro w hSw; (try dsimp only at hSw); first | (go_simp; done) | (go_simp; with_reducible rfl)
    (try simp only [Act.put, List.setIfInBounds_toArray, List.set_cons_zero, List.set_cons_succ])
    refine wpAnyH_take (i := 18) (oi := { dst := some 51, op := Go.Op.move (Go.Operand.tmp 1), type := 3, pos := _, after := #[{ on := 16, ground := Go.Ground.guard }], guard := some (16, false) }) (v := ?v22) rfl (by kernel_rfl) (by kernel_rfl) (by kernel_rfl) (fun _ _ _ h => h) (Or.inl ⟨by kernel_rfl, ?hy22⟩) (by assumption) ?_
    case hy22 => intro w hSw; (try dsimp only at hSw); first | (go_simp; done) | (go_simp; with_reducible rfl)
    (try simp only [Act.put, List.setIfInBounds_toArray, List.set_cons_zero, List.set_cons_succ])
    refine wpAnyH_take (i := 19) (oi := { dst := some 52, op := Go.Op.move (Go.Operand.tmp 2), type := 3, pos := _, after := #[{ on := 16, ground := Go.Ground.guard }], guard := some (16, false) }) (v := ?v23) rfl (by kernel_rfl) (by kernel_rfl) (by kernel_rfl) (fun _ _ _ h => h) (Or.inl ⟨by kernel_rfl, ?hy23⟩) (by assumption) ?_
    case hy23 => intro w hSw; (try dsimp only at hSw); first | (go_simp; done) | (go_simp; with_reducible rfl)
    (try simp only [Act.put, List.setIfInBounds_toArray, List.set_cons_zero, List.set_cons_succ])
    refine wpAnyH_take (i := 21) (oi := { dst := some 54, op := Go.Op.load 24 (Go.Operand.tmp 3), type := 24, pos := _, after := #[{ on := 16, ground := Go.Ground.guard }], guard := some (16, false) }) (v := ?v24) rfl (by kernel_rfl) (by kernel_rfl) (by kernel_rfl) (fun _ _ _ h => h) (Or.inl ⟨by kernel_rfl, ?hy24⟩) (by assumption) ?_
    case hy24 => intro w hSw; (try dsimp only at hSw); first | (go_simp; done) | (go_simp; with_reducible rfl)
    (try simp only [Act.put, List.setIfInBounds_toArray, List.set_cons_zero, List.set_cons_succ])
    refine wpAnyH_take (i := 22) (oi := { dst := some 55, op := Go.Op.move (Go.Operand.tmp 1), type := 3, pos := _, after := #[{ on := 16, ground := Go.Ground.guard }], guard := some (16, false) }) (v := ?v25) rfl (by kernel_rfl) (by kernel_rfl) (by kernel_rfl) (fun _ _ _ h => h) (Or.inl ⟨by kernel_rfl, ?hy25⟩) (by assumption) ?_
    case hy25 => intro w hSw; (try dsimp only at hSw); first | (go_simp; done) | (go_simp; with_reducible rfl)
    (try simp only [Act.put, List.setIfInBounds_toArray, List.set_cons_zero, List.set_cons_succ])
    refine wpAnyH_take (i := 23) (oi := { dst := some 56, op := Go.Op.move (Go.Operand.tmp 2), type := 3, pos := _, after := #[{ on := 16, ground := Go.Ground.guard }], guard := some (16, false) }) (v := ?v26) rfl (by kernel_rfl) (by kernel_rfl) (by kernel_rfl) (fun _ _ _ h => h) (Or.inl ⟨by kernel_rfl, ?hy26⟩) (by assumption) ?_
    case hy26 => intro w hSw; (try dsimp only at hSw); first | (go_simp; done) | (go_simp; with_reducible rfl)
    (try simp only [Act.put, List.setIfInBounds_toArray, List.set_cons_zero, List.set_cons_succ])
    refine wpAnyH_ready (rs := [20]) (by kernel_rfl) (by simp) ?_
    refine AllReadyH.cons (o := { dst := some 53, op := Go.Op.call { callee := Go.Callee.value (Go.Operand.func 16), args := #[Go.Operand.tmp 50, Go.Operand.tmp 51, Go.Operand.tmp 52], argTypes := #[29, 3, 3] }, type := 2, pos := _, after := #[{ on := 17, ground := Go.Ground.data }, { on := 18, ground := Go.Ground.data }, { on := 19, ground := Go.Ground.data }, { on := 16, ground := Go.Ground.chain }, { on := 16, ground := Go.Ground.guard }], guard := some (16, false) }) rfl (fun K hK => ?_) AllReadyH.nil
    go_simp
    (go_at_call 16; refine (at_all Z_7.out).mono ?_; rintro e w8_ ⟨rfl, g8⟩; rw [HAV.out]; have Z_8 := Lib.hid (Z_7.out.grow g8); have Bxb_8 := Lib.hid (Bxb_7.out.grow g8); have Byb_8 := Lib.hid (Byb_7.out.grow g8); have Bwb_8 := Lib.hid (Bwb_7.out.grow g8); have HM_8 := Lib.hid (HM_7.out.grow g8); have HG_8 := Lib.hid (HG_7.out.trans g8))
    (try go_wp2_with fail)
    refine hK.out _ _ ?hS28 (fun hHeld => ?_)
    case hS28 => (try dsimp only); exact keep_h12 g8 (by assumption)
    clear hK K
    (try simp only [Act.put, List.setIfInBounds_toArray, List.set_cons_zero, List.set_cons_succ])
    refine wpAnyH_ready (rs := [24]) (by kernel_rfl) (by simp) ?_
    refine AllReadyH.cons (o := { dst := some 57, op := Go.Op.call { callee := Go.Callee.value (Go.Operand.func 17), args := #[Go.Operand.tmp 54, Go.Operand.tmp 55, Go.Operand.tmp 56], argTypes := #[24, 3, 3] }, type := 2, pos := _, after := #[{ on := 21, ground := Go.Ground.data }, { on := 22, ground := Go.Ground.data }, { on := 23, ground := Go.Ground.data }, { on := 20, ground := Go.Ground.chain }, { on := 16, ground := Go.Ground.guard }], guard := some (16, false) }) rfl (fun K hK => ?_) AllReadyH.nil
    go_simp
    (go_at_call 17; refine (rat_all Z_8.out).mono ?_; rintro e w9_ ⟨rfl, g9⟩; rw [HAV.out]; have Z_9 := Lib.hid (Z_8.out.grow g9); have Bxb_9 := Lib.hid (Bxb_8.out.grow g9); have Byb_9 := Lib.hid (Byb_8.out.grow g9); have Bwb_9 := Lib.hid (Bwb_8.out.grow g9); have HM_9 := Lib.hid (HM_8.out.grow g9); have HG_9 := Lib.hid (HG_8.out.trans g9))
    (try go_wp2_with fail)
    refine hK.out _ _ ?hS30 (fun hHeld => ?_)
    case hS30 => (try dsimp only); exact keep_h12 g9 (by assumption)
    clear hK K
    (try simp only [Act.put, List.setIfInBounds_toArray, List.set_cons_zero, List.set_cons_succ])
    refine wpAnyH_take (i := 25) (oi := { dst := some 58, op := Go.Op.binOp Go.BinOp.neq 2 (Go.Operand.tmp 53) (Go.Operand.tmp 57) 2, type := 4, pos := _, after := #[{ on := 20, ground := Go.Ground.data }, { on := 24, ground := Go.Ground.data }, { on := 16, ground := Go.Ground.guard }], guard := some (16, false) }) (v := ?v31) rfl (by kernel_rfl) (by kernel_rfl) (by kernel_rfl) (fun _ _ _ h => h) (Or.inl ⟨by kernel_rfl, ?hy31⟩) (by assumption) ?_
    case hy31 => intro w hSw; (try dsimp only at hSw); first | (go_simp; done) | (go_simp; with_reducible rfl)
    (try simp only [Act.put, List.setIfInBounds_toArray, List.set_cons_zero, List.set_cons_succ])
    refine wpAnyH_take (i := 26) (oi := { dst := some 59, op := Go.Op.pick (Go.Operand.tmp 49) (Go.Operand.const (Go.Value.bool true)) (Go.Operand.tmp 58), type := 4, pos := _, after := #[{ on := 16, ground := Go.Ground.data }, { on := 25, ground := Go.Ground.data }], guard := none }) (v := ?v32) rfl (by kernel_rfl) (by kernel_rfl) (by kernel_rfl) (fun _ _ _ h => h) (Or.inl ⟨by kernel_rfl, ?hy32⟩) (by assumption) ?_
    case hy32 => intro w hSw; (try dsimp only at hSw); first | (go_simp; done) | (go_simp; with_reducible rfl)
    (try simp only [Act.put, List.setIfInBounds_toArray, List.set_cons_zero, List.set_cons_succ])
    refine wpAnyH_done (by kernel_rfl) ?_ _
    clear hHeld
    have m0_9 := HM_9.out.c0
    have m1_9 := HM_9.out.c1
    have m2_9 := HM_9.out.c2
    have hl_9 := HM_9.out.lt
    have b0xb_9 := Bxb_9.out.c0
    have b1xb_9 := Bxb_9.out.c1
    have b2xb_9 := Bxb_9.out.c2
    have blxb_9 := Bxb_9.out.lt
    have b0yb_9 := Byb_9.out.c0
    have b1yb_9 := Byb_9.out.c1
    have b2yb_9 := Byb_9.out.c2
    have blyb_9 := Byb_9.out.lt
    have b0wb_9 := Bwb_9.out.c0
    have b1wb_9 := Bwb_9.out.c1
    have b2wb_9 := Bwb_9.out.c2
    have blwb_9 := Bwb_9.out.lt
    go_wp2_with fail
    have gD : Grew w9_ w9_.drew := Grew.drew' (Grew.refl _)
    have Z_9d := Lib.hid (Z_9.out.grow gD)
    have Bxb_9d := Lib.hid (Bxb_9.out.grow gD)
    have Byb_9d := Lib.hid (Byb_9.out.grow gD)
    have Bwb_9d := Lib.hid (Bwb_9.out.grow gD)
    have HM_9d := Lib.hid (HM_9.out.grow gD)
    have HG_9d := Lib.hid (HG_9.out.trans gD)
    refine wp_region_held_drew (S := (fun W' => Grew w9_ W' ∧ W'.cell? ⟨w.heap.size, 0, none⟩ = some (.int .i64 R0) ∧ W'.cell? ⟨w.heap.size, 1, none⟩ = some (.int .i64 C0) ∧ W'.cell? ⟨w.heap.size, 2, none⟩ = some (.slice a0 len0 cap0))) (by kernel_rfl) ⟨Grew.drew' (Grew.refl _), HM_9.out.c0, HM_9.out.c1, HM_9.out.c2⟩ (fun hHeld => ?_)
    refine wpAnyH_ready (rs := [0]) (by kernel_rfl) (by simp) ?_
    refine AllReadyH.cons (o := { dst := some 69, op := Go.Op.call { callee := Go.Callee.value (Go.Operand.func 9), args := #[], argTypes := #[] }, type := 4, pos := _, after := #[], guard := none }) rfl (fun K hK => ?_) AllReadyH.nil
    go_simp
    (go_at_call 9; refine (malive_any _).mono ?_; rintro e w10_ ⟨rfl, g10⟩; have Z_10 := Lib.hid (Z_9d.out.grow g10); have Bxb_10 := Lib.hid (Bxb_9d.out.grow g10); have Byb_10 := Lib.hid (Byb_9d.out.grow g10); have Bwb_10 := Lib.hid (Bwb_9d.out.grow g10); have HM_10 := Lib.hid (HM_9d.out.grow g10); have HG_10 := Lib.hid (HG_9d.out.trans g10))
    (try go_wp2_with fail)
    refine hK.out _ _ ?hS34 (fun hHeld => ?_)
    case hS34 => (try dsimp only); exact keep_h3 g10 (by assumption)
    clear hK K
    (try simp only [Act.put, List.setIfInBounds_toArray, List.set_cons_zero, List.set_cons_succ])
    refine wpAnyH_take (i := 1) (oi := { dst := some 70, op := Go.Op.move (Go.Operand.tmp 69), type := 4, pos := _, after := #[{ on := 0, ground := Go.Ground.data }, { on := 0, ground := Go.Ground.chain }], guard := none }) (v := ?v35) rfl (by kernel_rfl) (by kernel_rfl) (by kernel_rfl) (fun _ _ _ h => h) (Or.inl ⟨by kernel_rfl, ?hy35⟩) (by assumption) ?_
    case hy35 => intro w hSw; (try dsimp only at hSw); first | (go_simp; done) | (go_simp; with_reducible rfl)
    (try simp only [Act.put, List.setIfInBounds_toArray, List.set_cons_zero, List.set_cons_succ])
    refine wpAnyH_take (i := 2) (oi := { dst := some 71, op := Go.Op.fieldAddr 24 (Go.Operand.tmp 3) 0, type := 0, pos := _, after := #[{ on := 1, ground := Go.Ground.guard }], guard := some (1, true) }) (v := ?v36) rfl (by kernel_rfl) (by kernel_rfl) (by kernel_rfl) (fun _ _ _ h => h) (Or.inl ⟨by kernel_rfl, ?hy36⟩) (by assumption) ?_
    case hy36 => intro w hSw; (try dsimp only at hSw); first | (go_simp; done) | (go_simp; with_reducible rfl)
    (try simp only [Act.put, List.setIfInBounds_toArray, List.set_cons_zero, List.set_cons_succ])
    refine wpAnyH_take (i := 3) (oi := { dst := some 72, op := Go.Op.load 3 (Go.Operand.tmp 71), type := 3, pos := _, after := #[{ on := 2, ground := Go.Ground.data }, { on := 1, ground := Go.Ground.guard }], guard := some (1, true) }) (v := ?v37) rfl (by kernel_rfl) (by kernel_rfl) (by kernel_rfl) (fun _ _ _ h => h) (Or.inl ⟨by kernel_rfl, ?hy37⟩) (by assumption) ?_
    case hy37 => intro w hSw; (try dsimp only at hSw); first | (go_simp; done) | (go_simp; with_reducible rfl)
    (try simp only [Act.put, List.setIfInBounds_toArray, List.set_cons_zero, List.set_cons_succ])
    refine wpAnyH_take (i := 4) (oi := { dst := some 73, op := Go.Op.fieldAddr 24 (Go.Operand.tmp 3) 1, type := 0, pos := _, after := #[{ on := 1, ground := Go.Ground.guard }], guard := some (1, true) }) (v := ?v38) rfl (by kernel_rfl) (by kernel_rfl) (by kernel_rfl) (fun _ _ _ h => h) (Or.inl ⟨by kernel_rfl, ?hy38⟩) (by assumption) ?_
    case hy38 => intro w hSw; (try dsimp only at hSw); first | (go_simp; done) | (go_simp; with_reducible rfl)
    (try simp only [Act.put, List.setIfInBounds_toArray, List.set_cons_zero, List.set_cons_succ])
    refine wpAnyH_take (i := 5) (oi := { dst := some 74, op := Go.Op.load 3 (Go.Operand.tmp 73), type := 3, pos := _, after := #[{ on := 4, ground := Go.Ground.data }, { on := 1, ground := Go.Ground.guard }], guard := some (1, true) }) (v := ?v39) rfl (by kernel_rfl) (by kernel_rfl) (by kernel_rfl) (fun _ _ _ h => h) (Or.inl ⟨by kernel_rfl, ?hy39⟩) (by assumption) ?_
    case hy39 => intro w hSw; (try dsimp only at hSw); first | (go_simp; done) | (go_simp; with_reducible rfl)
    (try simp only [Act.put, List.setIfInBounds_toArray, List.set_cons_zero, List.set_cons_succ])
    refine wpAnyH_take (i := 8) (oi := { dst := some 77, op := Go.Op.fieldAddr 24 (Go.Operand.tmp 3) 0, type := 0, pos := _, after := #[{ on := 1, ground := Go.Ground.guard }], guard := some (1, true) }) (v := ?v40) rfl (by kernel_rfl) (by kernel_rfl) (by kernel_rfl) (fun _ _ _ h => h) (Or.inl ⟨by kernel_rfl, ?hy40⟩) (by assumption) ?_
    case hy40 => intro w hSw; (try dsimp only at hSw); first | (go_simp; done) | (go_simp; with_reducible rfl)
    (try simp only [Act.put, List.setIfInBounds_toArray, List.set_cons_zero, List.set_cons_succ])
    refine wpAnyH_take (i := 9) (oi := { dst := some 78, op := Go.Op.load 3 (Go.Operand.tmp 77), type := 3, pos := _, after := #[{ on := 8, ground := Go.Ground.data }, { on := 1, ground := Go.Ground.guard }], guard := some (1, true) }) (v := ?v41) rfl (by kernel_rfl) (by kernel_rfl) (by kernel_rfl) (fun _ _ _ h => h) (Or.inl ⟨by kernel_rfl, ?hy41⟩) (by assumption) ?_
    case hy41 => intro w hSw; (try dsimp only at hSw); first | (go_simp; done) | (go_simp; with_reducible rfl)
    (try simp only [Act.put, List.setIfInBounds_toArray, List.set_cons_zero, List.set_cons_succ])
    refine wpAnyH_take (i := 10) (oi := { dst := some 79, op := Go.Op.fieldAddr 24 (Go.Operand.tmp 3) 1, type := 0, pos := _, after := #[{ on := 1, ground := Go.Ground.guard }], guard := some (1, true) }) (v := ?v42) rfl (by kernel_rfl) (by kernel_rfl) (by kernel_rfl) (fun _ _ _ h => h) (Or.inl ⟨by kernel_rfl, ?hy42⟩) (by assumption) ?_
    case hy42 => intro w hSw; (try dsimp only at hSw); first | (go_simp; done) | (go_simp; with_reducible rfl)
    (try simp only [Act.put, List.setIfInBounds_toArray, List.set_cons_zero, List.set_cons_succ])
    refine wpAnyH_take (i := 11) (oi := { dst := some 80, op := Go.Op.load 3 (Go.Operand.tmp 79), type := 3, pos := _, after := #[{ on := 10, ground := Go.Ground.data }, { on := 1, ground := Go.Ground.guard }], guard := some (1, true) }) (v := ?v43) rfl (by kernel_rfl) (by kernel_rfl) (by kernel_rfl) (fun _ _ _ h => h) (Or.inl ⟨by kernel_rfl, ?hy43⟩) (by assumption) ?_
    case hy43 => intro w hSw; (try dsimp only at hSw); first | (go_simp; done) | (go_simp; with_reducible rfl)
    (try simp only [Act.put, List.setIfInBounds_toArray, List.set_cons_zero, List.set_cons_succ])
    refine wpAnyH_ready (rs := [6]) (by kernel_rfl) (by simp) ?_
    refine AllReadyH.cons (o := { dst := some 75, op := Go.Op.call { callee := Go.Callee.value (Go.Operand.func 18), args := #[Go.Operand.tmp 72, Go.Operand.tmp 74], argTypes := #[3, 3] }, type := 29, pos := _, after := #[{ on := 3, ground := Go.Ground.data }, { on := 5, ground := Go.Ground.data }, { on := 1, ground := Go.Ground.chain }, { on := 1, ground := Go.Ground.guard }], guard := some (1, true) }) rfl (fun K hK => ?_) AllReadyH.nil
    go_simp
    (go_at_call 18; refine (new_all (R := R0) (C := C0) (by omega) (by omega)).mono ?_; rintro e w11_ ⟨⟨s5, n5, c5, rfl, hs⟩, g11⟩; have N := Lib.hid hs; have Z_11 := Lib.hid (Z_10.out.grow g11); have Bxb_11 := Lib.hid (Bxb_10.out.grow g11); have Byb_11 := Lib.hid (Byb_10.out.grow g11); have Bwb_11 := Lib.hid (Bwb_10.out.grow g11); have HM_11 := Lib.hid (HM_10.out.grow g11); have HG_11 := Lib.hid (HG_10.out.trans g11); clear hs)
    (try go_wp2_with fail)
    refine hK.out _ _ ?hS45 (fun hHeld => ?_)
    case hS45 => (try dsimp only); exact keep_h3 g11 (by assumption)
    clear hK K
    (try simp only [Act.put, List.setIfInBounds_toArray, List.set_cons_zero, List.set_cons_succ])
    refine wpAnyH_ready (rs := [7]) (by kernel_rfl) (by simp) ?_
    refine AllReadyH.cons (o := { dst := some 76, op := Go.Op.call { callee := Go.Callee.value (Go.Operand.func 15), args := #[Go.Operand.tmp 75], argTypes := #[29] }, type := 24, pos := _, after := #[{ on := 6, ground := Go.Ground.data }, { on := 6, ground := Go.Ground.chain }, { on := 1, ground := Go.Ground.guard }], guard := some (1, true) }) rfl (fun K hK => ?_) AllReadyH.nil
    go_simp
    (go_at_call 15; refine (back_any _ _ _ _ _ _).mono ?_; rintro e w12_ ⟨rfl, g12⟩; have Z_12 := Lib.hid (Z_11.out.grow g12); have N_12 := Lib.hid (N.out.grow g12); have Bxb_12 := Lib.hid (Bxb_11.out.grow g12); have Byb_12 := Lib.hid (Byb_11.out.grow g12); have Bwb_12 := Lib.hid (Bwb_11.out.grow g12); have HM_12 := Lib.hid (HM_11.out.grow g12); have HG_12 := Lib.hid (HG_11.out.trans g12))
    (try go_wp2_with fail)
    refine hK.out _ _ ?hS47 (fun hHeld => ?_)
    case hS47 => (try dsimp only); exact keep_h3 g12 (by assumption)
    clear hK K
    (try simp only [Act.put, List.setIfInBounds_toArray, List.set_cons_zero, List.set_cons_succ])
    refine wpAnyH_ready (rs := [12]) (by kernel_rfl) (by simp) ?_
    refine AllReadyH.cons (o := { dst := some 81, op := Go.Op.call { callee := Go.Callee.value (Go.Operand.func 19), args := #[Go.Operand.tmp 78, Go.Operand.tmp 80], argTypes := #[3, 3] }, type := 24, pos := _, after := #[{ on := 9, ground := Go.Ground.data }, { on := 11, ground := Go.Ground.data }, { on := 7, ground := Go.Ground.chain }, { on := 1, ground := Go.Ground.guard }], guard := some (1, true) }) rfl (fun K hK => ?_) AllReadyH.nil
    go_simp
    (go_at_call 19; refine (rnew_all (R := R0) (C := C0) (by omega) (by omega)).mono ?_; rintro e w13_ ⟨⟨s6, n6, c6, rfl, hs⟩, g13⟩; have P := Lib.hid hs; have Z_13 := Lib.hid (Z_12.out.grow g13); have N_13 := Lib.hid (N_12.out.grow g13); have Bxb_13 := Lib.hid (Bxb_12.out.grow g13); have Byb_13 := Lib.hid (Byb_12.out.grow g13); have Bwb_13 := Lib.hid (Bwb_12.out.grow g13); have HM_13 := Lib.hid (HM_12.out.grow g13); have HG_13 := Lib.hid (HG_12.out.trans g13); clear hs)
    (try go_wp2_with fail)
    refine hK.out _ _ ?hS49 (fun hHeld => ?_)
    case hS49 => (try dsimp only); exact keep_h3 g13 (by assumption)
    clear hK K
    (try simp only [Act.put, List.setIfInBounds_toArray, List.set_cons_zero, List.set_cons_succ])
    refine wpAnyH_ready (rs := [13]) (by kernel_rfl) (by simp) ?_
    refine AllReadyH.cons (o := { dst := some 82, op := Go.Op.call { callee := Go.Callee.value (Go.Operand.func 14), args := #[Go.Operand.tmp 76, Go.Operand.tmp 81], argTypes := #[24, 24] }, type := 4, pos := _, after := #[{ on := 7, ground := Go.Ground.data }, { on := 12, ground := Go.Ground.data }, { on := 12, ground := Go.Ground.chain }, { on := 1, ground := Go.Ground.guard }], guard := some (1, true) }) rfl (fun K hK => ?_) AllReadyH.nil
    go_simp
    (go_at_call 14; refine (msame_seen N_13.out P.out).mono ?_; rintro e w14_ ⟨rfl, g14⟩; have Z_14 := Lib.hid (Z_13.out.grow g14); have N_14 := Lib.hid (N_13.out.grow g14); have P_14 := Lib.hid (P.out.grow g14); have Bxb_14 := Lib.hid (Bxb_13.out.grow g14); have Byb_14 := Lib.hid (Byb_13.out.grow g14); have Bwb_14 := Lib.hid (Bwb_13.out.grow g14); have HM_14 := Lib.hid (HM_13.out.grow g14); have HG_14 := Lib.hid (HG_13.out.trans g14))
    (try go_wp2_with fail)
    refine hK.out _ _ ?hS51 (fun hHeld => ?_)
    case hS51 => (try dsimp only); exact keep_h3 g14 (by assumption)
    clear hK K
    (try simp only [Act.put, List.setIfInBounds_toArray, List.set_cons_zero, List.set_cons_succ])
    refine wpAnyH_take (i := 14) (oi := { dst := some 83, op := Go.Op.pick (Go.Operand.tmp 70) (Go.Operand.tmp 82) (Go.Operand.const (Go.Value.bool false)), type := 4, pos := _, after := #[{ on := 1, ground := Go.Ground.data }, { on := 13, ground := Go.Ground.data }], guard := none }) (v := ?v52) rfl (by kernel_rfl) (by kernel_rfl) (by kernel_rfl) (fun _ _ _ h => h) (Or.inl ⟨by kernel_rfl, ?hy52⟩) (by assumption) ?_
    case hy52 => intro w hSw; (try dsimp only at hSw); first | (go_simp; done) | (go_simp; with_reducible rfl)
    (try simp only [Act.put, List.setIfInBounds_toArray, List.set_cons_zero, List.set_cons_succ])
    refine wpAnyH_take (i := 15) (oi := { dst := some 6, op := Go.Op.assign (Go.Operand.tmp 83), type := 4, pos := _, after := #[{ on := 14, ground := Go.Ground.data }, { on := 13, ground := Go.Ground.chain }, { on := 0, ground := Go.Ground.phase }, { on := 1, ground := Go.Ground.phase }, { on := 2, ground := Go.Ground.phase }, { on := 3, ground := Go.Ground.phase }, { on := 4, ground := Go.Ground.phase }, { on := 5, ground := Go.Ground.phase }, { on := 6, ground := Go.Ground.phase }, { on := 7, ground := Go.Ground.phase }, { on := 8, ground := Go.Ground.phase }, { on := 9, ground := Go.Ground.phase }, { on := 10, ground := Go.Ground.phase }, { on := 11, ground := Go.Ground.phase }, { on := 12, ground := Go.Ground.phase }, { on := 13, ground := Go.Ground.phase }, { on := 14, ground := Go.Ground.phase }], guard := none }) (v := ?v53) rfl (by kernel_rfl) (by kernel_rfl) (by kernel_rfl) (fun _ _ _ h => h) (Or.inl ⟨by kernel_rfl, ?hy53⟩) (by assumption) ?_
    case hy53 => intro w hSw; (try dsimp only at hSw); first | (go_simp; done) | (go_simp; with_reducible rfl)
    (try simp only [Act.put, List.setIfInBounds_toArray, List.set_cons_zero, List.set_cons_succ])
    refine wpAnyH_done (by kernel_rfl) ?_ _
    clear hHeld
    have m0_14 := HM_14.out.c0
    have m1_14 := HM_14.out.c1
    have m2_14 := HM_14.out.c2
    have hl_14 := HM_14.out.lt
    have b0xb_14 := Bxb_14.out.c0
    have b1xb_14 := Bxb_14.out.c1
    have b2xb_14 := Bxb_14.out.c2
    have blxb_14 := Bxb_14.out.lt
    have b0yb_14 := Byb_14.out.c0
    have b1yb_14 := Byb_14.out.c1
    have b2yb_14 := Byb_14.out.c2
    have blyb_14 := Byb_14.out.lt
    have b0wb_14 := Bwb_14.out.c0
    have b1wb_14 := Bwb_14.out.c1
    have b2wb_14 := Bwb_14.out.c2
    have blwb_14 := Bwb_14.out.lt
    go_wp2
    go_ret
    exact ⟨rfl, HG_14.out⟩

set_option maxRecDepth 100000 in
set_option maxHeartbeats 4000000 in
theorem way_false1 (R0 C0 : Int) (a0 : Option Addr) (len0 cap0 : Nat) (zs0 : List Int) (a1 a2 : Int) (w : World) (hA : ¬ 600 < len0) (h0 : Seen w a0 len0 cap0 zs0) (hR : rightB R0 C0 len0 = false) (hB : 50 < R0) :
    Calls Try.prog 3 #[.agg #[.int .i64 R0, .int .i64 C0, .slice a0 len0 cap0], .int .i64 a1, .int .i64 a2] w fun e w' => e = .returned (.bool true) ∧ Below w.heap.size w w' := by

    have HG0 : Hid (Grew w (w.alloc (.cells #[.int .i64 R0, .int .i64 C0, .slice a0 len0 cap0] 24))) := Lib.hid ((Grew.refl w).alloc _)
    have HM0 := Lib.hid (Three.new w 24 (.int .i64 R0) (.int .i64 C0) (.slice a0 len0 cap0))

    have HZ0 := Lib.hid h0
    have HR := Lib.hid hR
    clear h0 hR
    go_enter Try.func3, Try.ntmps3
    have Z0 := Lib.hid (HZ0.out.grow HG0.out)
    obtain ⟨av, hav⟩ : ∃ av, atV zs0 R0 C0 a1 a2 = av := ⟨_, rfl⟩
    have HAV := Lib.hid hav
    have hne : (av != av) = false := bne_self_eq_false av
    clear hav
    go_wp2_with fail
    refine (few_any R0 C0 a0 len0 cap0 _).mono ?_
    rintro e w1_ ⟨rfl, g1⟩
    have Z_1 := Lib.hid (Z0.out.grow g1)
    have HG_1 := Lib.hid (HG0.out.trans g1)
    have HM_1 := Lib.hid (HM0.out.grow g1)
    have m0_1 := HM_1.out.c0
    have m1_1 := HM_1.out.c1
    have m2_1 := HM_1.out.c2
    have hl_1 := HM_1.out.lt
    clear g1
    rw [decide_eq_true (by omega)]
    go_wp2_with fail
    refine (given_any R0 C0 a0 len0 cap0 _).mono ?_
    rintro e w2_ ⟨rfl, g2⟩
    have Z_2 := Lib.hid (Z_1.out.grow g2)
    have HG_2 := Lib.hid (HG_1.out.trans g2)
    have HM_2 := Lib.hid (HM_1.out.grow g2)
    clear m0_1 m1_1 m2_1 hl_1
    have m0_2 := HM_2.out.c0
    have m1_2 := HM_2.out.c1
    have m2_2 := HM_2.out.c2
    have hl_2 := HM_2.out.lt
    clear g2
    go_wp2_with fail
    have gA : Grew w2_ (w2_.alloc (.cells #[.int .i64 R0, .int .i64 C0, .slice a0 len0 cap0] 29)) := (Grew.refl _).alloc _
    have Hxb := Lib.hid (Three.new w2_ 29 (.int .i64 R0) (.int .i64 C0) (.slice a0 len0 cap0))
    have Z_2a := Lib.hid (Z_2.out.grow gA)
    have HG_2a := Lib.hid (HG_2.out.trans gA)
    have HM_2a := Lib.hid (HM_2.out.grow gA)
    clear m0_2 m1_2 m2_2 hl_2
    clear gA
    generalize w2_.alloc (.cells #[.int .i64 R0, .int .i64 C0, .slice a0 len0 cap0] 29) = w2a_ at *
    generalize w2_.heap.size = xb at *
    refine (of_no _ HR.out).mono ?_
    rintro e w3_ ⟨rfl, g3⟩
    have Z_3 := Lib.hid (Z_2a.out.grow g3)
    have HG_3 := Lib.hid (HG_2a.out.trans g3)
    have HM_3 := Lib.hid (HM_2a.out.grow g3)
    have m0_3 := HM_3.out.c0
    have m1_3 := HM_3.out.c1
    have m2_3 := HM_3.out.c2
    have hl_3 := HM_3.out.lt
    have xb_3 := Lib.hid (Hxb.out.grow g3)
    have b0xb_3 := xb_3.out.c0
    have b1xb_3 := xb_3.out.c1
    have b2xb_3 := xb_3.out.c2
    have blxb_3 := xb_3.out.lt
    clear g3
    go_wp2_with fail
    have gA : Grew w3_ (w3_.alloc (.cells #[.int .i64 0, .int .i64 0, .slice none 0 0] 29)) := (Grew.refl _).alloc _
    have Hyb := Lib.hid (Three.new w3_ 29 (.int .i64 0) (.int .i64 0) (.slice none 0 0))
    have Z_3a := Lib.hid (Z_3.out.grow gA)
    have Bxb_3a := Lib.hid (xb_3.out.grow gA)
    clear b0xb_3 b1xb_3 b2xb_3 blxb_3
    have HG_3a := Lib.hid (HG_3.out.trans gA)
    have HM_3a := Lib.hid (HM_3.out.grow gA)
    clear m0_3 m1_3 m2_3 hl_3
    clear gA
    generalize w3_.alloc (.cells #[.int .i64 0, .int .i64 0, .slice none 0 0] 29) = w3a_ at *
    generalize w3_.heap.size = yb at *
    refine (rright_any R0 C0 a0 len0 cap0 _ (by omega)).mono ?_
    rintro e w4_ ⟨rfl, g4⟩
    have Z_4 := Lib.hid (Z_3a.out.grow g4)
    have HG_4 := Lib.hid (HG_3a.out.trans g4)
    have HM_4 := Lib.hid (HM_3a.out.grow g4)
    have m0_4 := HM_4.out.c0
    have m1_4 := HM_4.out.c1
    have m2_4 := HM_4.out.c2
    have hl_4 := HM_4.out.lt
    have xb_4 := Lib.hid (Bxb_3a.out.grow g4)
    have b0xb_4 := xb_4.out.c0
    have b1xb_4 := xb_4.out.c1
    have b2xb_4 := xb_4.out.c2
    have blxb_4 := xb_4.out.lt
    have yb_4 := Lib.hid (Hyb.out.grow g4)
    have b0yb_4 := yb_4.out.c0
    have b1yb_4 := yb_4.out.c1
    have b2yb_4 := yb_4.out.c2
    have blyb_4 := yb_4.out.lt
    clear g4
    rw [HR.out]
    go_wp2_with fail
    have gA : Grew w4_ (w4_.alloc (.cells #[.int .i64 0, .int .i64 0, .slice none 0 0] 24)) := (Grew.refl _).alloc _
    have Hwb := Lib.hid (Three.new w4_ 24 (.int .i64 0) (.int .i64 0) (.slice none 0 0))
    have Z_4a := Lib.hid (Z_4.out.grow gA)
    have Bxb_4a := Lib.hid (xb_4.out.grow gA)
    clear b0xb_4 b1xb_4 b2xb_4 blxb_4
    have Byb_4a := Lib.hid (yb_4.out.grow gA)
    clear b0yb_4 b1yb_4 b2yb_4 blyb_4
    have HG_4a := Lib.hid (HG_4.out.trans gA)
    have HM_4a := Lib.hid (HM_4.out.grow gA)
    clear m0_4 m1_4 m2_4 hl_4
    clear gA
    generalize w4_.alloc (.cells #[.int .i64 0, .int .i64 0, .slice none 0 0] 24) = w4a_ at *
    generalize w4_.heap.size = wb at *
    have gD : Grew w4a_ w4a_.drew := Grew.drew' (Grew.refl _)
    have Z_4d := Lib.hid (Z_4a.out.grow gD)
    have Bxb_4d := Lib.hid (Bxb_4a.out.grow gD)
    have Byb_4d := Lib.hid (Byb_4a.out.grow gD)
    have Bwb_4d := Lib.hid (Hwb.out.grow gD)
    have HM_4d := Lib.hid (HM_4a.out.grow gD)
    have HG_4d := Lib.hid (HG_4a.out.trans gD)
    refine wp_region_held_drew (S := (fun W' => Grew w4a_ W' ∧ W'.cell? ⟨xb, 0, none⟩ = some (.int .i64 R0) ∧ W'.cell? ⟨xb, 1, none⟩ = some (.int .i64 C0) ∧ W'.cell? ⟨xb, 2, none⟩ = some (.slice a0 len0 cap0) ∧ W'.cell? ⟨yb, 0, none⟩ = some (.int .i64 0) ∧ W'.cell? ⟨yb, 1, none⟩ = some (.int .i64 0) ∧ W'.cell? ⟨yb, 2, none⟩ = some (.slice none 0 0) ∧ W'.cell? ⟨wb, 0, none⟩ = some (.int .i64 0) ∧ W'.cell? ⟨wb, 1, none⟩ = some (.int .i64 0) ∧ W'.cell? ⟨wb, 2, none⟩ = some (.slice none 0 0) ∧ W'.cell? ⟨w.heap.size, 0, none⟩ = some (.int .i64 R0) ∧ W'.cell? ⟨w.heap.size, 1, none⟩ = some (.int .i64 C0) ∧ W'.cell? ⟨w.heap.size, 2, none⟩ = some (.slice a0 len0 cap0))) (by kernel_rfl) ⟨Grew.drew' (Grew.refl _), Bxb_4a.out.c0, Bxb_4a.out.c1, Bxb_4a.out.c2, Byb_4a.out.c0, Byb_4a.out.c1, Byb_4a.out.c2, Hwb.out.c0, Hwb.out.c1, Hwb.out.c2, HM_4a.out.c0, HM_4a.out.c1, HM_4a.out.c2⟩ (fun hHeld => ?_)
    refine wpAnyH_take (i := 0) (oi := { dst := some 33, op := Go.Op.load 29 (Go.Operand.tmp 7), type := 29, pos := _, after := #[], guard := none }) (v := ?v54) rfl (by kernel_rfl) (by kernel_rfl) (by kernel_rfl) (fun _ _ _ h => h) (Or.inl ⟨by kernel_rfl, ?hy54⟩) (by assumption) ?_
    case hy54 => intro w hSw; (try dsimp only at hSw); first | (go_simp; done) | (go_simp; with_reducible rfl)
    (try simp only [Act.put, List.setIfInBounds_toArray, List.set_cons_zero, List.set_cons_succ])
    refine wpAnyH_take (i := 2) (oi := { dst := some 35, op := Go.Op.move (Go.Operand.tmp 10), type := 4, pos := _, after := #[], guard := none }) (v := ?v55) rfl (by kernel_rfl) (by kernel_rfl) (by kernel_rfl) (fun _ _ _ h => h) (Or.inl ⟨by kernel_rfl, ?hy55⟩) (by assumption) ?_
    case hy55 => intro w hSw; (try dsimp only at hSw); first | (go_simp; done) | (go_simp; with_reducible rfl)
    (try simp only [Act.put, List.setIfInBounds_toArray, List.set_cons_zero, List.set_cons_succ])
    refine wpAnyH_ready (rs := [1]) (by kernel_rfl) (by simp) ?_
    refine AllReadyH.cons (o := { dst := some 34, op := Go.Op.call { callee := Go.Callee.value (Go.Operand.func 13), args := #[Go.Operand.tmp 33], argTypes := #[29] }, type := 4, pos := _, after := #[{ on := 0, ground := Go.Ground.data }], guard := none }) rfl (fun K hK => ?_) AllReadyH.nil
    go_simp
    (go_at_call 13; refine (right_any R0 C0 a0 len0 cap0 _).mono ?_; rintro e w5_ ⟨rfl, g5⟩; rw [HR.out]; have Z_5 := Lib.hid (Z_4d.out.grow g5); have Bxb_5 := Lib.hid (Bxb_4d.out.grow g5); have Byb_5 := Lib.hid (Byb_4d.out.grow g5); have Bwb_5 := Lib.hid (Bwb_4d.out.grow g5); have HM_5 := Lib.hid (HM_4d.out.grow g5); have HG_5 := Lib.hid (HG_4d.out.trans g5))
    (try go_wp2_with fail)
    refine hK.out _ _ ?hS57 (fun hHeld => ?_)
    case hS57 => (try dsimp only); exact keep_h12 g5 (by assumption)
    clear hK K
    (try simp only [Act.put, List.setIfInBounds_toArray, List.set_cons_zero, List.set_cons_succ])
    refine wpAnyH_take (i := 3) (oi := { dst := some 36, op := Go.Op.binOp Go.BinOp.neq 4 (Go.Operand.tmp 34) (Go.Operand.tmp 35) 4, type := 4, pos := _, after := #[{ on := 1, ground := Go.Ground.data }, { on := 2, ground := Go.Ground.data }], guard := none }) (v := ?v58) rfl (by kernel_rfl) (by kernel_rfl) (by kernel_rfl) (fun _ _ _ h => h) (Or.inl ⟨by kernel_rfl, ?hy58⟩) (by assumption) ?_
    case hy58 => intro w hSw; (try dsimp only at hSw); first | (go_simp; done) | (go_simp; with_reducible rfl)
    (try simp only [Act.put, List.setIfInBounds_toArray, List.set_cons_zero, List.set_cons_succ])
    refine wpAnyH_take (i := 4) (oi := { dst := some 37, op := Go.Op.move (Go.Operand.tmp 36), type := 4, pos := _, after := #[{ on := 3, ground := Go.Ground.data }, { on := 1, ground := Go.Ground.chain }], guard := none }) (v := ?v59) rfl (by kernel_rfl) (by kernel_rfl) (by kernel_rfl) (fun _ _ _ h => h) (Or.inl ⟨by kernel_rfl, ?hy59⟩) (by assumption) ?_
    case hy59 => intro w hSw; (try dsimp only at hSw); first | (go_simp; done) | (go_simp; with_reducible rfl)
    (try simp only [Act.put, List.setIfInBounds_toArray, List.set_cons_zero, List.set_cons_succ])
    refine wpAnyH_take (i := 5) (oi := { dst := some 38, op := Go.Op.move (Go.Operand.tmp 9), type := 4, pos := _, after := #[{ on := 4, ground := Go.Ground.guard }], guard := some (4, false) }) (v := ?v60) rfl (by kernel_rfl) (by kernel_rfl) (by kernel_rfl) (fun _ _ _ h => h) (Or.inl ⟨by kernel_rfl, ?hy60⟩) (by assumption) ?_
    case hy60 => intro w hSw; (try dsimp only at hSw); first | (go_simp; done) | (go_simp; with_reducible rfl)
    (try simp only [Act.put, List.setIfInBounds_toArray, List.set_cons_zero, List.set_cons_succ])
    refine wpAnyH_take (i := 6) (oi := { dst := some 39, op := Go.Op.move (Go.Operand.tmp 10), type := 4, pos := _, after := #[{ on := 4, ground := Go.Ground.guard }], guard := some (4, false) }) (v := ?v61) rfl (by kernel_rfl) (by kernel_rfl) (by kernel_rfl) (fun _ _ _ h => h) (Or.inl ⟨by kernel_rfl, ?hy61⟩) (by assumption) ?_
    case hy61 => intro w hSw; (try dsimp only at hSw); first | (go_simp; done) | (go_simp; with_reducible rfl)
    (try simp only [Act.put, List.setIfInBounds_toArray, List.set_cons_zero, List.set_cons_succ])
    refine wpAnyH_take (i := 7) (oi := { dst := some 40, op := Go.Op.binOp Go.BinOp.neq 4 (Go.Operand.tmp 38) (Go.Operand.tmp 39) 4, type := 4, pos := _, after := #[{ on := 5, ground := Go.Ground.data }, { on := 6, ground := Go.Ground.data }, { on := 4, ground := Go.Ground.guard }], guard := some (4, false) }) (v := ?v62) rfl (by kernel_rfl) (by kernel_rfl) (by kernel_rfl) (fun _ _ _ h => h) (Or.inl ⟨by kernel_rfl, ?hy62⟩) (by assumption) ?_
    case hy62 => intro w hSw; (try dsimp only at hSw); first | (go_simp; done) | (go_simp; with_reducible rfl)
    (try simp only [Act.put, List.setIfInBounds_toArray, List.set_cons_zero, List.set_cons_succ])
    refine wpAnyH_take (i := 8) (oi := { dst := some 41, op := Go.Op.pick (Go.Operand.tmp 37) (Go.Operand.const (Go.Value.bool true)) (Go.Operand.tmp 40), type := 4, pos := _, after := #[{ on := 4, ground := Go.Ground.data }, { on := 7, ground := Go.Ground.data }], guard := none }) (v := ?v63) rfl (by kernel_rfl) (by kernel_rfl) (by kernel_rfl) (fun _ _ _ h => h) (Or.inl ⟨by kernel_rfl, ?hy63⟩) (by assumption) ?_
    case hy63 => intro w hSw; (try dsimp only at hSw); first | (go_simp; done) | (go_simp; with_reducible rfl)
    (try simp only [Act.put, List.setIfInBounds_toArray, List.set_cons_zero, List.set_cons_succ])
    refine wpAnyH_take (i := 9) (oi := { dst := some 42, op := Go.Op.move (Go.Operand.tmp 41), type := 4, pos := _, after := #[{ on := 8, ground := Go.Ground.data }, { on := 4, ground := Go.Ground.chain }], guard := none }) (v := ?v64) rfl (by kernel_rfl) (by kernel_rfl) (by kernel_rfl) (fun _ _ _ h => h) (Or.inl ⟨by kernel_rfl, ?hy64⟩) (by assumption) ?_
    case hy64 => intro w hSw; (try dsimp only at hSw); first | (go_simp; done) | (go_simp; with_reducible rfl)
    (try simp only [Act.put, List.setIfInBounds_toArray, List.set_cons_zero, List.set_cons_succ])
    refine wpAnyH_take (i := 10) (oi := { dst := some 43, op := Go.Op.load 29 (Go.Operand.tmp 8), type := 29, pos := _, after := #[{ on := 9, ground := Go.Ground.guard }], guard := some (9, false) }) (v := ?v65) rfl (by kernel_rfl) (by kernel_rfl) (by kernel_rfl) (fun _ _ _ h => h) (Or.inl ⟨by kernel_rfl, ?hy65⟩) (by assumption) ?_
    case hy65 => intro w hSw; (try dsimp only at hSw); first | (go_simp; done) | (go_simp; with_reducible rfl)
    (try simp only [Act.put, List.setIfInBounds_toArray, List.set_cons_zero, List.set_cons_succ])
    refine wpAnyH_take (i := 12) (oi := { dst := some 45, op := Go.Op.load 24 (Go.Operand.tmp 11), type := 24, pos := _, after := #[{ on := 9, ground := Go.Ground.guard }], guard := some (9, false) }) (v := ?v66) rfl (by kernel_rfl) (by kernel_rfl) (by kernel_rfl) (fun _ _ _ h => h) (Or.inl ⟨by kernel_rfl, ?hy66⟩) (by assumption) ?_
    case hy66 => intro w hSw; (try dsimp only at hSw); first | (go_simp; done) | (go_simp; with_reducible rfl)
    (try simp only [Act.put, List.setIfInBounds_toArray, List.set_cons_zero, List.set_cons_succ])
    refine wpAnyH_ready (rs := [11]) (by kernel_rfl) (by simp) ?_
    refine AllReadyH.cons (o := { dst := some 44, op := Go.Op.call { callee := Go.Callee.value (Go.Operand.func 15), args := #[Go.Operand.tmp 43], argTypes := #[29] }, type := 24, pos := _, after := #[{ on := 10, ground := Go.Ground.data }, { on := 9, ground := Go.Ground.chain }, { on := 9, ground := Go.Ground.guard }], guard := some (9, false) }) rfl (fun K hK => ?_) AllReadyH.nil
    go_simp
    (go_at_call 15; refine (back_any _ _ _ _ _ _).mono ?_; rintro e w6_ ⟨rfl, g6⟩; have Z_6 := Lib.hid (Z_5.out.grow g6); have Bxb_6 := Lib.hid (Bxb_5.out.grow g6); have Byb_6 := Lib.hid (Byb_5.out.grow g6); have Bwb_6 := Lib.hid (Bwb_5.out.grow g6); have HM_6 := Lib.hid (HM_5.out.grow g6); have HG_6 := Lib.hid (HG_5.out.trans g6))
    (try go_wp2_with fail)
    refine hK.out _ _ ?hS68 (fun hHeld => ?_)
    case hS68 => (try dsimp only); exact keep_h12 g6 (by assumption)
    clear hK K
    (try simp only [Act.put, List.setIfInBounds_toArray, List.set_cons_zero, List.set_cons_succ])
    refine wpAnyH_ready (rs := [13]) (by kernel_rfl) (by simp) ?_
    refine AllReadyH.cons (o := { dst := some 46, op := Go.Op.call { callee := Go.Callee.value (Go.Operand.func 14), args := #[Go.Operand.tmp 44, Go.Operand.tmp 45], argTypes := #[24, 24] }, type := 4, pos := _, after := #[{ on := 11, ground := Go.Ground.data }, { on := 12, ground := Go.Ground.data }, { on := 11, ground := Go.Ground.chain }, { on := 9, ground := Go.Ground.guard }], guard := some (9, false) }) rfl (fun K hK => ?_) AllReadyH.nil
    go_simp
    (go_at_call 14; refine (msame_seen Seen.none Seen.none).mono ?_; rintro e w7_ ⟨rfl, g7⟩; have Z_7 := Lib.hid (Z_6.out.grow g7); have Bxb_7 := Lib.hid (Bxb_6.out.grow g7); have Byb_7 := Lib.hid (Byb_6.out.grow g7); have Bwb_7 := Lib.hid (Bwb_6.out.grow g7); have HM_7 := Lib.hid (HM_6.out.grow g7); have HG_7 := Lib.hid (HG_6.out.trans g7))
    (try go_wp2_with fail)
    refine hK.out _ _ ?hS70 (fun hHeld => ?_)
    case hS70 => (try dsimp only); exact keep_h12 g7 (by assumption)
    clear hK K
    (try simp only [Act.put, List.setIfInBounds_toArray, List.set_cons_zero, List.set_cons_succ])
    refine wpAnyH_take (i := 14) (oi := { dst := some 47, op := Go.Op.unOp Go.UnOp.not 4 (Go.Operand.tmp 46), type := 4, pos := _, after := #[{ on := 13, ground := Go.Ground.data }, { on := 9, ground := Go.Ground.guard }], guard := some (9, false) }) (v := ?v71) rfl (by kernel_rfl) (by kernel_rfl) (by kernel_rfl) (fun _ _ _ h => h) (Or.inl ⟨by kernel_rfl, ?hy71⟩) (by assumption) ?_
    case hy71 => intro w hSw; (try dsimp only at hSw); first | (go_simp; done) | (go_simp; with_reducible rfl)
    (try simp only [Act.put, List.setIfInBounds_toArray, List.set_cons_zero, List.set_cons_succ])
    refine wpAnyH_take (i := 15) (oi := { dst := some 48, op := Go.Op.pick (Go.Operand.tmp 42) (Go.Operand.const (Go.Value.bool true)) (Go.Operand.tmp 47), type := 4, pos := _, after := #[{ on := 9, ground := Go.Ground.data }, { on := 14, ground := Go.Ground.data }], guard := none }) (v := ?v72) rfl (by kernel_rfl) (by kernel_rfl) (by kernel_rfl) (fun _ _ _ h => h) (Or.inl ⟨by kernel_rfl, ?hy72⟩) (by assumption) ?_
    case hy72 => intro w hSw; (try dsimp only at hSw); first | (go_simp; done) | (go_simp; with_reducible rfl)
    (try simp only [Act.put, List.setIfInBounds_toArray, List.set_cons_zero, List.set_cons_succ])
    refine wpAnyH_take (i := 16) (oi := { dst := some 49, op := Go.Op.move (Go.Operand.tmp 48), type := 4, pos := _, after := #[{ on := 15, ground := Go.Ground.data }, { on := 13, ground := Go.Ground.chain }], guard := none }) (v := ?v73) rfl (by kernel_rfl) (by kernel_rfl) (by kernel_rfl) (fun _ _ _ h => h) (Or.inl ⟨by kernel_rfl, ?hy73⟩) (by assumption) ?_
    case hy73 => intro w hSw; (try dsimp only at hSw); first | (go_simp; done) | (go_simp; with_reducible rfl)
    (try simp only [Act.put, List.setIfInBounds_toArray, List.set_cons_zero, List.set_cons_succ])
    refine wpAnyH_take (i := 17) (oi := { dst := some 50, op := Go.Op.load 29 (Go.Operand.tmp 7), type := 29, pos := _, after := #[{ on := 16, ground := Go.Ground.guard }], guard := some (16, false) }) (v := ?v74) rfl (by kernel_rfl) (by kernel_rfl) (by kernel_rfl) (fun _ _ _ h => h) (Or.inl ⟨by kernel_rfl, ?hy74⟩) (by assumption) ?_
    case hy74 => intro w hSw; (try dsimp only at hSw); first | (go_simp; done) | (go_simp; with_reducible rfl)
    (try simp only [Act.put, List.setIfInBounds_toArray, List.set_cons_zero, List.set_cons_succ])
    refine wpAnyH_take (i := 18) (oi := { dst := some 51, op := Go.Op.move (Go.Operand.tmp 1), type := 3, pos := _, after := #[{ on := 16, ground := Go.Ground.guard }], guard := some (16, false) }) (v := ?v75) rfl (by kernel_rfl) (by kernel_rfl) (by kernel_rfl) (fun _ _ _ h => h) (Or.inl ⟨by kernel_rfl, ?hy75⟩) (by assumption) ?_
    case hy75 => intro w hSw; (try dsimp only at hSw); first | (go_simp; done) | (go_simp; with_reducible rfl)
    (try simp only [Act.put, List.setIfInBounds_toArray, List.set_cons_zero, List.set_cons_succ])
    refine wpAnyH_take (i := 19) (oi := { dst := some 52, op := Go.Op.move (Go.Operand.tmp 2), type := 3, pos := _, after := #[{ on := 16, ground := Go.Ground.guard }], guard := some (16, false) }) (v := ?v76) rfl (by kernel_rfl) (by kernel_rfl) (by kernel_rfl) (fun _ _ _ h => h) (Or.inl ⟨by kernel_rfl, ?hy76⟩) (by assumption) ?_
    case hy76 => intro w hSw; (try dsimp only at hSw); first | (go_simp; done) | (go_simp; with_reducible rfl)
    (try simp only [Act.put, List.setIfInBounds_toArray, List.set_cons_zero, List.set_cons_succ])
    refine wpAnyH_take (i := 21) (oi := { dst := some 54, op := Go.Op.load 24 (Go.Operand.tmp 3), type := 24, pos := _, after := #[{ on := 16, ground := Go.Ground.guard }], guard := some (16, false) }) (v := ?v77) rfl (by kernel_rfl) (by kernel_rfl) (by kernel_rfl) (fun _ _ _ h => h) (Or.inl ⟨by kernel_rfl, ?hy77⟩) (by assumption) ?_
    case hy77 => intro w hSw; (try dsimp only at hSw); first | (go_simp; done) | (go_simp; with_reducible rfl)
    (try simp only [Act.put, List.setIfInBounds_toArray, List.set_cons_zero, List.set_cons_succ])
    refine wpAnyH_take (i := 22) (oi := { dst := some 55, op := Go.Op.move (Go.Operand.tmp 1), type := 3, pos := _, after := #[{ on := 16, ground := Go.Ground.guard }], guard := some (16, false) }) (v := ?v78) rfl (by kernel_rfl) (by kernel_rfl) (by kernel_rfl) (fun _ _ _ h => h) (Or.inl ⟨by kernel_rfl, ?hy78⟩) (by assumption) ?_
    case hy78 => intro w hSw; (try dsimp only at hSw); first | (go_simp; done) | (go_simp; with_reducible rfl)
    (try simp only [Act.put, List.setIfInBounds_toArray, List.set_cons_zero, List.set_cons_succ])
    refine wpAnyH_take (i := 23) (oi := { dst := some 56, op := Go.Op.move (Go.Operand.tmp 2), type := 3, pos := _, after := #[{ on := 16, ground := Go.Ground.guard }], guard := some (16, false) }) (v := ?v79) rfl (by kernel_rfl) (by kernel_rfl) (by kernel_rfl) (fun _ _ _ h => h) (Or.inl ⟨by kernel_rfl, ?hy79⟩) (by assumption) ?_
    case hy79 => intro w hSw; (try dsimp only at hSw); first | (go_simp; done) | (go_simp; with_reducible rfl)
    (try simp only [Act.put, List.setIfInBounds_toArray, List.set_cons_zero, List.set_cons_succ])
    refine wpAnyH_ready (rs := [20]) (by kernel_rfl) (by simp) ?_
    refine AllReadyH.cons (o := { dst := some 53, op := Go.Op.call { callee := Go.Callee.value (Go.Operand.func 16), args := #[Go.Operand.tmp 50, Go.Operand.tmp 51, Go.Operand.tmp 52], argTypes := #[29, 3, 3] }, type := 2, pos := _, after := #[{ on := 17, ground := Go.Ground.data }, { on := 18, ground := Go.Ground.data }, { on := 19, ground := Go.Ground.data }, { on := 16, ground := Go.Ground.chain }, { on := 16, ground := Go.Ground.guard }], guard := some (16, false) }) rfl (fun K hK => ?_) AllReadyH.nil
    go_simp
    (go_at_call 16; refine (at_all Z_7.out).mono ?_; rintro e w8_ ⟨rfl, g8⟩; rw [HAV.out]; have Z_8 := Lib.hid (Z_7.out.grow g8); have Bxb_8 := Lib.hid (Bxb_7.out.grow g8); have Byb_8 := Lib.hid (Byb_7.out.grow g8); have Bwb_8 := Lib.hid (Bwb_7.out.grow g8); have HM_8 := Lib.hid (HM_7.out.grow g8); have HG_8 := Lib.hid (HG_7.out.trans g8))
    (try go_wp2_with fail)
    refine hK.out _ _ ?hS81 (fun hHeld => ?_)
    case hS81 => (try dsimp only); exact keep_h12 g8 (by assumption)
    clear hK K
    (try simp only [Act.put, List.setIfInBounds_toArray, List.set_cons_zero, List.set_cons_succ])
    refine wpAnyH_ready (rs := [24]) (by kernel_rfl) (by simp) ?_
    refine AllReadyH.cons (o := { dst := some 57, op := Go.Op.call { callee := Go.Callee.value (Go.Operand.func 17), args := #[Go.Operand.tmp 54, Go.Operand.tmp 55, Go.Operand.tmp 56], argTypes := #[24, 3, 3] }, type := 2, pos := _, after := #[{ on := 21, ground := Go.Ground.data }, { on := 22, ground := Go.Ground.data }, { on := 23, ground := Go.Ground.data }, { on := 20, ground := Go.Ground.chain }, { on := 16, ground := Go.Ground.guard }], guard := some (16, false) }) rfl (fun K hK => ?_) AllReadyH.nil
    go_simp
    (go_at_call 17; refine (rat_all Z_8.out).mono ?_; rintro e w9_ ⟨rfl, g9⟩; rw [HAV.out]; have Z_9 := Lib.hid (Z_8.out.grow g9); have Bxb_9 := Lib.hid (Bxb_8.out.grow g9); have Byb_9 := Lib.hid (Byb_8.out.grow g9); have Bwb_9 := Lib.hid (Bwb_8.out.grow g9); have HM_9 := Lib.hid (HM_8.out.grow g9); have HG_9 := Lib.hid (HG_8.out.trans g9))
    (try go_wp2_with fail)
    refine hK.out _ _ ?hS83 (fun hHeld => ?_)
    case hS83 => (try dsimp only); exact keep_h12 g9 (by assumption)
    clear hK K
    (try simp only [Act.put, List.setIfInBounds_toArray, List.set_cons_zero, List.set_cons_succ])
    refine wpAnyH_take (i := 25) (oi := { dst := some 58, op := Go.Op.binOp Go.BinOp.neq 2 (Go.Operand.tmp 53) (Go.Operand.tmp 57) 2, type := 4, pos := _, after := #[{ on := 20, ground := Go.Ground.data }, { on := 24, ground := Go.Ground.data }, { on := 16, ground := Go.Ground.guard }], guard := some (16, false) }) (v := ?v84) rfl (by kernel_rfl) (by kernel_rfl) (by kernel_rfl) (fun _ _ _ h => h) (Or.inl ⟨by kernel_rfl, ?hy84⟩) (by assumption) ?_
    case hy84 => intro w hSw; (try dsimp only at hSw); first | (go_simp; done) | (go_simp; with_reducible rfl)
    (try simp only [Act.put, List.setIfInBounds_toArray, List.set_cons_zero, List.set_cons_succ])
    refine wpAnyH_take (i := 26) (oi := { dst := some 59, op := Go.Op.pick (Go.Operand.tmp 49) (Go.Operand.const (Go.Value.bool true)) (Go.Operand.tmp 58), type := 4, pos := _, after := #[{ on := 16, ground := Go.Ground.data }, { on := 25, ground := Go.Ground.data }], guard := none }) (v := ?v85) rfl (by kernel_rfl) (by kernel_rfl) (by kernel_rfl) (fun _ _ _ h => h) (Or.inl ⟨by kernel_rfl, ?hy85⟩) (by assumption) ?_
    case hy85 => intro w hSw; (try dsimp only at hSw); first | (go_simp; done) | (go_simp; with_reducible rfl)
    (try simp only [Act.put, List.setIfInBounds_toArray, List.set_cons_zero, List.set_cons_succ])
    refine wpAnyH_done (by kernel_rfl) ?_ _
    clear hHeld
    have m0_9 := HM_9.out.c0
    have m1_9 := HM_9.out.c1
    have m2_9 := HM_9.out.c2
    have hl_9 := HM_9.out.lt
    have b0xb_9 := Bxb_9.out.c0
    have b1xb_9 := Bxb_9.out.c1
    have b2xb_9 := Bxb_9.out.c2
    have blxb_9 := Bxb_9.out.lt
    have b0yb_9 := Byb_9.out.c0
    have b1yb_9 := Byb_9.out.c1
    have b2yb_9 := Byb_9.out.c2
    have blyb_9 := Byb_9.out.lt
    have b0wb_9 := Bwb_9.out.c0
    have b1wb_9 := Bwb_9.out.c1
    have b2wb_9 := Bwb_9.out.c2
    have blwb_9 := Bwb_9.out.lt
    go_wp2_with fail
    refine (malive_any _).mono ?_
    rintro e w10_ ⟨rfl, g10⟩
    have Z_10 := Lib.hid (Z_9.out.grow g10)
    have HG_10 := Lib.hid (HG_9.out.trans g10)
    have HM_10 := Lib.hid (HM_9.out.grow g10)
    clear m0_9 m1_9 m2_9 hl_9
    have m0_10 := HM_10.out.c0
    have m1_10 := HM_10.out.c1
    have m2_10 := HM_10.out.c2
    have hl_10 := HM_10.out.lt
    have xb_10 := Lib.hid (Bxb_9.out.grow g10)
    clear b0xb_9 b1xb_9 b2xb_9 blxb_9
    have b0xb_10 := xb_10.out.c0
    have b1xb_10 := xb_10.out.c1
    have b2xb_10 := xb_10.out.c2
    have blxb_10 := xb_10.out.lt
    have yb_10 := Lib.hid (Byb_9.out.grow g10)
    clear b0yb_9 b1yb_9 b2yb_9 blyb_9
    have b0yb_10 := yb_10.out.c0
    have b1yb_10 := yb_10.out.c1
    have b2yb_10 := yb_10.out.c2
    have blyb_10 := yb_10.out.lt
    have wb_10 := Lib.hid (Bwb_9.out.grow g10)
    clear b0wb_9 b1wb_9 b2wb_9 blwb_9
    have b0wb_10 := wb_10.out.c0
    have b1wb_10 := wb_10.out.c1
    have b2wb_10 := wb_10.out.c2
    have blwb_10 := wb_10.out.lt
    clear g10
    go_wp2
    go_ret
    exact ⟨rfl, HG_10.out⟩

set_option maxRecDepth 100000 in
set_option maxHeartbeats 4000000 in
theorem way_false2 (R0 C0 : Int) (a0 : Option Addr) (len0 cap0 : Nat) (zs0 : List Int) (a1 a2 : Int) (w : World) (hA : ¬ 600 < len0) (h0 : Seen w a0 len0 cap0 zs0) (hR : rightB R0 C0 len0 = false) (hB : R0 ≤ 50) (hC : 50 < C0) :
    Calls Try.prog 3 #[.agg #[.int .i64 R0, .int .i64 C0, .slice a0 len0 cap0], .int .i64 a1, .int .i64 a2] w fun e w' => e = .returned (.bool true) ∧ Below w.heap.size w w' := by

    have HG0 : Hid (Grew w (w.alloc (.cells #[.int .i64 R0, .int .i64 C0, .slice a0 len0 cap0] 24))) := Lib.hid ((Grew.refl w).alloc _)
    have HM0 := Lib.hid (Three.new w 24 (.int .i64 R0) (.int .i64 C0) (.slice a0 len0 cap0))

    have HZ0 := Lib.hid h0
    have HR := Lib.hid hR
    clear h0 hR
    go_enter Try.func3, Try.ntmps3
    have Z0 := Lib.hid (HZ0.out.grow HG0.out)
    obtain ⟨av, hav⟩ : ∃ av, atV zs0 R0 C0 a1 a2 = av := ⟨_, rfl⟩
    have HAV := Lib.hid hav
    have hne : (av != av) = false := bne_self_eq_false av
    clear hav
    go_wp2_with fail
    refine (few_any R0 C0 a0 len0 cap0 _).mono ?_
    rintro e w1_ ⟨rfl, g1⟩
    have Z_1 := Lib.hid (Z0.out.grow g1)
    have HG_1 := Lib.hid (HG0.out.trans g1)
    have HM_1 := Lib.hid (HM0.out.grow g1)
    have m0_1 := HM_1.out.c0
    have m1_1 := HM_1.out.c1
    have m2_1 := HM_1.out.c2
    have hl_1 := HM_1.out.lt
    clear g1
    rw [decide_eq_true (by omega)]
    go_wp2_with fail
    refine (given_any R0 C0 a0 len0 cap0 _).mono ?_
    rintro e w2_ ⟨rfl, g2⟩
    have Z_2 := Lib.hid (Z_1.out.grow g2)
    have HG_2 := Lib.hid (HG_1.out.trans g2)
    have HM_2 := Lib.hid (HM_1.out.grow g2)
    clear m0_1 m1_1 m2_1 hl_1
    have m0_2 := HM_2.out.c0
    have m1_2 := HM_2.out.c1
    have m2_2 := HM_2.out.c2
    have hl_2 := HM_2.out.lt
    clear g2
    go_wp2_with fail
    have gA : Grew w2_ (w2_.alloc (.cells #[.int .i64 R0, .int .i64 C0, .slice a0 len0 cap0] 29)) := (Grew.refl _).alloc _
    have Hxb := Lib.hid (Three.new w2_ 29 (.int .i64 R0) (.int .i64 C0) (.slice a0 len0 cap0))
    have Z_2a := Lib.hid (Z_2.out.grow gA)
    have HG_2a := Lib.hid (HG_2.out.trans gA)
    have HM_2a := Lib.hid (HM_2.out.grow gA)
    clear m0_2 m1_2 m2_2 hl_2
    clear gA
    generalize w2_.alloc (.cells #[.int .i64 R0, .int .i64 C0, .slice a0 len0 cap0] 29) = w2a_ at *
    generalize w2_.heap.size = xb at *
    refine (of_no _ HR.out).mono ?_
    rintro e w3_ ⟨rfl, g3⟩
    have Z_3 := Lib.hid (Z_2a.out.grow g3)
    have HG_3 := Lib.hid (HG_2a.out.trans g3)
    have HM_3 := Lib.hid (HM_2a.out.grow g3)
    have m0_3 := HM_3.out.c0
    have m1_3 := HM_3.out.c1
    have m2_3 := HM_3.out.c2
    have hl_3 := HM_3.out.lt
    have xb_3 := Lib.hid (Hxb.out.grow g3)
    have b0xb_3 := xb_3.out.c0
    have b1xb_3 := xb_3.out.c1
    have b2xb_3 := xb_3.out.c2
    have blxb_3 := xb_3.out.lt
    clear g3
    go_wp2_with fail
    have gA : Grew w3_ (w3_.alloc (.cells #[.int .i64 0, .int .i64 0, .slice none 0 0] 29)) := (Grew.refl _).alloc _
    have Hyb := Lib.hid (Three.new w3_ 29 (.int .i64 0) (.int .i64 0) (.slice none 0 0))
    have Z_3a := Lib.hid (Z_3.out.grow gA)
    have Bxb_3a := Lib.hid (xb_3.out.grow gA)
    clear b0xb_3 b1xb_3 b2xb_3 blxb_3
    have HG_3a := Lib.hid (HG_3.out.trans gA)
    have HM_3a := Lib.hid (HM_3.out.grow gA)
    clear m0_3 m1_3 m2_3 hl_3
    clear gA
    generalize w3_.alloc (.cells #[.int .i64 0, .int .i64 0, .slice none 0 0] 29) = w3a_ at *
    generalize w3_.heap.size = yb at *
    refine (rright_any R0 C0 a0 len0 cap0 _ (by omega)).mono ?_
    rintro e w4_ ⟨rfl, g4⟩
    have Z_4 := Lib.hid (Z_3a.out.grow g4)
    have HG_4 := Lib.hid (HG_3a.out.trans g4)
    have HM_4 := Lib.hid (HM_3a.out.grow g4)
    have m0_4 := HM_4.out.c0
    have m1_4 := HM_4.out.c1
    have m2_4 := HM_4.out.c2
    have hl_4 := HM_4.out.lt
    have xb_4 := Lib.hid (Bxb_3a.out.grow g4)
    have b0xb_4 := xb_4.out.c0
    have b1xb_4 := xb_4.out.c1
    have b2xb_4 := xb_4.out.c2
    have blxb_4 := xb_4.out.lt
    have yb_4 := Lib.hid (Hyb.out.grow g4)
    have b0yb_4 := yb_4.out.c0
    have b1yb_4 := yb_4.out.c1
    have b2yb_4 := yb_4.out.c2
    have blyb_4 := yb_4.out.lt
    clear g4
    rw [HR.out]
    go_wp2_with fail
    have gA : Grew w4_ (w4_.alloc (.cells #[.int .i64 0, .int .i64 0, .slice none 0 0] 24)) := (Grew.refl _).alloc _
    have Hwb := Lib.hid (Three.new w4_ 24 (.int .i64 0) (.int .i64 0) (.slice none 0 0))
    have Z_4a := Lib.hid (Z_4.out.grow gA)
    have Bxb_4a := Lib.hid (xb_4.out.grow gA)
    clear b0xb_4 b1xb_4 b2xb_4 blxb_4
    have Byb_4a := Lib.hid (yb_4.out.grow gA)
    clear b0yb_4 b1yb_4 b2yb_4 blyb_4
    have HG_4a := Lib.hid (HG_4.out.trans gA)
    have HM_4a := Lib.hid (HM_4.out.grow gA)
    clear m0_4 m1_4 m2_4 hl_4
    clear gA
    generalize w4_.alloc (.cells #[.int .i64 0, .int .i64 0, .slice none 0 0] 24) = w4a_ at *
    generalize w4_.heap.size = wb at *
    have gD : Grew w4a_ w4a_.drew := Grew.drew' (Grew.refl _)
    have Z_4d := Lib.hid (Z_4a.out.grow gD)
    have Bxb_4d := Lib.hid (Bxb_4a.out.grow gD)
    have Byb_4d := Lib.hid (Byb_4a.out.grow gD)
    have Bwb_4d := Lib.hid (Hwb.out.grow gD)
    have HM_4d := Lib.hid (HM_4a.out.grow gD)
    have HG_4d := Lib.hid (HG_4a.out.trans gD)
    refine wp_region_held_drew (S := (fun W' => Grew w4a_ W' ∧ W'.cell? ⟨xb, 0, none⟩ = some (.int .i64 R0) ∧ W'.cell? ⟨xb, 1, none⟩ = some (.int .i64 C0) ∧ W'.cell? ⟨xb, 2, none⟩ = some (.slice a0 len0 cap0) ∧ W'.cell? ⟨yb, 0, none⟩ = some (.int .i64 0) ∧ W'.cell? ⟨yb, 1, none⟩ = some (.int .i64 0) ∧ W'.cell? ⟨yb, 2, none⟩ = some (.slice none 0 0) ∧ W'.cell? ⟨wb, 0, none⟩ = some (.int .i64 0) ∧ W'.cell? ⟨wb, 1, none⟩ = some (.int .i64 0) ∧ W'.cell? ⟨wb, 2, none⟩ = some (.slice none 0 0) ∧ W'.cell? ⟨w.heap.size, 0, none⟩ = some (.int .i64 R0) ∧ W'.cell? ⟨w.heap.size, 1, none⟩ = some (.int .i64 C0) ∧ W'.cell? ⟨w.heap.size, 2, none⟩ = some (.slice a0 len0 cap0))) (by kernel_rfl) ⟨Grew.drew' (Grew.refl _), Bxb_4a.out.c0, Bxb_4a.out.c1, Bxb_4a.out.c2, Byb_4a.out.c0, Byb_4a.out.c1, Byb_4a.out.c2, Hwb.out.c0, Hwb.out.c1, Hwb.out.c2, HM_4a.out.c0, HM_4a.out.c1, HM_4a.out.c2⟩ (fun hHeld => ?_)
    refine wpAnyH_take (i := 0) (oi := { dst := some 33, op := Go.Op.load 29 (Go.Operand.tmp 7), type := 29, pos := _, after := #[], guard := none }) (v := ?v86) rfl (by kernel_rfl) (by kernel_rfl) (by kernel_rfl) (fun _ _ _ h => h) (Or.inl ⟨by kernel_rfl, ?hy86⟩) (by assumption) ?_
    case hy86 => intro w hSw; (try dsimp only at hSw); first | (go_simp; done) | (go_simp; with_reducible rfl)
    (try simp only [Act.put, List.setIfInBounds_toArray, List.set_cons_zero, List.set_cons_succ])
    refine wpAnyH_take (i := 2) (oi := { dst := some 35, op := Go.Op.move (Go.Operand.tmp 10), type := 4, pos := _, after := #[], guard := none }) (v := ?v87) rfl (by kernel_rfl) (by kernel_rfl) (by kernel_rfl) (fun _ _ _ h => h) (Or.inl ⟨by kernel_rfl, ?hy87⟩) (by assumption) ?_
    case hy87 => intro w hSw; (try dsimp only at hSw); first | (go_simp; done) | (go_simp; with_reducible rfl)
    (try simp only [Act.put, List.setIfInBounds_toArray, List.set_cons_zero, List.set_cons_succ])
    refine wpAnyH_ready (rs := [1]) (by kernel_rfl) (by simp) ?_
    refine AllReadyH.cons (o := { dst := some 34, op := Go.Op.call { callee := Go.Callee.value (Go.Operand.func 13), args := #[Go.Operand.tmp 33], argTypes := #[29] }, type := 4, pos := _, after := #[{ on := 0, ground := Go.Ground.data }], guard := none }) rfl (fun K hK => ?_) AllReadyH.nil
    go_simp
    (go_at_call 13; refine (right_any R0 C0 a0 len0 cap0 _).mono ?_; rintro e w5_ ⟨rfl, g5⟩; rw [HR.out]; have Z_5 := Lib.hid (Z_4d.out.grow g5); have Bxb_5 := Lib.hid (Bxb_4d.out.grow g5); have Byb_5 := Lib.hid (Byb_4d.out.grow g5); have Bwb_5 := Lib.hid (Bwb_4d.out.grow g5); have HM_5 := Lib.hid (HM_4d.out.grow g5); have HG_5 := Lib.hid (HG_4d.out.trans g5))
    (try go_wp2_with fail)
    refine hK.out _ _ ?hS89 (fun hHeld => ?_)
    case hS89 => (try dsimp only); exact keep_h12 g5 (by assumption)
    clear hK K
    (try simp only [Act.put, List.setIfInBounds_toArray, List.set_cons_zero, List.set_cons_succ])
    refine wpAnyH_take (i := 3) (oi := { dst := some 36, op := Go.Op.binOp Go.BinOp.neq 4 (Go.Operand.tmp 34) (Go.Operand.tmp 35) 4, type := 4, pos := _, after := #[{ on := 1, ground := Go.Ground.data }, { on := 2, ground := Go.Ground.data }], guard := none }) (v := ?v90) rfl (by kernel_rfl) (by kernel_rfl) (by kernel_rfl) (fun _ _ _ h => h) (Or.inl ⟨by kernel_rfl, ?hy90⟩) (by assumption) ?_
    case hy90 => intro w hSw; (try dsimp only at hSw); first | (go_simp; done) | (go_simp; with_reducible rfl)
    (try simp only [Act.put, List.setIfInBounds_toArray, List.set_cons_zero, List.set_cons_succ])
    refine wpAnyH_take (i := 4) (oi := { dst := some 37, op := Go.Op.move (Go.Operand.tmp 36), type := 4, pos := _, after := #[{ on := 3, ground := Go.Ground.data }, { on := 1, ground := Go.Ground.chain }], guard := none }) (v := ?v91) rfl (by kernel_rfl) (by kernel_rfl) (by kernel_rfl) (fun _ _ _ h => h) (Or.inl ⟨by kernel_rfl, ?hy91⟩) (by assumption) ?_
    case hy91 => intro w hSw; (try dsimp only at hSw); first | (go_simp; done) | (go_simp; with_reducible rfl)
    (try simp only [Act.put, List.setIfInBounds_toArray, List.set_cons_zero, List.set_cons_succ])
    refine wpAnyH_take (i := 5) (oi := { dst := some 38, op := Go.Op.move (Go.Operand.tmp 9), type := 4, pos := _, after := #[{ on := 4, ground := Go.Ground.guard }], guard := some (4, false) }) (v := ?v92) rfl (by kernel_rfl) (by kernel_rfl) (by kernel_rfl) (fun _ _ _ h => h) (Or.inl ⟨by kernel_rfl, ?hy92⟩) (by assumption) ?_
    case hy92 => intro w hSw; (try dsimp only at hSw); first | (go_simp; done) | (go_simp; with_reducible rfl)
    (try simp only [Act.put, List.setIfInBounds_toArray, List.set_cons_zero, List.set_cons_succ])
    refine wpAnyH_take (i := 6) (oi := { dst := some 39, op := Go.Op.move (Go.Operand.tmp 10), type := 4, pos := _, after := #[{ on := 4, ground := Go.Ground.guard }], guard := some (4, false) }) (v := ?v93) rfl (by kernel_rfl) (by kernel_rfl) (by kernel_rfl) (fun _ _ _ h => h) (Or.inl ⟨by kernel_rfl, ?hy93⟩) (by assumption) ?_
    case hy93 => intro w hSw; (try dsimp only at hSw); first | (go_simp; done) | (go_simp; with_reducible rfl)
    (try simp only [Act.put, List.setIfInBounds_toArray, List.set_cons_zero, List.set_cons_succ])
    refine wpAnyH_take (i := 7) (oi := { dst := some 40, op := Go.Op.binOp Go.BinOp.neq 4 (Go.Operand.tmp 38) (Go.Operand.tmp 39) 4, type := 4, pos := _, after := #[{ on := 5, ground := Go.Ground.data }, { on := 6, ground := Go.Ground.data }, { on := 4, ground := Go.Ground.guard }], guard := some (4, false) }) (v := ?v94) rfl (by kernel_rfl) (by kernel_rfl) (by kernel_rfl) (fun _ _ _ h => h) (Or.inl ⟨by kernel_rfl, ?hy94⟩) (by assumption) ?_
    case hy94 => intro w hSw; (try dsimp only at hSw); first | (go_simp; done) | (go_simp; with_reducible rfl)
    (try simp only [Act.put, List.setIfInBounds_toArray, List.set_cons_zero, List.set_cons_succ])
    refine wpAnyH_take (i := 8) (oi := { dst := some 41, op := Go.Op.pick (Go.Operand.tmp 37) (Go.Operand.const (Go.Value.bool true)) (Go.Operand.tmp 40), type := 4, pos := _, after := #[{ on := 4, ground := Go.Ground.data }, { on := 7, ground := Go.Ground.data }], guard := none }) (v := ?v95) rfl (by kernel_rfl) (by kernel_rfl) (by kernel_rfl) (fun _ _ _ h => h) (Or.inl ⟨by kernel_rfl, ?hy95⟩) (by assumption) ?_
    case hy95 => intro w hSw; (try dsimp only at hSw); first | (go_simp; done) | (go_simp; with_reducible rfl)
    (try simp only [Act.put, List.setIfInBounds_toArray, List.set_cons_zero, List.set_cons_succ])
    refine wpAnyH_take (i := 9) (oi := { dst := some 42, op := Go.Op.move (Go.Operand.tmp 41), type := 4, pos := _, after := #[{ on := 8, ground := Go.Ground.data }, { on := 4, ground := Go.Ground.chain }], guard := none }) (v := ?v96) rfl (by kernel_rfl) (by kernel_rfl) (by kernel_rfl) (fun _ _ _ h => h) (Or.inl ⟨by kernel_rfl, ?hy96⟩) (by assumption) ?_
    case hy96 => intro w hSw; (try dsimp only at hSw); first | (go_simp; done) | (go_simp; with_reducible rfl)
    (try simp only [Act.put, List.setIfInBounds_toArray, List.set_cons_zero, List.set_cons_succ])
    refine wpAnyH_take (i := 10) (oi := { dst := some 43, op := Go.Op.load 29 (Go.Operand.tmp 8), type := 29, pos := _, after := #[{ on := 9, ground := Go.Ground.guard }], guard := some (9, false) }) (v := ?v97) rfl (by kernel_rfl) (by kernel_rfl) (by kernel_rfl) (fun _ _ _ h => h) (Or.inl ⟨by kernel_rfl, ?hy97⟩) (by assumption) ?_
    case hy97 => intro w hSw; (try dsimp only at hSw); first | (go_simp; done) | (go_simp; with_reducible rfl)
    (try simp only [Act.put, List.setIfInBounds_toArray, List.set_cons_zero, List.set_cons_succ])
    refine wpAnyH_take (i := 12) (oi := { dst := some 45, op := Go.Op.load 24 (Go.Operand.tmp 11), type := 24, pos := _, after := #[{ on := 9, ground := Go.Ground.guard }], guard := some (9, false) }) (v := ?v98) rfl (by kernel_rfl) (by kernel_rfl) (by kernel_rfl) (fun _ _ _ h => h) (Or.inl ⟨by kernel_rfl, ?hy98⟩) (by assumption) ?_
    case hy98 => intro w hSw; (try dsimp only at hSw); first | (go_simp; done) | (go_simp; with_reducible rfl)
    (try simp only [Act.put, List.setIfInBounds_toArray, List.set_cons_zero, List.set_cons_succ])
    refine wpAnyH_ready (rs := [11]) (by kernel_rfl) (by simp) ?_
    refine AllReadyH.cons (o := { dst := some 44, op := Go.Op.call { callee := Go.Callee.value (Go.Operand.func 15), args := #[Go.Operand.tmp 43], argTypes := #[29] }, type := 24, pos := _, after := #[{ on := 10, ground := Go.Ground.data }, { on := 9, ground := Go.Ground.chain }, { on := 9, ground := Go.Ground.guard }], guard := some (9, false) }) rfl (fun K hK => ?_) AllReadyH.nil
    go_simp
    (go_at_call 15; refine (back_any _ _ _ _ _ _).mono ?_; rintro e w6_ ⟨rfl, g6⟩; have Z_6 := Lib.hid (Z_5.out.grow g6); have Bxb_6 := Lib.hid (Bxb_5.out.grow g6); have Byb_6 := Lib.hid (Byb_5.out.grow g6); have Bwb_6 := Lib.hid (Bwb_5.out.grow g6); have HM_6 := Lib.hid (HM_5.out.grow g6); have HG_6 := Lib.hid (HG_5.out.trans g6))
    (try go_wp2_with fail)
    refine hK.out _ _ ?hS100 (fun hHeld => ?_)
    case hS100 => (try dsimp only); exact keep_h12 g6 (by assumption)
    clear hK K
    (try simp only [Act.put, List.setIfInBounds_toArray, List.set_cons_zero, List.set_cons_succ])
    refine wpAnyH_ready (rs := [13]) (by kernel_rfl) (by simp) ?_
    refine AllReadyH.cons (o := { dst := some 46, op := Go.Op.call { callee := Go.Callee.value (Go.Operand.func 14), args := #[Go.Operand.tmp 44, Go.Operand.tmp 45], argTypes := #[24, 24] }, type := 4, pos := _, after := #[{ on := 11, ground := Go.Ground.data }, { on := 12, ground := Go.Ground.data }, { on := 11, ground := Go.Ground.chain }, { on := 9, ground := Go.Ground.guard }], guard := some (9, false) }) rfl (fun K hK => ?_) AllReadyH.nil
    go_simp
    (go_at_call 14; refine (msame_seen Seen.none Seen.none).mono ?_; rintro e w7_ ⟨rfl, g7⟩; have Z_7 := Lib.hid (Z_6.out.grow g7); have Bxb_7 := Lib.hid (Bxb_6.out.grow g7); have Byb_7 := Lib.hid (Byb_6.out.grow g7); have Bwb_7 := Lib.hid (Bwb_6.out.grow g7); have HM_7 := Lib.hid (HM_6.out.grow g7); have HG_7 := Lib.hid (HG_6.out.trans g7))
    (try go_wp2_with fail)
    refine hK.out _ _ ?hS102 (fun hHeld => ?_)
    case hS102 => (try dsimp only); exact keep_h12 g7 (by assumption)
    clear hK K
    (try simp only [Act.put, List.setIfInBounds_toArray, List.set_cons_zero, List.set_cons_succ])
    refine wpAnyH_take (i := 14) (oi := { dst := some 47, op := Go.Op.unOp Go.UnOp.not 4 (Go.Operand.tmp 46), type := 4, pos := _, after := #[{ on := 13, ground := Go.Ground.data }, { on := 9, ground := Go.Ground.guard }], guard := some (9, false) }) (v := ?v103) rfl (by kernel_rfl) (by kernel_rfl) (by kernel_rfl) (fun _ _ _ h => h) (Or.inl ⟨by kernel_rfl, ?hy103⟩) (by assumption) ?_
    case hy103 => intro w hSw; (try dsimp only at hSw); first | (go_simp; done) | (go_simp; with_reducible rfl)
    (try simp only [Act.put, List.setIfInBounds_toArray, List.set_cons_zero, List.set_cons_succ])
    refine wpAnyH_take (i := 15) (oi := { dst := some 48, op := Go.Op.pick (Go.Operand.tmp 42) (Go.Operand.const (Go.Value.bool true)) (Go.Operand.tmp 47), type := 4, pos := _, after := #[{ on := 9, ground := Go.Ground.data }, { on := 14, ground := Go.Ground.data }], guard := none }) (v := ?v104) rfl (by kernel_rfl) (by kernel_rfl) (by kernel_rfl) (fun _ _ _ h => h) (Or.inl ⟨by kernel_rfl, ?hy104⟩) (by assumption) ?_
    case hy104 => intro w hSw; (try dsimp only at hSw); first | (go_simp; done) | (go_simp; with_reducible rfl)
    (try simp only [Act.put, List.setIfInBounds_toArray, List.set_cons_zero, List.set_cons_succ])
    refine wpAnyH_take (i := 16) (oi := { dst := some 49, op := Go.Op.move (Go.Operand.tmp 48), type := 4, pos := _, after := #[{ on := 15, ground := Go.Ground.data }, { on := 13, ground := Go.Ground.chain }], guard := none }) (v := ?v105) rfl (by kernel_rfl) (by kernel_rfl) (by kernel_rfl) (fun _ _ _ h => h) (Or.inl ⟨by kernel_rfl, ?hy105⟩) (by assumption) ?_
    case hy105 => intro w hSw; (try dsimp only at hSw); first | (go_simp; done) | (go_simp; with_reducible rfl)
    (try simp only [Act.put, List.setIfInBounds_toArray, List.set_cons_zero, List.set_cons_succ])
    refine wpAnyH_take (i := 17) (oi := { dst := some 50, op := Go.Op.load 29 (Go.Operand.tmp 7), type := 29, pos := _, after := #[{ on := 16, ground := Go.Ground.guard }], guard := some (16, false) }) (v := ?v106) rfl (by kernel_rfl) (by kernel_rfl) (by kernel_rfl) (fun _ _ _ h => h) (Or.inl ⟨by kernel_rfl, ?hy106⟩) (by assumption) ?_
    case hy106 => intro w hSw; (try dsimp only at hSw); first | (go_simp; done) | (go_simp; with_reducible rfl)
    (try simp only [Act.put, List.setIfInBounds_toArray, List.set_cons_zero, List.set_cons_succ])
    refine wpAnyH_take (i := 18) (oi := { dst := some 51, op := Go.Op.move (Go.Operand.tmp 1), type := 3, pos := _, after := #[{ on := 16, ground := Go.Ground.guard }], guard := some (16, false) }) (v := ?v107) rfl (by kernel_rfl) (by kernel_rfl) (by kernel_rfl) (fun _ _ _ h => h) (Or.inl ⟨by kernel_rfl, ?hy107⟩) (by assumption) ?_
    case hy107 => intro w hSw; (try dsimp only at hSw); first | (go_simp; done) | (go_simp; with_reducible rfl)
    (try simp only [Act.put, List.setIfInBounds_toArray, List.set_cons_zero, List.set_cons_succ])
    refine wpAnyH_take (i := 19) (oi := { dst := some 52, op := Go.Op.move (Go.Operand.tmp 2), type := 3, pos := _, after := #[{ on := 16, ground := Go.Ground.guard }], guard := some (16, false) }) (v := ?v108) rfl (by kernel_rfl) (by kernel_rfl) (by kernel_rfl) (fun _ _ _ h => h) (Or.inl ⟨by kernel_rfl, ?hy108⟩) (by assumption) ?_
    case hy108 => intro w hSw; (try dsimp only at hSw); first | (go_simp; done) | (go_simp; with_reducible rfl)
    (try simp only [Act.put, List.setIfInBounds_toArray, List.set_cons_zero, List.set_cons_succ])
    refine wpAnyH_take (i := 21) (oi := { dst := some 54, op := Go.Op.load 24 (Go.Operand.tmp 3), type := 24, pos := _, after := #[{ on := 16, ground := Go.Ground.guard }], guard := some (16, false) }) (v := ?v109) rfl (by kernel_rfl) (by kernel_rfl) (by kernel_rfl) (fun _ _ _ h => h) (Or.inl ⟨by kernel_rfl, ?hy109⟩) (by assumption) ?_
    case hy109 => intro w hSw; (try dsimp only at hSw); first | (go_simp; done) | (go_simp; with_reducible rfl)
    (try simp only [Act.put, List.setIfInBounds_toArray, List.set_cons_zero, List.set_cons_succ])
    refine wpAnyH_take (i := 22) (oi := { dst := some 55, op := Go.Op.move (Go.Operand.tmp 1), type := 3, pos := _, after := #[{ on := 16, ground := Go.Ground.guard }], guard := some (16, false) }) (v := ?v110) rfl (by kernel_rfl) (by kernel_rfl) (by kernel_rfl) (fun _ _ _ h => h) (Or.inl ⟨by kernel_rfl, ?hy110⟩) (by assumption) ?_
    case hy110 => intro w hSw; (try dsimp only at hSw); first | (go_simp; done) | (go_simp; with_reducible rfl)
    (try simp only [Act.put, List.setIfInBounds_toArray, List.set_cons_zero, List.set_cons_succ])
    refine wpAnyH_take (i := 23) (oi := { dst := some 56, op := Go.Op.move (Go.Operand.tmp 2), type := 3, pos := _, after := #[{ on := 16, ground := Go.Ground.guard }], guard := some (16, false) }) (v := ?v111) rfl (by kernel_rfl) (by kernel_rfl) (by kernel_rfl) (fun _ _ _ h => h) (Or.inl ⟨by kernel_rfl, ?hy111⟩) (by assumption) ?_
    case hy111 => intro w hSw; (try dsimp only at hSw); first | (go_simp; done) | (go_simp; with_reducible rfl)
    (try simp only [Act.put, List.setIfInBounds_toArray, List.set_cons_zero, List.set_cons_succ])
    refine wpAnyH_ready (rs := [20]) (by kernel_rfl) (by simp) ?_
    refine AllReadyH.cons (o := { dst := some 53, op := Go.Op.call { callee := Go.Callee.value (Go.Operand.func 16), args := #[Go.Operand.tmp 50, Go.Operand.tmp 51, Go.Operand.tmp 52], argTypes := #[29, 3, 3] }, type := 2, pos := _, after := #[{ on := 17, ground := Go.Ground.data }, { on := 18, ground := Go.Ground.data }, { on := 19, ground := Go.Ground.data }, { on := 16, ground := Go.Ground.chain }, { on := 16, ground := Go.Ground.guard }], guard := some (16, false) }) rfl (fun K hK => ?_) AllReadyH.nil
    go_simp
    (go_at_call 16; refine (at_all Z_7.out).mono ?_; rintro e w8_ ⟨rfl, g8⟩; rw [HAV.out]; have Z_8 := Lib.hid (Z_7.out.grow g8); have Bxb_8 := Lib.hid (Bxb_7.out.grow g8); have Byb_8 := Lib.hid (Byb_7.out.grow g8); have Bwb_8 := Lib.hid (Bwb_7.out.grow g8); have HM_8 := Lib.hid (HM_7.out.grow g8); have HG_8 := Lib.hid (HG_7.out.trans g8))
    (try go_wp2_with fail)
    refine hK.out _ _ ?hS113 (fun hHeld => ?_)
    case hS113 => (try dsimp only); exact keep_h12 g8 (by assumption)
    clear hK K
    (try simp only [Act.put, List.setIfInBounds_toArray, List.set_cons_zero, List.set_cons_succ])
    refine wpAnyH_ready (rs := [24]) (by kernel_rfl) (by simp) ?_
    refine AllReadyH.cons (o := { dst := some 57, op := Go.Op.call { callee := Go.Callee.value (Go.Operand.func 17), args := #[Go.Operand.tmp 54, Go.Operand.tmp 55, Go.Operand.tmp 56], argTypes := #[24, 3, 3] }, type := 2, pos := _, after := #[{ on := 21, ground := Go.Ground.data }, { on := 22, ground := Go.Ground.data }, { on := 23, ground := Go.Ground.data }, { on := 20, ground := Go.Ground.chain }, { on := 16, ground := Go.Ground.guard }], guard := some (16, false) }) rfl (fun K hK => ?_) AllReadyH.nil
    go_simp
    (go_at_call 17; refine (rat_all Z_8.out).mono ?_; rintro e w9_ ⟨rfl, g9⟩; rw [HAV.out]; have Z_9 := Lib.hid (Z_8.out.grow g9); have Bxb_9 := Lib.hid (Bxb_8.out.grow g9); have Byb_9 := Lib.hid (Byb_8.out.grow g9); have Bwb_9 := Lib.hid (Bwb_8.out.grow g9); have HM_9 := Lib.hid (HM_8.out.grow g9); have HG_9 := Lib.hid (HG_8.out.trans g9))
    (try go_wp2_with fail)
    refine hK.out _ _ ?hS115 (fun hHeld => ?_)
    case hS115 => (try dsimp only); exact keep_h12 g9 (by assumption)
    clear hK K
    (try simp only [Act.put, List.setIfInBounds_toArray, List.set_cons_zero, List.set_cons_succ])
    refine wpAnyH_take (i := 25) (oi := { dst := some 58, op := Go.Op.binOp Go.BinOp.neq 2 (Go.Operand.tmp 53) (Go.Operand.tmp 57) 2, type := 4, pos := _, after := #[{ on := 20, ground := Go.Ground.data }, { on := 24, ground := Go.Ground.data }, { on := 16, ground := Go.Ground.guard }], guard := some (16, false) }) (v := ?v116) rfl (by kernel_rfl) (by kernel_rfl) (by kernel_rfl) (fun _ _ _ h => h) (Or.inl ⟨by kernel_rfl, ?hy116⟩) (by assumption) ?_
    case hy116 => intro w hSw; (try dsimp only at hSw); first | (go_simp; done) | (go_simp; with_reducible rfl)
    (try simp only [Act.put, List.setIfInBounds_toArray, List.set_cons_zero, List.set_cons_succ])
    refine wpAnyH_take (i := 26) (oi := { dst := some 59, op := Go.Op.pick (Go.Operand.tmp 49) (Go.Operand.const (Go.Value.bool true)) (Go.Operand.tmp 58), type := 4, pos := _, after := #[{ on := 16, ground := Go.Ground.data }, { on := 25, ground := Go.Ground.data }], guard := none }) (v := ?v117) rfl (by kernel_rfl) (by kernel_rfl) (by kernel_rfl) (fun _ _ _ h => h) (Or.inl ⟨by kernel_rfl, ?hy117⟩) (by assumption) ?_
    case hy117 => intro w hSw; (try dsimp only at hSw); first | (go_simp; done) | (go_simp; with_reducible rfl)
    (try simp only [Act.put, List.setIfInBounds_toArray, List.set_cons_zero, List.set_cons_succ])
    refine wpAnyH_done (by kernel_rfl) ?_ _
    clear hHeld
    have m0_9 := HM_9.out.c0
    have m1_9 := HM_9.out.c1
    have m2_9 := HM_9.out.c2
    have hl_9 := HM_9.out.lt
    have b0xb_9 := Bxb_9.out.c0
    have b1xb_9 := Bxb_9.out.c1
    have b2xb_9 := Bxb_9.out.c2
    have blxb_9 := Bxb_9.out.lt
    have b0yb_9 := Byb_9.out.c0
    have b1yb_9 := Byb_9.out.c1
    have b2yb_9 := Byb_9.out.c2
    have blyb_9 := Byb_9.out.lt
    have b0wb_9 := Bwb_9.out.c0
    have b1wb_9 := Bwb_9.out.c1
    have b2wb_9 := Bwb_9.out.c2
    have blwb_9 := Bwb_9.out.lt
    go_wp2_with fail
    refine (malive_any _).mono ?_
    rintro e w10_ ⟨rfl, g10⟩
    have Z_10 := Lib.hid (Z_9.out.grow g10)
    have HG_10 := Lib.hid (HG_9.out.trans g10)
    have HM_10 := Lib.hid (HM_9.out.grow g10)
    clear m0_9 m1_9 m2_9 hl_9
    have m0_10 := HM_10.out.c0
    have m1_10 := HM_10.out.c1
    have m2_10 := HM_10.out.c2
    have hl_10 := HM_10.out.lt
    have xb_10 := Lib.hid (Bxb_9.out.grow g10)
    clear b0xb_9 b1xb_9 b2xb_9 blxb_9
    have b0xb_10 := xb_10.out.c0
    have b1xb_10 := xb_10.out.c1
    have b2xb_10 := xb_10.out.c2
    have blxb_10 := xb_10.out.lt
    have yb_10 := Lib.hid (Byb_9.out.grow g10)
    clear b0yb_9 b1yb_9 b2yb_9 blyb_9
    have b0yb_10 := yb_10.out.c0
    have b1yb_10 := yb_10.out.c1
    have b2yb_10 := yb_10.out.c2
    have blyb_10 := yb_10.out.lt
    have wb_10 := Lib.hid (Bwb_9.out.grow g10)
    clear b0wb_9 b1wb_9 b2wb_9 blwb_9
    have b0wb_10 := wb_10.out.c0
    have b1wb_10 := wb_10.out.c1
    have b2wb_10 := wb_10.out.c2
    have blwb_10 := wb_10.out.lt
    clear g10
    go_wp2
    go_ret
    exact ⟨rfl, HG_10.out⟩

set_option maxRecDepth 100000 in
set_option maxHeartbeats 4000000 in
theorem way_true0 (R0 C0 : Int) (a0 : Option Addr) (len0 cap0 : Nat) (zs0 : List Int) (a1 a2 : Int) (w : World) (hA : ¬ 600 < len0) (h0 : Seen w a0 len0 cap0 zs0) (hR : rightB R0 C0 len0 = true) (hB : R0 ≤ 50) (hC : C0 ≤ 50) :
    Calls Try.prog 3 #[.agg #[.int .i64 R0, .int .i64 C0, .slice a0 len0 cap0], .int .i64 a1, .int .i64 a2] w fun e w' => e = .returned (.bool true) ∧ Below w.heap.size w w' := by

    have HG0 : Hid (Grew w (w.alloc (.cells #[.int .i64 R0, .int .i64 C0, .slice a0 len0 cap0] 24))) := Lib.hid ((Grew.refl w).alloc _)
    have HM0 := Lib.hid (Three.new w 24 (.int .i64 R0) (.int .i64 C0) (.slice a0 len0 cap0))

    have HZ0 := Lib.hid h0
    have HR := Lib.hid hR
    clear h0 hR
    go_enter Try.func3, Try.ntmps3
    have Z0 := Lib.hid (HZ0.out.grow HG0.out)
    obtain ⟨av, hav⟩ : ∃ av, atV zs0 R0 C0 a1 a2 = av := ⟨_, rfl⟩
    have HAV := Lib.hid hav
    have hne : (av != av) = false := bne_self_eq_false av
    clear hav
    go_wp2_with fail
    refine (few_any R0 C0 a0 len0 cap0 _).mono ?_
    rintro e w1_ ⟨rfl, g1⟩
    have Z_1 := Lib.hid (Z0.out.grow g1)
    have HG_1 := Lib.hid (HG0.out.trans g1)
    have HM_1 := Lib.hid (HM0.out.grow g1)
    have m0_1 := HM_1.out.c0
    have m1_1 := HM_1.out.c1
    have m2_1 := HM_1.out.c2
    have hl_1 := HM_1.out.lt
    clear g1
    rw [decide_eq_true (by omega)]
    go_wp2_with fail
    refine (given_any R0 C0 a0 len0 cap0 _).mono ?_
    rintro e w2_ ⟨rfl, g2⟩
    have Z_2 := Lib.hid (Z_1.out.grow g2)
    have HG_2 := Lib.hid (HG_1.out.trans g2)
    have HM_2 := Lib.hid (HM_1.out.grow g2)
    clear m0_1 m1_1 m2_1 hl_1
    have m0_2 := HM_2.out.c0
    have m1_2 := HM_2.out.c1
    have m2_2 := HM_2.out.c2
    have hl_2 := HM_2.out.lt
    clear g2
    go_wp2_with fail
    have gA : Grew w2_ (w2_.alloc (.cells #[.int .i64 R0, .int .i64 C0, .slice a0 len0 cap0] 29)) := (Grew.refl _).alloc _
    have Hxb := Lib.hid (Three.new w2_ 29 (.int .i64 R0) (.int .i64 C0) (.slice a0 len0 cap0))
    have Z_2a := Lib.hid (Z_2.out.grow gA)
    have HG_2a := Lib.hid (HG_2.out.trans gA)
    have HM_2a := Lib.hid (HM_2.out.grow gA)
    clear m0_2 m1_2 m2_2 hl_2
    clear gA
    generalize w2_.alloc (.cells #[.int .i64 R0, .int .i64 C0, .slice a0 len0 cap0] 29) = w2a_ at *
    generalize w2_.heap.size = xb at *
    refine (of_all Z_2a.out HR.out).mono ?_
    rintro e w3_ ⟨⟨s1, n1, c1, rfl, hs⟩, g3⟩
    have A := Lib.hid hs
    have Z_3 := Lib.hid (Z_2a.out.grow g3)
    have HG_3 := Lib.hid (HG_2a.out.trans g3)
    have HM_3 := Lib.hid (HM_2a.out.grow g3)
    have m0_3 := HM_3.out.c0
    have m1_3 := HM_3.out.c1
    have m2_3 := HM_3.out.c2
    have hl_3 := HM_3.out.lt
    have xb_3 := Lib.hid (Hxb.out.grow g3)
    have b0xb_3 := xb_3.out.c0
    have b1xb_3 := xb_3.out.c1
    have b2xb_3 := xb_3.out.c2
    have blxb_3 := xb_3.out.lt
    clear hs
    clear g3
    go_wp2_with fail
    have gA : Grew w3_ (w3_.alloc (.cells #[.int .i64 R0, .int .i64 C0, .slice s1 n1 c1] 29)) := (Grew.refl _).alloc _
    have Hyb := Lib.hid (Three.new w3_ 29 (.int .i64 R0) (.int .i64 C0) (.slice s1 n1 c1))
    have Z_3a := Lib.hid (Z_3.out.grow gA)
    have A_3a := Lib.hid (A.out.grow gA)
    have Bxb_3a := Lib.hid (xb_3.out.grow gA)
    clear b0xb_3 b1xb_3 b2xb_3 blxb_3
    have HG_3a := Lib.hid (HG_3.out.trans gA)
    have HM_3a := Lib.hid (HM_3.out.grow gA)
    clear m0_3 m1_3 m2_3 hl_3
    clear gA
    generalize w3_.alloc (.cells #[.int .i64 R0, .int .i64 C0, .slice s1 n1 c1] 29) = w3a_ at *
    generalize w3_.heap.size = yb at *
    refine (rright_any R0 C0 a0 len0 cap0 _ (by omega)).mono ?_
    rintro e w4_ ⟨rfl, g4⟩
    have Z_4 := Lib.hid (Z_3a.out.grow g4)
    have A_4 := Lib.hid (A_3a.out.grow g4)
    have HG_4 := Lib.hid (HG_3a.out.trans g4)
    have HM_4 := Lib.hid (HM_3a.out.grow g4)
    have m0_4 := HM_4.out.c0
    have m1_4 := HM_4.out.c1
    have m2_4 := HM_4.out.c2
    have hl_4 := HM_4.out.lt
    have xb_4 := Lib.hid (Bxb_3a.out.grow g4)
    have b0xb_4 := xb_4.out.c0
    have b1xb_4 := xb_4.out.c1
    have b2xb_4 := xb_4.out.c2
    have blxb_4 := xb_4.out.lt
    have yb_4 := Lib.hid (Hyb.out.grow g4)
    have b0yb_4 := yb_4.out.c0
    have b1yb_4 := yb_4.out.c1
    have b2yb_4 := yb_4.out.c2
    have blyb_4 := yb_4.out.lt
    clear g4
    rw [HR.out]
    go_wp2_with fail
    have gA : Grew w4_ (w4_.alloc (.cells #[.int .i64 R0, .int .i64 C0, .slice a0 len0 cap0] 24)) := (Grew.refl _).alloc _
    have Hwb := Lib.hid (Three.new w4_ 24 (.int .i64 R0) (.int .i64 C0) (.slice a0 len0 cap0))
    have Z_4a := Lib.hid (Z_4.out.grow gA)
    have A_4a := Lib.hid (A_4.out.grow gA)
    have Bxb_4a := Lib.hid (xb_4.out.grow gA)
    clear b0xb_4 b1xb_4 b2xb_4 blxb_4
    have Byb_4a := Lib.hid (yb_4.out.grow gA)
    clear b0yb_4 b1yb_4 b2yb_4 blyb_4
    have HG_4a := Lib.hid (HG_4.out.trans gA)
    have HM_4a := Lib.hid (HM_4.out.grow gA)
    clear m0_4 m1_4 m2_4 hl_4
    clear gA
    generalize w4_.alloc (.cells #[.int .i64 R0, .int .i64 C0, .slice a0 len0 cap0] 24) = w4a_ at *
    generalize w4_.heap.size = wb at *
    have gD : Grew w4a_ w4a_.drew := Grew.drew' (Grew.refl _)
    have Z_4d := Lib.hid (Z_4a.out.grow gD)
    have A_4d := Lib.hid (A_4a.out.grow gD)
    have Bxb_4d := Lib.hid (Bxb_4a.out.grow gD)
    have Byb_4d := Lib.hid (Byb_4a.out.grow gD)
    have Bwb_4d := Lib.hid (Hwb.out.grow gD)
    have HM_4d := Lib.hid (HM_4a.out.grow gD)
    have HG_4d := Lib.hid (HG_4a.out.trans gD)
    refine wp_region_held_drew (S := (fun W' => Grew w4a_ W' ∧ W'.cell? ⟨xb, 0, none⟩ = some (.int .i64 R0) ∧ W'.cell? ⟨xb, 1, none⟩ = some (.int .i64 C0) ∧ W'.cell? ⟨xb, 2, none⟩ = some (.slice a0 len0 cap0) ∧ W'.cell? ⟨yb, 0, none⟩ = some (.int .i64 R0) ∧ W'.cell? ⟨yb, 1, none⟩ = some (.int .i64 C0) ∧ W'.cell? ⟨yb, 2, none⟩ = some (.slice s1 n1 c1) ∧ W'.cell? ⟨wb, 0, none⟩ = some (.int .i64 R0) ∧ W'.cell? ⟨wb, 1, none⟩ = some (.int .i64 C0) ∧ W'.cell? ⟨wb, 2, none⟩ = some (.slice a0 len0 cap0) ∧ W'.cell? ⟨w.heap.size, 0, none⟩ = some (.int .i64 R0) ∧ W'.cell? ⟨w.heap.size, 1, none⟩ = some (.int .i64 C0) ∧ W'.cell? ⟨w.heap.size, 2, none⟩ = some (.slice a0 len0 cap0))) (by kernel_rfl) ⟨Grew.drew' (Grew.refl _), Bxb_4a.out.c0, Bxb_4a.out.c1, Bxb_4a.out.c2, Byb_4a.out.c0, Byb_4a.out.c1, Byb_4a.out.c2, Hwb.out.c0, Hwb.out.c1, Hwb.out.c2, HM_4a.out.c0, HM_4a.out.c1, HM_4a.out.c2⟩ (fun hHeld => ?_)
    refine wpAnyH_take (i := 0) (oi := { dst := some 33, op := Go.Op.load 29 (Go.Operand.tmp 7), type := 29, pos := _, after := #[], guard := none }) (v := ?v118) rfl (by kernel_rfl) (by kernel_rfl) (by kernel_rfl) (fun _ _ _ h => h) (Or.inl ⟨by kernel_rfl, ?hy118⟩) (by assumption) ?_
    case hy118 => intro w hSw; (try dsimp only at hSw); first | (go_simp; done) | (go_simp; with_reducible rfl)
    (try simp only [Act.put, List.setIfInBounds_toArray, List.set_cons_zero, List.set_cons_succ])
    refine wpAnyH_take (i := 2) (oi := { dst := some 35, op := Go.Op.move (Go.Operand.tmp 10), type := 4, pos := _, after := #[], guard := none }) (v := ?v119) rfl (by kernel_rfl) (by kernel_rfl) (by kernel_rfl) (fun _ _ _ h => h) (Or.inl ⟨by kernel_rfl, ?hy119⟩) (by assumption) ?_
    case hy119 => intro w hSw; (try dsimp only at hSw); first | (go_simp; done) | (go_simp; with_reducible rfl)
    (try simp only [Act.put, List.setIfInBounds_toArray, List.set_cons_zero, List.set_cons_succ])
    refine wpAnyH_ready (rs := [1]) (by kernel_rfl) (by simp) ?_
    refine AllReadyH.cons (o := { dst := some 34, op := Go.Op.call { callee := Go.Callee.value (Go.Operand.func 13), args := #[Go.Operand.tmp 33], argTypes := #[29] }, type := 4, pos := _, after := #[{ on := 0, ground := Go.Ground.data }], guard := none }) rfl (fun K hK => ?_) AllReadyH.nil
    go_simp
    (go_at_call 13; refine (right_any R0 C0 a0 len0 cap0 _).mono ?_; rintro e w5_ ⟨rfl, g5⟩; rw [HR.out]; have Z_5 := Lib.hid (Z_4d.out.grow g5); have A_5 := Lib.hid (A_4d.out.grow g5); have Bxb_5 := Lib.hid (Bxb_4d.out.grow g5); have Byb_5 := Lib.hid (Byb_4d.out.grow g5); have Bwb_5 := Lib.hid (Bwb_4d.out.grow g5); have HM_5 := Lib.hid (HM_4d.out.grow g5); have HG_5 := Lib.hid (HG_4d.out.trans g5))
    (try go_wp2_with fail)
    refine hK.out _ _ ?hS121 (fun hHeld => ?_)
    case hS121 => (try dsimp only); exact keep_h12 g5 (by assumption)
    clear hK K
    (try simp only [Act.put, List.setIfInBounds_toArray, List.set_cons_zero, List.set_cons_succ])
    refine wpAnyH_take (i := 3) (oi := { dst := some 36, op := Go.Op.binOp Go.BinOp.neq 4 (Go.Operand.tmp 34) (Go.Operand.tmp 35) 4, type := 4, pos := _, after := #[{ on := 1, ground := Go.Ground.data }, { on := 2, ground := Go.Ground.data }], guard := none }) (v := ?v122) rfl (by kernel_rfl) (by kernel_rfl) (by kernel_rfl) (fun _ _ _ h => h) (Or.inl ⟨by kernel_rfl, ?hy122⟩) (by assumption) ?_
    case hy122 => intro w hSw; (try dsimp only at hSw); first | (go_simp; done) | (go_simp; with_reducible rfl)
    (try simp only [Act.put, List.setIfInBounds_toArray, List.set_cons_zero, List.set_cons_succ])
    refine wpAnyH_take (i := 4) (oi := { dst := some 37, op := Go.Op.move (Go.Operand.tmp 36), type := 4, pos := _, after := #[{ on := 3, ground := Go.Ground.data }, { on := 1, ground := Go.Ground.chain }], guard := none }) (v := ?v123) rfl (by kernel_rfl) (by kernel_rfl) (by kernel_rfl) (fun _ _ _ h => h) (Or.inl ⟨by kernel_rfl, ?hy123⟩) (by assumption) ?_
    case hy123 => intro w hSw; (try dsimp only at hSw); first | (go_simp; done) | (go_simp; with_reducible rfl)
    (try simp only [Act.put, List.setIfInBounds_toArray, List.set_cons_zero, List.set_cons_succ])
    refine wpAnyH_take (i := 5) (oi := { dst := some 38, op := Go.Op.move (Go.Operand.tmp 9), type := 4, pos := _, after := #[{ on := 4, ground := Go.Ground.guard }], guard := some (4, false) }) (v := ?v124) rfl (by kernel_rfl) (by kernel_rfl) (by kernel_rfl) (fun _ _ _ h => h) (Or.inl ⟨by kernel_rfl, ?hy124⟩) (by assumption) ?_
    case hy124 => intro w hSw; (try dsimp only at hSw); first | (go_simp; done) | (go_simp; with_reducible rfl)
    (try simp only [Act.put, List.setIfInBounds_toArray, List.set_cons_zero, List.set_cons_succ])
    refine wpAnyH_take (i := 6) (oi := { dst := some 39, op := Go.Op.move (Go.Operand.tmp 10), type := 4, pos := _, after := #[{ on := 4, ground := Go.Ground.guard }], guard := some (4, false) }) (v := ?v125) rfl (by kernel_rfl) (by kernel_rfl) (by kernel_rfl) (fun _ _ _ h => h) (Or.inl ⟨by kernel_rfl, ?hy125⟩) (by assumption) ?_
    case hy125 => intro w hSw; (try dsimp only at hSw); first | (go_simp; done) | (go_simp; with_reducible rfl)
    (try simp only [Act.put, List.setIfInBounds_toArray, List.set_cons_zero, List.set_cons_succ])
    refine wpAnyH_take (i := 7) (oi := { dst := some 40, op := Go.Op.binOp Go.BinOp.neq 4 (Go.Operand.tmp 38) (Go.Operand.tmp 39) 4, type := 4, pos := _, after := #[{ on := 5, ground := Go.Ground.data }, { on := 6, ground := Go.Ground.data }, { on := 4, ground := Go.Ground.guard }], guard := some (4, false) }) (v := ?v126) rfl (by kernel_rfl) (by kernel_rfl) (by kernel_rfl) (fun _ _ _ h => h) (Or.inl ⟨by kernel_rfl, ?hy126⟩) (by assumption) ?_
    case hy126 => intro w hSw; (try dsimp only at hSw); first | (go_simp; done) | (go_simp; with_reducible rfl)
    (try simp only [Act.put, List.setIfInBounds_toArray, List.set_cons_zero, List.set_cons_succ])
    refine wpAnyH_take (i := 8) (oi := { dst := some 41, op := Go.Op.pick (Go.Operand.tmp 37) (Go.Operand.const (Go.Value.bool true)) (Go.Operand.tmp 40), type := 4, pos := _, after := #[{ on := 4, ground := Go.Ground.data }, { on := 7, ground := Go.Ground.data }], guard := none }) (v := ?v127) rfl (by kernel_rfl) (by kernel_rfl) (by kernel_rfl) (fun _ _ _ h => h) (Or.inl ⟨by kernel_rfl, ?hy127⟩) (by assumption) ?_
    case hy127 => intro w hSw; (try dsimp only at hSw); first | (go_simp; done) | (go_simp; with_reducible rfl)
    (try simp only [Act.put, List.setIfInBounds_toArray, List.set_cons_zero, List.set_cons_succ])
    refine wpAnyH_take (i := 9) (oi := { dst := some 42, op := Go.Op.move (Go.Operand.tmp 41), type := 4, pos := _, after := #[{ on := 8, ground := Go.Ground.data }, { on := 4, ground := Go.Ground.chain }], guard := none }) (v := ?v128) rfl (by kernel_rfl) (by kernel_rfl) (by kernel_rfl) (fun _ _ _ h => h) (Or.inl ⟨by kernel_rfl, ?hy128⟩) (by assumption) ?_
    case hy128 => intro w hSw; (try dsimp only at hSw); first | (go_simp; done) | (go_simp; with_reducible rfl)
    (try simp only [Act.put, List.setIfInBounds_toArray, List.set_cons_zero, List.set_cons_succ])
    refine wpAnyH_take (i := 10) (oi := { dst := some 43, op := Go.Op.load 29 (Go.Operand.tmp 8), type := 29, pos := _, after := #[{ on := 9, ground := Go.Ground.guard }], guard := some (9, false) }) (v := ?v129) rfl (by kernel_rfl) (by kernel_rfl) (by kernel_rfl) (fun _ _ _ h => h) (Or.inl ⟨by kernel_rfl, ?hy129⟩) (by assumption) ?_
    case hy129 => intro w hSw; (try dsimp only at hSw); first | (go_simp; done) | (go_simp; with_reducible rfl)
    (try simp only [Act.put, List.setIfInBounds_toArray, List.set_cons_zero, List.set_cons_succ])
    refine wpAnyH_take (i := 12) (oi := { dst := some 45, op := Go.Op.load 24 (Go.Operand.tmp 11), type := 24, pos := _, after := #[{ on := 9, ground := Go.Ground.guard }], guard := some (9, false) }) (v := ?v130) rfl (by kernel_rfl) (by kernel_rfl) (by kernel_rfl) (fun _ _ _ h => h) (Or.inl ⟨by kernel_rfl, ?hy130⟩) (by assumption) ?_
    case hy130 => intro w hSw; (try dsimp only at hSw); first | (go_simp; done) | (go_simp; with_reducible rfl)
    (try simp only [Act.put, List.setIfInBounds_toArray, List.set_cons_zero, List.set_cons_succ])
    refine wpAnyH_ready (rs := [11]) (by kernel_rfl) (by simp) ?_
    refine AllReadyH.cons (o := { dst := some 44, op := Go.Op.call { callee := Go.Callee.value (Go.Operand.func 15), args := #[Go.Operand.tmp 43], argTypes := #[29] }, type := 24, pos := _, after := #[{ on := 10, ground := Go.Ground.data }, { on := 9, ground := Go.Ground.chain }, { on := 9, ground := Go.Ground.guard }], guard := some (9, false) }) rfl (fun K hK => ?_) AllReadyH.nil
    go_simp
    (go_at_call 15; refine (back_any _ _ _ _ _ _).mono ?_; rintro e w6_ ⟨rfl, g6⟩; have Z_6 := Lib.hid (Z_5.out.grow g6); have A_6 := Lib.hid (A_5.out.grow g6); have Bxb_6 := Lib.hid (Bxb_5.out.grow g6); have Byb_6 := Lib.hid (Byb_5.out.grow g6); have Bwb_6 := Lib.hid (Bwb_5.out.grow g6); have HM_6 := Lib.hid (HM_5.out.grow g6); have HG_6 := Lib.hid (HG_5.out.trans g6))
    (try go_wp2_with fail)
    refine hK.out _ _ ?hS132 (fun hHeld => ?_)
    case hS132 => (try dsimp only); exact keep_h12 g6 (by assumption)
    clear hK K
    (try simp only [Act.put, List.setIfInBounds_toArray, List.set_cons_zero, List.set_cons_succ])
    refine wpAnyH_ready (rs := [13]) (by kernel_rfl) (by simp) ?_
    refine AllReadyH.cons (o := { dst := some 46, op := Go.Op.call { callee := Go.Callee.value (Go.Operand.func 14), args := #[Go.Operand.tmp 44, Go.Operand.tmp 45], argTypes := #[24, 24] }, type := 4, pos := _, after := #[{ on := 11, ground := Go.Ground.data }, { on := 12, ground := Go.Ground.data }, { on := 11, ground := Go.Ground.chain }, { on := 9, ground := Go.Ground.guard }], guard := some (9, false) }) rfl (fun K hK => ?_) AllReadyH.nil
    go_simp
    (go_at_call 14; refine (msame_seen A_6.out Z_6.out).mono ?_; rintro e w7_ ⟨rfl, g7⟩; have Z_7 := Lib.hid (Z_6.out.grow g7); have A_7 := Lib.hid (A_6.out.grow g7); have Bxb_7 := Lib.hid (Bxb_6.out.grow g7); have Byb_7 := Lib.hid (Byb_6.out.grow g7); have Bwb_7 := Lib.hid (Bwb_6.out.grow g7); have HM_7 := Lib.hid (HM_6.out.grow g7); have HG_7 := Lib.hid (HG_6.out.trans g7))
    (try go_wp2_with fail)
    refine hK.out _ _ ?hS134 (fun hHeld => ?_)
    case hS134 => (try dsimp only); exact keep_h12 g7 (by assumption)
    clear hK K
    (try simp only [Act.put, List.setIfInBounds_toArray, List.set_cons_zero, List.set_cons_succ])
    refine wpAnyH_take (i := 14) (oi := { dst := some 47, op := Go.Op.unOp Go.UnOp.not 4 (Go.Operand.tmp 46), type := 4, pos := _, after := #[{ on := 13, ground := Go.Ground.data }, { on := 9, ground := Go.Ground.guard }], guard := some (9, false) }) (v := ?v135) rfl (by kernel_rfl) (by kernel_rfl) (by kernel_rfl) (fun _ _ _ h => h) (Or.inl ⟨by kernel_rfl, ?hy135⟩) (by assumption) ?_
    case hy135 => intro w hSw; (try dsimp only at hSw); first | (go_simp; done) | (go_simp; with_reducible rfl)
    (try simp only [Act.put, List.setIfInBounds_toArray, List.set_cons_zero, List.set_cons_succ])
    refine wpAnyH_take (i := 15) (oi := { dst := some 48, op := Go.Op.pick (Go.Operand.tmp 42) (Go.Operand.const (Go.Value.bool true)) (Go.Operand.tmp 47), type := 4, pos := _, after := #[{ on := 9, ground := Go.Ground.data }, { on := 14, ground := Go.Ground.data }], guard := none }) (v := ?v136) rfl (by kernel_rfl) (by kernel_rfl) (by kernel_rfl) (fun _ _ _ h => h) (Or.inl ⟨by kernel_rfl, ?hy136⟩) (by assumption) ?_
    case hy136 => intro w hSw; (try dsimp only at hSw); first | (go_simp; done) | (go_simp; with_reducible rfl)
    (try simp only [Act.put, List.setIfInBounds_toArray, List.set_cons_zero, List.set_cons_succ])
    refine wpAnyH_take (i := 16) (oi := { dst := some 49, op := Go.Op.move (Go.Operand.tmp 48), type := 4, pos := _, after := #[{ on := 15, ground := Go.Ground.data }, { on := 13, ground := Go.Ground.chain }], guard := none }) (v := ?v137) rfl (by kernel_rfl) (by kernel_rfl) (by kernel_rfl) (fun _ _ _ h => h) (Or.inl ⟨by kernel_rfl, ?hy137⟩) (by assumption) ?_
    case hy137 => intro w hSw; (try dsimp only at hSw); first | (go_simp; done) | (go_simp; with_reducible rfl)
    (try simp only [Act.put, List.setIfInBounds_toArray, List.set_cons_zero, List.set_cons_succ])
    refine wpAnyH_take (i := 17) (oi := { dst := some 50, op := Go.Op.load 29 (Go.Operand.tmp 7), type := 29, pos := _, after := #[{ on := 16, ground := Go.Ground.guard }], guard := some (16, false) }) (v := ?v138) rfl (by kernel_rfl) (by kernel_rfl) (by kernel_rfl) (fun _ _ _ h => h) (Or.inl ⟨by kernel_rfl, ?hy138⟩) (by assumption) ?_
    case hy138 => intro w hSw; (try dsimp only at hSw); first | (go_simp; done) | (go_simp; with_reducible rfl)
    (try simp only [Act.put, List.setIfInBounds_toArray, List.set_cons_zero, List.set_cons_succ])
    refine wpAnyH_take (i := 18) (oi := { dst := some 51, op := Go.Op.move (Go.Operand.tmp 1), type := 3, pos := _, after := #[{ on := 16, ground := Go.Ground.guard }], guard := some (16, false) }) (v := ?v139) rfl (by kernel_rfl) (by kernel_rfl) (by kernel_rfl) (fun _ _ _ h => h) (Or.inl ⟨by kernel_rfl, ?hy139⟩) (by assumption) ?_
    case hy139 => intro w hSw; (try dsimp only at hSw); first | (go_simp; done) | (go_simp; with_reducible rfl)
    (try simp only [Act.put, List.setIfInBounds_toArray, List.set_cons_zero, List.set_cons_succ])
    refine wpAnyH_take (i := 19) (oi := { dst := some 52, op := Go.Op.move (Go.Operand.tmp 2), type := 3, pos := _, after := #[{ on := 16, ground := Go.Ground.guard }], guard := some (16, false) }) (v := ?v140) rfl (by kernel_rfl) (by kernel_rfl) (by kernel_rfl) (fun _ _ _ h => h) (Or.inl ⟨by kernel_rfl, ?hy140⟩) (by assumption) ?_
    case hy140 => intro w hSw; (try dsimp only at hSw); first | (go_simp; done) | (go_simp; with_reducible rfl)
    (try simp only [Act.put, List.setIfInBounds_toArray, List.set_cons_zero, List.set_cons_succ])
    refine wpAnyH_take (i := 21) (oi := { dst := some 54, op := Go.Op.load 24 (Go.Operand.tmp 3), type := 24, pos := _, after := #[{ on := 16, ground := Go.Ground.guard }], guard := some (16, false) }) (v := ?v141) rfl (by kernel_rfl) (by kernel_rfl) (by kernel_rfl) (fun _ _ _ h => h) (Or.inl ⟨by kernel_rfl, ?hy141⟩) (by assumption) ?_
    case hy141 => intro w hSw; (try dsimp only at hSw); first | (go_simp; done) | (go_simp; with_reducible rfl)
    (try simp only [Act.put, List.setIfInBounds_toArray, List.set_cons_zero, List.set_cons_succ])
    refine wpAnyH_take (i := 22) (oi := { dst := some 55, op := Go.Op.move (Go.Operand.tmp 1), type := 3, pos := _, after := #[{ on := 16, ground := Go.Ground.guard }], guard := some (16, false) }) (v := ?v142) rfl (by kernel_rfl) (by kernel_rfl) (by kernel_rfl) (fun _ _ _ h => h) (Or.inl ⟨by kernel_rfl, ?hy142⟩) (by assumption) ?_
    case hy142 => intro w hSw; (try dsimp only at hSw); first | (go_simp; done) | (go_simp; with_reducible rfl)
    (try simp only [Act.put, List.setIfInBounds_toArray, List.set_cons_zero, List.set_cons_succ])
    refine wpAnyH_take (i := 23) (oi := { dst := some 56, op := Go.Op.move (Go.Operand.tmp 2), type := 3, pos := _, after := #[{ on := 16, ground := Go.Ground.guard }], guard := some (16, false) }) (v := ?v143) rfl (by kernel_rfl) (by kernel_rfl) (by kernel_rfl) (fun _ _ _ h => h) (Or.inl ⟨by kernel_rfl, ?hy143⟩) (by assumption) ?_
    case hy143 => intro w hSw; (try dsimp only at hSw); first | (go_simp; done) | (go_simp; with_reducible rfl)
    (try simp only [Act.put, List.setIfInBounds_toArray, List.set_cons_zero, List.set_cons_succ])
    refine wpAnyH_ready (rs := [20]) (by kernel_rfl) (by simp) ?_
    refine AllReadyH.cons (o := { dst := some 53, op := Go.Op.call { callee := Go.Callee.value (Go.Operand.func 16), args := #[Go.Operand.tmp 50, Go.Operand.tmp 51, Go.Operand.tmp 52], argTypes := #[29, 3, 3] }, type := 2, pos := _, after := #[{ on := 17, ground := Go.Ground.data }, { on := 18, ground := Go.Ground.data }, { on := 19, ground := Go.Ground.data }, { on := 16, ground := Go.Ground.chain }, { on := 16, ground := Go.Ground.guard }], guard := some (16, false) }) rfl (fun K hK => ?_) AllReadyH.nil
    go_simp
    (go_at_call 16; refine (at_all Z_7.out).mono ?_; rintro e w8_ ⟨rfl, g8⟩; rw [HAV.out]; have Z_8 := Lib.hid (Z_7.out.grow g8); have A_8 := Lib.hid (A_7.out.grow g8); have Bxb_8 := Lib.hid (Bxb_7.out.grow g8); have Byb_8 := Lib.hid (Byb_7.out.grow g8); have Bwb_8 := Lib.hid (Bwb_7.out.grow g8); have HM_8 := Lib.hid (HM_7.out.grow g8); have HG_8 := Lib.hid (HG_7.out.trans g8))
    (try go_wp2_with fail)
    refine hK.out _ _ ?hS145 (fun hHeld => ?_)
    case hS145 => (try dsimp only); exact keep_h12 g8 (by assumption)
    clear hK K
    (try simp only [Act.put, List.setIfInBounds_toArray, List.set_cons_zero, List.set_cons_succ])
    refine wpAnyH_ready (rs := [24]) (by kernel_rfl) (by simp) ?_
    refine AllReadyH.cons (o := { dst := some 57, op := Go.Op.call { callee := Go.Callee.value (Go.Operand.func 17), args := #[Go.Operand.tmp 54, Go.Operand.tmp 55, Go.Operand.tmp 56], argTypes := #[24, 3, 3] }, type := 2, pos := _, after := #[{ on := 21, ground := Go.Ground.data }, { on := 22, ground := Go.Ground.data }, { on := 23, ground := Go.Ground.data }, { on := 20, ground := Go.Ground.chain }, { on := 16, ground := Go.Ground.guard }], guard := some (16, false) }) rfl (fun K hK => ?_) AllReadyH.nil
    go_simp
    (go_at_call 17; refine (rat_all Z_8.out).mono ?_; rintro e w9_ ⟨rfl, g9⟩; rw [HAV.out]; have Z_9 := Lib.hid (Z_8.out.grow g9); have A_9 := Lib.hid (A_8.out.grow g9); have Bxb_9 := Lib.hid (Bxb_8.out.grow g9); have Byb_9 := Lib.hid (Byb_8.out.grow g9); have Bwb_9 := Lib.hid (Bwb_8.out.grow g9); have HM_9 := Lib.hid (HM_8.out.grow g9); have HG_9 := Lib.hid (HG_8.out.trans g9))
    (try go_wp2_with fail)
    refine hK.out _ _ ?hS147 (fun hHeld => ?_)
    case hS147 => (try dsimp only); exact keep_h12 g9 (by assumption)
    clear hK K
    (try simp only [Act.put, List.setIfInBounds_toArray, List.set_cons_zero, List.set_cons_succ])
    refine wpAnyH_take (i := 25) (oi := { dst := some 58, op := Go.Op.binOp Go.BinOp.neq 2 (Go.Operand.tmp 53) (Go.Operand.tmp 57) 2, type := 4, pos := _, after := #[{ on := 20, ground := Go.Ground.data }, { on := 24, ground := Go.Ground.data }, { on := 16, ground := Go.Ground.guard }], guard := some (16, false) }) (v := ?v148) rfl (by kernel_rfl) (by kernel_rfl) (by kernel_rfl) (fun _ _ _ h => h) (Or.inl ⟨by kernel_rfl, ?hy148⟩) (by assumption) ?_
    case hy148 => intro w hSw; (try dsimp only at hSw); first | (go_simp; done) | (go_simp; with_reducible rfl)
    (try simp only [Act.put, List.setIfInBounds_toArray, List.set_cons_zero, List.set_cons_succ])
    refine wpAnyH_take (i := 26) (oi := { dst := some 59, op := Go.Op.pick (Go.Operand.tmp 49) (Go.Operand.const (Go.Value.bool true)) (Go.Operand.tmp 58), type := 4, pos := _, after := #[{ on := 16, ground := Go.Ground.data }, { on := 25, ground := Go.Ground.data }], guard := none }) (v := ?v149) rfl (by kernel_rfl) (by kernel_rfl) (by kernel_rfl) (fun _ _ _ h => h) (Or.inl ⟨by kernel_rfl, ?hy149⟩) (by assumption) ?_
    case hy149 => intro w hSw; (try dsimp only at hSw); first | (go_simp; done) | (go_simp; with_reducible rfl)
    (try simp only [Act.put, List.setIfInBounds_toArray, List.set_cons_zero, List.set_cons_succ])
    refine wpAnyH_done (by kernel_rfl) ?_ _
    clear hHeld
    have m0_9 := HM_9.out.c0
    have m1_9 := HM_9.out.c1
    have m2_9 := HM_9.out.c2
    have hl_9 := HM_9.out.lt
    have b0xb_9 := Bxb_9.out.c0
    have b1xb_9 := Bxb_9.out.c1
    have b2xb_9 := Bxb_9.out.c2
    have blxb_9 := Bxb_9.out.lt
    have b0yb_9 := Byb_9.out.c0
    have b1yb_9 := Byb_9.out.c1
    have b2yb_9 := Byb_9.out.c2
    have blyb_9 := Byb_9.out.lt
    have b0wb_9 := Bwb_9.out.c0
    have b1wb_9 := Bwb_9.out.c1
    have b2wb_9 := Bwb_9.out.c2
    have blwb_9 := Bwb_9.out.lt
    go_wp2_with fail
    have gD : Grew w9_ w9_.drew := Grew.drew' (Grew.refl _)
    have Z_9d := Lib.hid (Z_9.out.grow gD)
    have A_9d := Lib.hid (A_9.out.grow gD)
    have Bxb_9d := Lib.hid (Bxb_9.out.grow gD)
    have Byb_9d := Lib.hid (Byb_9.out.grow gD)
    have Bwb_9d := Lib.hid (Bwb_9.out.grow gD)
    have HM_9d := Lib.hid (HM_9.out.grow gD)
    have HG_9d := Lib.hid (HG_9.out.trans gD)
    refine wp_region_held_drew (S := (fun W' => Grew w9_ W' ∧ W'.cell? ⟨w.heap.size, 0, none⟩ = some (.int .i64 R0) ∧ W'.cell? ⟨w.heap.size, 1, none⟩ = some (.int .i64 C0) ∧ W'.cell? ⟨w.heap.size, 2, none⟩ = some (.slice a0 len0 cap0))) (by kernel_rfl) ⟨Grew.drew' (Grew.refl _), HM_9.out.c0, HM_9.out.c1, HM_9.out.c2⟩ (fun hHeld => ?_)
    refine wpAnyH_ready (rs := [0]) (by kernel_rfl) (by simp) ?_
    refine AllReadyH.cons (o := { dst := some 69, op := Go.Op.call { callee := Go.Callee.value (Go.Operand.func 9), args := #[], argTypes := #[] }, type := 4, pos := _, after := #[], guard := none }) rfl (fun K hK => ?_) AllReadyH.nil
    go_simp
    (go_at_call 9; refine (malive_any _).mono ?_; rintro e w10_ ⟨rfl, g10⟩; have Z_10 := Lib.hid (Z_9d.out.grow g10); have A_10 := Lib.hid (A_9d.out.grow g10); have Bxb_10 := Lib.hid (Bxb_9d.out.grow g10); have Byb_10 := Lib.hid (Byb_9d.out.grow g10); have Bwb_10 := Lib.hid (Bwb_9d.out.grow g10); have HM_10 := Lib.hid (HM_9d.out.grow g10); have HG_10 := Lib.hid (HG_9d.out.trans g10))
    (try go_wp2_with fail)
    refine hK.out _ _ ?hS151 (fun hHeld => ?_)
    case hS151 => (try dsimp only); exact keep_h3 g10 (by assumption)
    clear hK K
    (try simp only [Act.put, List.setIfInBounds_toArray, List.set_cons_zero, List.set_cons_succ])
    refine wpAnyH_take (i := 1) (oi := { dst := some 70, op := Go.Op.move (Go.Operand.tmp 69), type := 4, pos := _, after := #[{ on := 0, ground := Go.Ground.data }, { on := 0, ground := Go.Ground.chain }], guard := none }) (v := ?v152) rfl (by kernel_rfl) (by kernel_rfl) (by kernel_rfl) (fun _ _ _ h => h) (Or.inl ⟨by kernel_rfl, ?hy152⟩) (by assumption) ?_
    case hy152 => intro w hSw; (try dsimp only at hSw); first | (go_simp; done) | (go_simp; with_reducible rfl)
    (try simp only [Act.put, List.setIfInBounds_toArray, List.set_cons_zero, List.set_cons_succ])
    refine wpAnyH_take (i := 2) (oi := { dst := some 71, op := Go.Op.fieldAddr 24 (Go.Operand.tmp 3) 0, type := 0, pos := _, after := #[{ on := 1, ground := Go.Ground.guard }], guard := some (1, true) }) (v := ?v153) rfl (by kernel_rfl) (by kernel_rfl) (by kernel_rfl) (fun _ _ _ h => h) (Or.inl ⟨by kernel_rfl, ?hy153⟩) (by assumption) ?_
    case hy153 => intro w hSw; (try dsimp only at hSw); first | (go_simp; done) | (go_simp; with_reducible rfl)
    (try simp only [Act.put, List.setIfInBounds_toArray, List.set_cons_zero, List.set_cons_succ])
    refine wpAnyH_take (i := 3) (oi := { dst := some 72, op := Go.Op.load 3 (Go.Operand.tmp 71), type := 3, pos := _, after := #[{ on := 2, ground := Go.Ground.data }, { on := 1, ground := Go.Ground.guard }], guard := some (1, true) }) (v := ?v154) rfl (by kernel_rfl) (by kernel_rfl) (by kernel_rfl) (fun _ _ _ h => h) (Or.inl ⟨by kernel_rfl, ?hy154⟩) (by assumption) ?_
    case hy154 => intro w hSw; (try dsimp only at hSw); first | (go_simp; done) | (go_simp; with_reducible rfl)
    (try simp only [Act.put, List.setIfInBounds_toArray, List.set_cons_zero, List.set_cons_succ])
    refine wpAnyH_take (i := 4) (oi := { dst := some 73, op := Go.Op.fieldAddr 24 (Go.Operand.tmp 3) 1, type := 0, pos := _, after := #[{ on := 1, ground := Go.Ground.guard }], guard := some (1, true) }) (v := ?v155) rfl (by kernel_rfl) (by kernel_rfl) (by kernel_rfl) (fun _ _ _ h => h) (Or.inl ⟨by kernel_rfl, ?hy155⟩) (by assumption) ?_
    case hy155 => intro w hSw; (try dsimp only at hSw); first | (go_simp; done) | (go_simp; with_reducible rfl)
    (try simp only [Act.put, List.setIfInBounds_toArray, List.set_cons_zero, List.set_cons_succ])
    refine wpAnyH_take (i := 5) (oi := { dst := some 74, op := Go.Op.load 3 (Go.Operand.tmp 73), type := 3, pos := _, after := #[{ on := 4, ground := Go.Ground.data }, { on := 1, ground := Go.Ground.guard }], guard := some (1, true) }) (v := ?v156) rfl (by kernel_rfl) (by kernel_rfl) (by kernel_rfl) (fun _ _ _ h => h) (Or.inl ⟨by kernel_rfl, ?hy156⟩) (by assumption) ?_
    case hy156 => intro w hSw; (try dsimp only at hSw); first | (go_simp; done) | (go_simp; with_reducible rfl)
    (try simp only [Act.put, List.setIfInBounds_toArray, List.set_cons_zero, List.set_cons_succ])
    refine wpAnyH_take (i := 8) (oi := { dst := some 77, op := Go.Op.fieldAddr 24 (Go.Operand.tmp 3) 0, type := 0, pos := _, after := #[{ on := 1, ground := Go.Ground.guard }], guard := some (1, true) }) (v := ?v157) rfl (by kernel_rfl) (by kernel_rfl) (by kernel_rfl) (fun _ _ _ h => h) (Or.inl ⟨by kernel_rfl, ?hy157⟩) (by assumption) ?_
    case hy157 => intro w hSw; (try dsimp only at hSw); first | (go_simp; done) | (go_simp; with_reducible rfl)
    (try simp only [Act.put, List.setIfInBounds_toArray, List.set_cons_zero, List.set_cons_succ])
    refine wpAnyH_take (i := 9) (oi := { dst := some 78, op := Go.Op.load 3 (Go.Operand.tmp 77), type := 3, pos := _, after := #[{ on := 8, ground := Go.Ground.data }, { on := 1, ground := Go.Ground.guard }], guard := some (1, true) }) (v := ?v158) rfl (by kernel_rfl) (by kernel_rfl) (by kernel_rfl) (fun _ _ _ h => h) (Or.inl ⟨by kernel_rfl, ?hy158⟩) (by assumption) ?_
    case hy158 => intro w hSw; (try dsimp only at hSw); first | (go_simp; done) | (go_simp; with_reducible rfl)
    (try simp only [Act.put, List.setIfInBounds_toArray, List.set_cons_zero, List.set_cons_succ])
    refine wpAnyH_take (i := 10) (oi := { dst := some 79, op := Go.Op.fieldAddr 24 (Go.Operand.tmp 3) 1, type := 0, pos := _, after := #[{ on := 1, ground := Go.Ground.guard }], guard := some (1, true) }) (v := ?v159) rfl (by kernel_rfl) (by kernel_rfl) (by kernel_rfl) (fun _ _ _ h => h) (Or.inl ⟨by kernel_rfl, ?hy159⟩) (by assumption) ?_
    case hy159 => intro w hSw; (try dsimp only at hSw); first | (go_simp; done) | (go_simp; with_reducible rfl)
    (try simp only [Act.put, List.setIfInBounds_toArray, List.set_cons_zero, List.set_cons_succ])
    refine wpAnyH_take (i := 11) (oi := { dst := some 80, op := Go.Op.load 3 (Go.Operand.tmp 79), type := 3, pos := _, after := #[{ on := 10, ground := Go.Ground.data }, { on := 1, ground := Go.Ground.guard }], guard := some (1, true) }) (v := ?v160) rfl (by kernel_rfl) (by kernel_rfl) (by kernel_rfl) (fun _ _ _ h => h) (Or.inl ⟨by kernel_rfl, ?hy160⟩) (by assumption) ?_
    case hy160 => intro w hSw; (try dsimp only at hSw); first | (go_simp; done) | (go_simp; with_reducible rfl)
    (try simp only [Act.put, List.setIfInBounds_toArray, List.set_cons_zero, List.set_cons_succ])
    refine wpAnyH_ready (rs := [6]) (by kernel_rfl) (by simp) ?_
    refine AllReadyH.cons (o := { dst := some 75, op := Go.Op.call { callee := Go.Callee.value (Go.Operand.func 18), args := #[Go.Operand.tmp 72, Go.Operand.tmp 74], argTypes := #[3, 3] }, type := 29, pos := _, after := #[{ on := 3, ground := Go.Ground.data }, { on := 5, ground := Go.Ground.data }, { on := 1, ground := Go.Ground.chain }, { on := 1, ground := Go.Ground.guard }], guard := some (1, true) }) rfl (fun K hK => ?_) AllReadyH.nil
    go_simp
    (go_at_call 18; refine (new_all (R := R0) (C := C0) (by omega) (by omega)).mono ?_; rintro e w11_ ⟨⟨s5, n5, c5, rfl, hs⟩, g11⟩; have N := Lib.hid hs; have Z_11 := Lib.hid (Z_10.out.grow g11); have A_11 := Lib.hid (A_10.out.grow g11); have Bxb_11 := Lib.hid (Bxb_10.out.grow g11); have Byb_11 := Lib.hid (Byb_10.out.grow g11); have Bwb_11 := Lib.hid (Bwb_10.out.grow g11); have HM_11 := Lib.hid (HM_10.out.grow g11); have HG_11 := Lib.hid (HG_10.out.trans g11); clear hs)
    (try go_wp2_with fail)
    refine hK.out _ _ ?hS162 (fun hHeld => ?_)
    case hS162 => (try dsimp only); exact keep_h3 g11 (by assumption)
    clear hK K
    (try simp only [Act.put, List.setIfInBounds_toArray, List.set_cons_zero, List.set_cons_succ])
    refine wpAnyH_ready (rs := [7]) (by kernel_rfl) (by simp) ?_
    refine AllReadyH.cons (o := { dst := some 76, op := Go.Op.call { callee := Go.Callee.value (Go.Operand.func 15), args := #[Go.Operand.tmp 75], argTypes := #[29] }, type := 24, pos := _, after := #[{ on := 6, ground := Go.Ground.data }, { on := 6, ground := Go.Ground.chain }, { on := 1, ground := Go.Ground.guard }], guard := some (1, true) }) rfl (fun K hK => ?_) AllReadyH.nil
    go_simp
    (go_at_call 15; refine (back_any _ _ _ _ _ _).mono ?_; rintro e w12_ ⟨rfl, g12⟩; have Z_12 := Lib.hid (Z_11.out.grow g12); have A_12 := Lib.hid (A_11.out.grow g12); have N_12 := Lib.hid (N.out.grow g12); have Bxb_12 := Lib.hid (Bxb_11.out.grow g12); have Byb_12 := Lib.hid (Byb_11.out.grow g12); have Bwb_12 := Lib.hid (Bwb_11.out.grow g12); have HM_12 := Lib.hid (HM_11.out.grow g12); have HG_12 := Lib.hid (HG_11.out.trans g12))
    (try go_wp2_with fail)
    refine hK.out _ _ ?hS164 (fun hHeld => ?_)
    case hS164 => (try dsimp only); exact keep_h3 g12 (by assumption)
    clear hK K
    (try simp only [Act.put, List.setIfInBounds_toArray, List.set_cons_zero, List.set_cons_succ])
    refine wpAnyH_ready (rs := [12]) (by kernel_rfl) (by simp) ?_
    refine AllReadyH.cons (o := { dst := some 81, op := Go.Op.call { callee := Go.Callee.value (Go.Operand.func 19), args := #[Go.Operand.tmp 78, Go.Operand.tmp 80], argTypes := #[3, 3] }, type := 24, pos := _, after := #[{ on := 9, ground := Go.Ground.data }, { on := 11, ground := Go.Ground.data }, { on := 7, ground := Go.Ground.chain }, { on := 1, ground := Go.Ground.guard }], guard := some (1, true) }) rfl (fun K hK => ?_) AllReadyH.nil
    go_simp
    (go_at_call 19; refine (rnew_all (R := R0) (C := C0) (by omega) (by omega)).mono ?_; rintro e w13_ ⟨⟨s6, n6, c6, rfl, hs⟩, g13⟩; have P := Lib.hid hs; have Z_13 := Lib.hid (Z_12.out.grow g13); have A_13 := Lib.hid (A_12.out.grow g13); have N_13 := Lib.hid (N_12.out.grow g13); have Bxb_13 := Lib.hid (Bxb_12.out.grow g13); have Byb_13 := Lib.hid (Byb_12.out.grow g13); have Bwb_13 := Lib.hid (Bwb_12.out.grow g13); have HM_13 := Lib.hid (HM_12.out.grow g13); have HG_13 := Lib.hid (HG_12.out.trans g13); clear hs)
    (try go_wp2_with fail)
    refine hK.out _ _ ?hS166 (fun hHeld => ?_)
    case hS166 => (try dsimp only); exact keep_h3 g13 (by assumption)
    clear hK K
    (try simp only [Act.put, List.setIfInBounds_toArray, List.set_cons_zero, List.set_cons_succ])
    refine wpAnyH_ready (rs := [13]) (by kernel_rfl) (by simp) ?_
    refine AllReadyH.cons (o := { dst := some 82, op := Go.Op.call { callee := Go.Callee.value (Go.Operand.func 14), args := #[Go.Operand.tmp 76, Go.Operand.tmp 81], argTypes := #[24, 24] }, type := 4, pos := _, after := #[{ on := 7, ground := Go.Ground.data }, { on := 12, ground := Go.Ground.data }, { on := 12, ground := Go.Ground.chain }, { on := 1, ground := Go.Ground.guard }], guard := some (1, true) }) rfl (fun K hK => ?_) AllReadyH.nil
    go_simp
    (go_at_call 14; refine (msame_seen N_13.out P.out).mono ?_; rintro e w14_ ⟨rfl, g14⟩; have Z_14 := Lib.hid (Z_13.out.grow g14); have A_14 := Lib.hid (A_13.out.grow g14); have N_14 := Lib.hid (N_13.out.grow g14); have P_14 := Lib.hid (P.out.grow g14); have Bxb_14 := Lib.hid (Bxb_13.out.grow g14); have Byb_14 := Lib.hid (Byb_13.out.grow g14); have Bwb_14 := Lib.hid (Bwb_13.out.grow g14); have HM_14 := Lib.hid (HM_13.out.grow g14); have HG_14 := Lib.hid (HG_13.out.trans g14))
    (try go_wp2_with fail)
    refine hK.out _ _ ?hS168 (fun hHeld => ?_)
    case hS168 => (try dsimp only); exact keep_h3 g14 (by assumption)
    clear hK K
    (try simp only [Act.put, List.setIfInBounds_toArray, List.set_cons_zero, List.set_cons_succ])
    refine wpAnyH_take (i := 14) (oi := { dst := some 83, op := Go.Op.pick (Go.Operand.tmp 70) (Go.Operand.tmp 82) (Go.Operand.const (Go.Value.bool false)), type := 4, pos := _, after := #[{ on := 1, ground := Go.Ground.data }, { on := 13, ground := Go.Ground.data }], guard := none }) (v := ?v169) rfl (by kernel_rfl) (by kernel_rfl) (by kernel_rfl) (fun _ _ _ h => h) (Or.inl ⟨by kernel_rfl, ?hy169⟩) (by assumption) ?_
    case hy169 => intro w hSw; (try dsimp only at hSw); first | (go_simp; done) | (go_simp; with_reducible rfl)
    (try simp only [Act.put, List.setIfInBounds_toArray, List.set_cons_zero, List.set_cons_succ])
    refine wpAnyH_take (i := 15) (oi := { dst := some 6, op := Go.Op.assign (Go.Operand.tmp 83), type := 4, pos := _, after := #[{ on := 14, ground := Go.Ground.data }, { on := 13, ground := Go.Ground.chain }, { on := 0, ground := Go.Ground.phase }, { on := 1, ground := Go.Ground.phase }, { on := 2, ground := Go.Ground.phase }, { on := 3, ground := Go.Ground.phase }, { on := 4, ground := Go.Ground.phase }, { on := 5, ground := Go.Ground.phase }, { on := 6, ground := Go.Ground.phase }, { on := 7, ground := Go.Ground.phase }, { on := 8, ground := Go.Ground.phase }, { on := 9, ground := Go.Ground.phase }, { on := 10, ground := Go.Ground.phase }, { on := 11, ground := Go.Ground.phase }, { on := 12, ground := Go.Ground.phase }, { on := 13, ground := Go.Ground.phase }, { on := 14, ground := Go.Ground.phase }], guard := none }) (v := ?v170) rfl (by kernel_rfl) (by kernel_rfl) (by kernel_rfl) (fun _ _ _ h => h) (Or.inl ⟨by kernel_rfl, ?hy170⟩) (by assumption) ?_
    case hy170 => intro w hSw; (try dsimp only at hSw); first | (go_simp; done) | (go_simp; with_reducible rfl)
    (try simp only [Act.put, List.setIfInBounds_toArray, List.set_cons_zero, List.set_cons_succ])
    refine wpAnyH_done (by kernel_rfl) ?_ _
    clear hHeld
    have m0_14 := HM_14.out.c0
    have m1_14 := HM_14.out.c1
    have m2_14 := HM_14.out.c2
    have hl_14 := HM_14.out.lt
    have b0xb_14 := Bxb_14.out.c0
    have b1xb_14 := Bxb_14.out.c1
    have b2xb_14 := Bxb_14.out.c2
    have blxb_14 := Bxb_14.out.lt
    have b0yb_14 := Byb_14.out.c0
    have b1yb_14 := Byb_14.out.c1
    have b2yb_14 := Byb_14.out.c2
    have blyb_14 := Byb_14.out.lt
    have b0wb_14 := Bwb_14.out.c0
    have b1wb_14 := Bwb_14.out.c1
    have b2wb_14 := Bwb_14.out.c2
    have blwb_14 := Bwb_14.out.lt
    go_wp2
    go_ret
    exact ⟨rfl, HG_14.out⟩

set_option maxRecDepth 100000 in
set_option maxHeartbeats 4000000 in
theorem way_true1 (R0 C0 : Int) (a0 : Option Addr) (len0 cap0 : Nat) (zs0 : List Int) (a1 a2 : Int) (w : World) (hA : ¬ 600 < len0) (h0 : Seen w a0 len0 cap0 zs0) (hR : rightB R0 C0 len0 = true) (hB : 50 < R0) :
    Calls Try.prog 3 #[.agg #[.int .i64 R0, .int .i64 C0, .slice a0 len0 cap0], .int .i64 a1, .int .i64 a2] w fun e w' => e = .returned (.bool true) ∧ Below w.heap.size w w' := by

    have HG0 : Hid (Grew w (w.alloc (.cells #[.int .i64 R0, .int .i64 C0, .slice a0 len0 cap0] 24))) := Lib.hid ((Grew.refl w).alloc _)
    have HM0 := Lib.hid (Three.new w 24 (.int .i64 R0) (.int .i64 C0) (.slice a0 len0 cap0))

    have HZ0 := Lib.hid h0
    have HR := Lib.hid hR
    clear h0 hR
    go_enter Try.func3, Try.ntmps3
    have Z0 := Lib.hid (HZ0.out.grow HG0.out)
    obtain ⟨av, hav⟩ : ∃ av, atV zs0 R0 C0 a1 a2 = av := ⟨_, rfl⟩
    have HAV := Lib.hid hav
    have hne : (av != av) = false := bne_self_eq_false av
    clear hav
    go_wp2_with fail
    refine (few_any R0 C0 a0 len0 cap0 _).mono ?_
    rintro e w1_ ⟨rfl, g1⟩
    have Z_1 := Lib.hid (Z0.out.grow g1)
    have HG_1 := Lib.hid (HG0.out.trans g1)
    have HM_1 := Lib.hid (HM0.out.grow g1)
    have m0_1 := HM_1.out.c0
    have m1_1 := HM_1.out.c1
    have m2_1 := HM_1.out.c2
    have hl_1 := HM_1.out.lt
    clear g1
    rw [decide_eq_true (by omega)]
    go_wp2_with fail
    refine (given_any R0 C0 a0 len0 cap0 _).mono ?_
    rintro e w2_ ⟨rfl, g2⟩
    have Z_2 := Lib.hid (Z_1.out.grow g2)
    have HG_2 := Lib.hid (HG_1.out.trans g2)
    have HM_2 := Lib.hid (HM_1.out.grow g2)
    clear m0_1 m1_1 m2_1 hl_1
    have m0_2 := HM_2.out.c0
    have m1_2 := HM_2.out.c1
    have m2_2 := HM_2.out.c2
    have hl_2 := HM_2.out.lt
    clear g2
    go_wp2_with fail
    have gA : Grew w2_ (w2_.alloc (.cells #[.int .i64 R0, .int .i64 C0, .slice a0 len0 cap0] 29)) := (Grew.refl _).alloc _
    have Hxb := Lib.hid (Three.new w2_ 29 (.int .i64 R0) (.int .i64 C0) (.slice a0 len0 cap0))
    have Z_2a := Lib.hid (Z_2.out.grow gA)
    have HG_2a := Lib.hid (HG_2.out.trans gA)
    have HM_2a := Lib.hid (HM_2.out.grow gA)
    clear m0_2 m1_2 m2_2 hl_2
    clear gA
    generalize w2_.alloc (.cells #[.int .i64 R0, .int .i64 C0, .slice a0 len0 cap0] 29) = w2a_ at *
    generalize w2_.heap.size = xb at *
    refine (of_all Z_2a.out HR.out).mono ?_
    rintro e w3_ ⟨⟨s1, n1, c1, rfl, hs⟩, g3⟩
    have A := Lib.hid hs
    have Z_3 := Lib.hid (Z_2a.out.grow g3)
    have HG_3 := Lib.hid (HG_2a.out.trans g3)
    have HM_3 := Lib.hid (HM_2a.out.grow g3)
    have m0_3 := HM_3.out.c0
    have m1_3 := HM_3.out.c1
    have m2_3 := HM_3.out.c2
    have hl_3 := HM_3.out.lt
    have xb_3 := Lib.hid (Hxb.out.grow g3)
    have b0xb_3 := xb_3.out.c0
    have b1xb_3 := xb_3.out.c1
    have b2xb_3 := xb_3.out.c2
    have blxb_3 := xb_3.out.lt
    clear hs
    clear g3
    go_wp2_with fail
    have gA : Grew w3_ (w3_.alloc (.cells #[.int .i64 R0, .int .i64 C0, .slice s1 n1 c1] 29)) := (Grew.refl _).alloc _
    have Hyb := Lib.hid (Three.new w3_ 29 (.int .i64 R0) (.int .i64 C0) (.slice s1 n1 c1))
    have Z_3a := Lib.hid (Z_3.out.grow gA)
    have A_3a := Lib.hid (A.out.grow gA)
    have Bxb_3a := Lib.hid (xb_3.out.grow gA)
    clear b0xb_3 b1xb_3 b2xb_3 blxb_3
    have HG_3a := Lib.hid (HG_3.out.trans gA)
    have HM_3a := Lib.hid (HM_3.out.grow gA)
    clear m0_3 m1_3 m2_3 hl_3
    clear gA
    generalize w3_.alloc (.cells #[.int .i64 R0, .int .i64 C0, .slice s1 n1 c1] 29) = w3a_ at *
    generalize w3_.heap.size = yb at *
    refine (rright_any R0 C0 a0 len0 cap0 _ (by omega)).mono ?_
    rintro e w4_ ⟨rfl, g4⟩
    have Z_4 := Lib.hid (Z_3a.out.grow g4)
    have A_4 := Lib.hid (A_3a.out.grow g4)
    have HG_4 := Lib.hid (HG_3a.out.trans g4)
    have HM_4 := Lib.hid (HM_3a.out.grow g4)
    have m0_4 := HM_4.out.c0
    have m1_4 := HM_4.out.c1
    have m2_4 := HM_4.out.c2
    have hl_4 := HM_4.out.lt
    have xb_4 := Lib.hid (Bxb_3a.out.grow g4)
    have b0xb_4 := xb_4.out.c0
    have b1xb_4 := xb_4.out.c1
    have b2xb_4 := xb_4.out.c2
    have blxb_4 := xb_4.out.lt
    have yb_4 := Lib.hid (Hyb.out.grow g4)
    have b0yb_4 := yb_4.out.c0
    have b1yb_4 := yb_4.out.c1
    have b2yb_4 := yb_4.out.c2
    have blyb_4 := yb_4.out.lt
    clear g4
    rw [HR.out]
    go_wp2_with fail
    have gA : Grew w4_ (w4_.alloc (.cells #[.int .i64 R0, .int .i64 C0, .slice a0 len0 cap0] 24)) := (Grew.refl _).alloc _
    have Hwb := Lib.hid (Three.new w4_ 24 (.int .i64 R0) (.int .i64 C0) (.slice a0 len0 cap0))
    have Z_4a := Lib.hid (Z_4.out.grow gA)
    have A_4a := Lib.hid (A_4.out.grow gA)
    have Bxb_4a := Lib.hid (xb_4.out.grow gA)
    clear b0xb_4 b1xb_4 b2xb_4 blxb_4
    have Byb_4a := Lib.hid (yb_4.out.grow gA)
    clear b0yb_4 b1yb_4 b2yb_4 blyb_4
    have HG_4a := Lib.hid (HG_4.out.trans gA)
    have HM_4a := Lib.hid (HM_4.out.grow gA)
    clear m0_4 m1_4 m2_4 hl_4
    clear gA
    generalize w4_.alloc (.cells #[.int .i64 R0, .int .i64 C0, .slice a0 len0 cap0] 24) = w4a_ at *
    generalize w4_.heap.size = wb at *
    have gD : Grew w4a_ w4a_.drew := Grew.drew' (Grew.refl _)
    have Z_4d := Lib.hid (Z_4a.out.grow gD)
    have A_4d := Lib.hid (A_4a.out.grow gD)
    have Bxb_4d := Lib.hid (Bxb_4a.out.grow gD)
    have Byb_4d := Lib.hid (Byb_4a.out.grow gD)
    have Bwb_4d := Lib.hid (Hwb.out.grow gD)
    have HM_4d := Lib.hid (HM_4a.out.grow gD)
    have HG_4d := Lib.hid (HG_4a.out.trans gD)
    refine wp_region_held_drew (S := (fun W' => Grew w4a_ W' ∧ W'.cell? ⟨xb, 0, none⟩ = some (.int .i64 R0) ∧ W'.cell? ⟨xb, 1, none⟩ = some (.int .i64 C0) ∧ W'.cell? ⟨xb, 2, none⟩ = some (.slice a0 len0 cap0) ∧ W'.cell? ⟨yb, 0, none⟩ = some (.int .i64 R0) ∧ W'.cell? ⟨yb, 1, none⟩ = some (.int .i64 C0) ∧ W'.cell? ⟨yb, 2, none⟩ = some (.slice s1 n1 c1) ∧ W'.cell? ⟨wb, 0, none⟩ = some (.int .i64 R0) ∧ W'.cell? ⟨wb, 1, none⟩ = some (.int .i64 C0) ∧ W'.cell? ⟨wb, 2, none⟩ = some (.slice a0 len0 cap0) ∧ W'.cell? ⟨w.heap.size, 0, none⟩ = some (.int .i64 R0) ∧ W'.cell? ⟨w.heap.size, 1, none⟩ = some (.int .i64 C0) ∧ W'.cell? ⟨w.heap.size, 2, none⟩ = some (.slice a0 len0 cap0))) (by kernel_rfl) ⟨Grew.drew' (Grew.refl _), Bxb_4a.out.c0, Bxb_4a.out.c1, Bxb_4a.out.c2, Byb_4a.out.c0, Byb_4a.out.c1, Byb_4a.out.c2, Hwb.out.c0, Hwb.out.c1, Hwb.out.c2, HM_4a.out.c0, HM_4a.out.c1, HM_4a.out.c2⟩ (fun hHeld => ?_)
    refine wpAnyH_take (i := 0) (oi := { dst := some 33, op := Go.Op.load 29 (Go.Operand.tmp 7), type := 29, pos := _, after := #[], guard := none }) (v := ?v171) rfl (by kernel_rfl) (by kernel_rfl) (by kernel_rfl) (fun _ _ _ h => h) (Or.inl ⟨by kernel_rfl, ?hy171⟩) (by assumption) ?_
    case hy171 => intro w hSw; (try dsimp only at hSw); first | (go_simp; done) | (go_simp; with_reducible rfl)
    (try simp only [Act.put, List.setIfInBounds_toArray, List.set_cons_zero, List.set_cons_succ])
    refine wpAnyH_take (i := 2) (oi := { dst := some 35, op := Go.Op.move (Go.Operand.tmp 10), type := 4, pos := _, after := #[], guard := none }) (v := ?v172) rfl (by kernel_rfl) (by kernel_rfl) (by kernel_rfl) (fun _ _ _ h => h) (Or.inl ⟨by kernel_rfl, ?hy172⟩) (by assumption) ?_
    case hy172 => intro w hSw; (try dsimp only at hSw); first | (go_simp; done) | (go_simp; with_reducible rfl)
    (try simp only [Act.put, List.setIfInBounds_toArray, List.set_cons_zero, List.set_cons_succ])
    refine wpAnyH_ready (rs := [1]) (by kernel_rfl) (by simp) ?_
    refine AllReadyH.cons (o := { dst := some 34, op := Go.Op.call { callee := Go.Callee.value (Go.Operand.func 13), args := #[Go.Operand.tmp 33], argTypes := #[29] }, type := 4, pos := _, after := #[{ on := 0, ground := Go.Ground.data }], guard := none }) rfl (fun K hK => ?_) AllReadyH.nil
    go_simp
    (go_at_call 13; refine (right_any R0 C0 a0 len0 cap0 _).mono ?_; rintro e w5_ ⟨rfl, g5⟩; rw [HR.out]; have Z_5 := Lib.hid (Z_4d.out.grow g5); have A_5 := Lib.hid (A_4d.out.grow g5); have Bxb_5 := Lib.hid (Bxb_4d.out.grow g5); have Byb_5 := Lib.hid (Byb_4d.out.grow g5); have Bwb_5 := Lib.hid (Bwb_4d.out.grow g5); have HM_5 := Lib.hid (HM_4d.out.grow g5); have HG_5 := Lib.hid (HG_4d.out.trans g5))
    (try go_wp2_with fail)
    refine hK.out _ _ ?hS174 (fun hHeld => ?_)
    case hS174 => (try dsimp only); exact keep_h12 g5 (by assumption)
    clear hK K
    (try simp only [Act.put, List.setIfInBounds_toArray, List.set_cons_zero, List.set_cons_succ])
    refine wpAnyH_take (i := 3) (oi := { dst := some 36, op := Go.Op.binOp Go.BinOp.neq 4 (Go.Operand.tmp 34) (Go.Operand.tmp 35) 4, type := 4, pos := _, after := #[{ on := 1, ground := Go.Ground.data }, { on := 2, ground := Go.Ground.data }], guard := none }) (v := ?v175) rfl (by kernel_rfl) (by kernel_rfl) (by kernel_rfl) (fun _ _ _ h => h) (Or.inl ⟨by kernel_rfl, ?hy175⟩) (by assumption) ?_
    case hy175 => intro w hSw; (try dsimp only at hSw); first | (go_simp; done) | (go_simp; with_reducible rfl)
    (try simp only [Act.put, List.setIfInBounds_toArray, List.set_cons_zero, List.set_cons_succ])
    refine wpAnyH_take (i := 4) (oi := { dst := some 37, op := Go.Op.move (Go.Operand.tmp 36), type := 4, pos := _, after := #[{ on := 3, ground := Go.Ground.data }, { on := 1, ground := Go.Ground.chain }], guard := none }) (v := ?v176) rfl (by kernel_rfl) (by kernel_rfl) (by kernel_rfl) (fun _ _ _ h => h) (Or.inl ⟨by kernel_rfl, ?hy176⟩) (by assumption) ?_
    case hy176 => intro w hSw; (try dsimp only at hSw); first | (go_simp; done) | (go_simp; with_reducible rfl)
    (try simp only [Act.put, List.setIfInBounds_toArray, List.set_cons_zero, List.set_cons_succ])
    refine wpAnyH_take (i := 5) (oi := { dst := some 38, op := Go.Op.move (Go.Operand.tmp 9), type := 4, pos := _, after := #[{ on := 4, ground := Go.Ground.guard }], guard := some (4, false) }) (v := ?v177) rfl (by kernel_rfl) (by kernel_rfl) (by kernel_rfl) (fun _ _ _ h => h) (Or.inl ⟨by kernel_rfl, ?hy177⟩) (by assumption) ?_
    case hy177 => intro w hSw; (try dsimp only at hSw); first | (go_simp; done) | (go_simp; with_reducible rfl)
    (try simp only [Act.put, List.setIfInBounds_toArray, List.set_cons_zero, List.set_cons_succ])
    refine wpAnyH_take (i := 6) (oi := { dst := some 39, op := Go.Op.move (Go.Operand.tmp 10), type := 4, pos := _, after := #[{ on := 4, ground := Go.Ground.guard }], guard := some (4, false) }) (v := ?v178) rfl (by kernel_rfl) (by kernel_rfl) (by kernel_rfl) (fun _ _ _ h => h) (Or.inl ⟨by kernel_rfl, ?hy178⟩) (by assumption) ?_
    case hy178 => intro w hSw; (try dsimp only at hSw); first | (go_simp; done) | (go_simp; with_reducible rfl)
    (try simp only [Act.put, List.setIfInBounds_toArray, List.set_cons_zero, List.set_cons_succ])
    refine wpAnyH_take (i := 7) (oi := { dst := some 40, op := Go.Op.binOp Go.BinOp.neq 4 (Go.Operand.tmp 38) (Go.Operand.tmp 39) 4, type := 4, pos := _, after := #[{ on := 5, ground := Go.Ground.data }, { on := 6, ground := Go.Ground.data }, { on := 4, ground := Go.Ground.guard }], guard := some (4, false) }) (v := ?v179) rfl (by kernel_rfl) (by kernel_rfl) (by kernel_rfl) (fun _ _ _ h => h) (Or.inl ⟨by kernel_rfl, ?hy179⟩) (by assumption) ?_
    case hy179 => intro w hSw; (try dsimp only at hSw); first | (go_simp; done) | (go_simp; with_reducible rfl)
    (try simp only [Act.put, List.setIfInBounds_toArray, List.set_cons_zero, List.set_cons_succ])
    refine wpAnyH_take (i := 8) (oi := { dst := some 41, op := Go.Op.pick (Go.Operand.tmp 37) (Go.Operand.const (Go.Value.bool true)) (Go.Operand.tmp 40), type := 4, pos := _, after := #[{ on := 4, ground := Go.Ground.data }, { on := 7, ground := Go.Ground.data }], guard := none }) (v := ?v180) rfl (by kernel_rfl) (by kernel_rfl) (by kernel_rfl) (fun _ _ _ h => h) (Or.inl ⟨by kernel_rfl, ?hy180⟩) (by assumption) ?_
    case hy180 => intro w hSw; (try dsimp only at hSw); first | (go_simp; done) | (go_simp; with_reducible rfl)
    (try simp only [Act.put, List.setIfInBounds_toArray, List.set_cons_zero, List.set_cons_succ])
    refine wpAnyH_take (i := 9) (oi := { dst := some 42, op := Go.Op.move (Go.Operand.tmp 41), type := 4, pos := _, after := #[{ on := 8, ground := Go.Ground.data }, { on := 4, ground := Go.Ground.chain }], guard := none }) (v := ?v181) rfl (by kernel_rfl) (by kernel_rfl) (by kernel_rfl) (fun _ _ _ h => h) (Or.inl ⟨by kernel_rfl, ?hy181⟩) (by assumption) ?_
    case hy181 => intro w hSw; (try dsimp only at hSw); first | (go_simp; done) | (go_simp; with_reducible rfl)
    (try simp only [Act.put, List.setIfInBounds_toArray, List.set_cons_zero, List.set_cons_succ])
    refine wpAnyH_take (i := 10) (oi := { dst := some 43, op := Go.Op.load 29 (Go.Operand.tmp 8), type := 29, pos := _, after := #[{ on := 9, ground := Go.Ground.guard }], guard := some (9, false) }) (v := ?v182) rfl (by kernel_rfl) (by kernel_rfl) (by kernel_rfl) (fun _ _ _ h => h) (Or.inl ⟨by kernel_rfl, ?hy182⟩) (by assumption) ?_
    case hy182 => intro w hSw; (try dsimp only at hSw); first | (go_simp; done) | (go_simp; with_reducible rfl)
    (try simp only [Act.put, List.setIfInBounds_toArray, List.set_cons_zero, List.set_cons_succ])
    refine wpAnyH_take (i := 12) (oi := { dst := some 45, op := Go.Op.load 24 (Go.Operand.tmp 11), type := 24, pos := _, after := #[{ on := 9, ground := Go.Ground.guard }], guard := some (9, false) }) (v := ?v183) rfl (by kernel_rfl) (by kernel_rfl) (by kernel_rfl) (fun _ _ _ h => h) (Or.inl ⟨by kernel_rfl, ?hy183⟩) (by assumption) ?_
    case hy183 => intro w hSw; (try dsimp only at hSw); first | (go_simp; done) | (go_simp; with_reducible rfl)
    (try simp only [Act.put, List.setIfInBounds_toArray, List.set_cons_zero, List.set_cons_succ])
    refine wpAnyH_ready (rs := [11]) (by kernel_rfl) (by simp) ?_
    refine AllReadyH.cons (o := { dst := some 44, op := Go.Op.call { callee := Go.Callee.value (Go.Operand.func 15), args := #[Go.Operand.tmp 43], argTypes := #[29] }, type := 24, pos := _, after := #[{ on := 10, ground := Go.Ground.data }, { on := 9, ground := Go.Ground.chain }, { on := 9, ground := Go.Ground.guard }], guard := some (9, false) }) rfl (fun K hK => ?_) AllReadyH.nil
    go_simp
    (go_at_call 15; refine (back_any _ _ _ _ _ _).mono ?_; rintro e w6_ ⟨rfl, g6⟩; have Z_6 := Lib.hid (Z_5.out.grow g6); have A_6 := Lib.hid (A_5.out.grow g6); have Bxb_6 := Lib.hid (Bxb_5.out.grow g6); have Byb_6 := Lib.hid (Byb_5.out.grow g6); have Bwb_6 := Lib.hid (Bwb_5.out.grow g6); have HM_6 := Lib.hid (HM_5.out.grow g6); have HG_6 := Lib.hid (HG_5.out.trans g6))
    (try go_wp2_with fail)
    refine hK.out _ _ ?hS185 (fun hHeld => ?_)
    case hS185 => (try dsimp only); exact keep_h12 g6 (by assumption)
    clear hK K
    (try simp only [Act.put, List.setIfInBounds_toArray, List.set_cons_zero, List.set_cons_succ])
    refine wpAnyH_ready (rs := [13]) (by kernel_rfl) (by simp) ?_
    refine AllReadyH.cons (o := { dst := some 46, op := Go.Op.call { callee := Go.Callee.value (Go.Operand.func 14), args := #[Go.Operand.tmp 44, Go.Operand.tmp 45], argTypes := #[24, 24] }, type := 4, pos := _, after := #[{ on := 11, ground := Go.Ground.data }, { on := 12, ground := Go.Ground.data }, { on := 11, ground := Go.Ground.chain }, { on := 9, ground := Go.Ground.guard }], guard := some (9, false) }) rfl (fun K hK => ?_) AllReadyH.nil
    go_simp
    (go_at_call 14; refine (msame_seen A_6.out Z_6.out).mono ?_; rintro e w7_ ⟨rfl, g7⟩; have Z_7 := Lib.hid (Z_6.out.grow g7); have A_7 := Lib.hid (A_6.out.grow g7); have Bxb_7 := Lib.hid (Bxb_6.out.grow g7); have Byb_7 := Lib.hid (Byb_6.out.grow g7); have Bwb_7 := Lib.hid (Bwb_6.out.grow g7); have HM_7 := Lib.hid (HM_6.out.grow g7); have HG_7 := Lib.hid (HG_6.out.trans g7))
    (try go_wp2_with fail)
    refine hK.out _ _ ?hS187 (fun hHeld => ?_)
    case hS187 => (try dsimp only); exact keep_h12 g7 (by assumption)
    clear hK K
    (try simp only [Act.put, List.setIfInBounds_toArray, List.set_cons_zero, List.set_cons_succ])
    refine wpAnyH_take (i := 14) (oi := { dst := some 47, op := Go.Op.unOp Go.UnOp.not 4 (Go.Operand.tmp 46), type := 4, pos := _, after := #[{ on := 13, ground := Go.Ground.data }, { on := 9, ground := Go.Ground.guard }], guard := some (9, false) }) (v := ?v188) rfl (by kernel_rfl) (by kernel_rfl) (by kernel_rfl) (fun _ _ _ h => h) (Or.inl ⟨by kernel_rfl, ?hy188⟩) (by assumption) ?_
    case hy188 => intro w hSw; (try dsimp only at hSw); first | (go_simp; done) | (go_simp; with_reducible rfl)
    (try simp only [Act.put, List.setIfInBounds_toArray, List.set_cons_zero, List.set_cons_succ])
    refine wpAnyH_take (i := 15) (oi := { dst := some 48, op := Go.Op.pick (Go.Operand.tmp 42) (Go.Operand.const (Go.Value.bool true)) (Go.Operand.tmp 47), type := 4, pos := _, after := #[{ on := 9, ground := Go.Ground.data }, { on := 14, ground := Go.Ground.data }], guard := none }) (v := ?v189) rfl (by kernel_rfl) (by kernel_rfl) (by kernel_rfl) (fun _ _ _ h => h) (Or.inl ⟨by kernel_rfl, ?hy189⟩) (by assumption) ?_
    case hy189 => intro w hSw; (try dsimp only at hSw); first | (go_simp; done) | (go_simp; with_reducible rfl)
    (try simp only [Act.put, List.setIfInBounds_toArray, List.set_cons_zero, List.set_cons_succ])
    refine wpAnyH_take (i := 16) (oi := { dst := some 49, op := Go.Op.move (Go.Operand.tmp 48), type := 4, pos := _, after := #[{ on := 15, ground := Go.Ground.data }, { on := 13, ground := Go.Ground.chain }], guard := none }) (v := ?v190) rfl (by kernel_rfl) (by kernel_rfl) (by kernel_rfl) (fun _ _ _ h => h) (Or.inl ⟨by kernel_rfl, ?hy190⟩) (by assumption) ?_
    case hy190 => intro w hSw; (try dsimp only at hSw); first | (go_simp; done) | (go_simp; with_reducible rfl)
    (try simp only [Act.put, List.setIfInBounds_toArray, List.set_cons_zero, List.set_cons_succ])
    refine wpAnyH_take (i := 17) (oi := { dst := some 50, op := Go.Op.load 29 (Go.Operand.tmp 7), type := 29, pos := _, after := #[{ on := 16, ground := Go.Ground.guard }], guard := some (16, false) }) (v := ?v191) rfl (by kernel_rfl) (by kernel_rfl) (by kernel_rfl) (fun _ _ _ h => h) (Or.inl ⟨by kernel_rfl, ?hy191⟩) (by assumption) ?_
    case hy191 => intro w hSw; (try dsimp only at hSw); first | (go_simp; done) | (go_simp; with_reducible rfl)
    (try simp only [Act.put, List.setIfInBounds_toArray, List.set_cons_zero, List.set_cons_succ])
    refine wpAnyH_take (i := 18) (oi := { dst := some 51, op := Go.Op.move (Go.Operand.tmp 1), type := 3, pos := _, after := #[{ on := 16, ground := Go.Ground.guard }], guard := some (16, false) }) (v := ?v192) rfl (by kernel_rfl) (by kernel_rfl) (by kernel_rfl) (fun _ _ _ h => h) (Or.inl ⟨by kernel_rfl, ?hy192⟩) (by assumption) ?_
    case hy192 => intro w hSw; (try dsimp only at hSw); first | (go_simp; done) | (go_simp; with_reducible rfl)
    (try simp only [Act.put, List.setIfInBounds_toArray, List.set_cons_zero, List.set_cons_succ])
    refine wpAnyH_take (i := 19) (oi := { dst := some 52, op := Go.Op.move (Go.Operand.tmp 2), type := 3, pos := _, after := #[{ on := 16, ground := Go.Ground.guard }], guard := some (16, false) }) (v := ?v193) rfl (by kernel_rfl) (by kernel_rfl) (by kernel_rfl) (fun _ _ _ h => h) (Or.inl ⟨by kernel_rfl, ?hy193⟩) (by assumption) ?_
    case hy193 => intro w hSw; (try dsimp only at hSw); first | (go_simp; done) | (go_simp; with_reducible rfl)
    (try simp only [Act.put, List.setIfInBounds_toArray, List.set_cons_zero, List.set_cons_succ])
    refine wpAnyH_take (i := 21) (oi := { dst := some 54, op := Go.Op.load 24 (Go.Operand.tmp 3), type := 24, pos := _, after := #[{ on := 16, ground := Go.Ground.guard }], guard := some (16, false) }) (v := ?v194) rfl (by kernel_rfl) (by kernel_rfl) (by kernel_rfl) (fun _ _ _ h => h) (Or.inl ⟨by kernel_rfl, ?hy194⟩) (by assumption) ?_
    case hy194 => intro w hSw; (try dsimp only at hSw); first | (go_simp; done) | (go_simp; with_reducible rfl)
    (try simp only [Act.put, List.setIfInBounds_toArray, List.set_cons_zero, List.set_cons_succ])
    refine wpAnyH_take (i := 22) (oi := { dst := some 55, op := Go.Op.move (Go.Operand.tmp 1), type := 3, pos := _, after := #[{ on := 16, ground := Go.Ground.guard }], guard := some (16, false) }) (v := ?v195) rfl (by kernel_rfl) (by kernel_rfl) (by kernel_rfl) (fun _ _ _ h => h) (Or.inl ⟨by kernel_rfl, ?hy195⟩) (by assumption) ?_
    case hy195 => intro w hSw; (try dsimp only at hSw); first | (go_simp; done) | (go_simp; with_reducible rfl)
    (try simp only [Act.put, List.setIfInBounds_toArray, List.set_cons_zero, List.set_cons_succ])
    refine wpAnyH_take (i := 23) (oi := { dst := some 56, op := Go.Op.move (Go.Operand.tmp 2), type := 3, pos := _, after := #[{ on := 16, ground := Go.Ground.guard }], guard := some (16, false) }) (v := ?v196) rfl (by kernel_rfl) (by kernel_rfl) (by kernel_rfl) (fun _ _ _ h => h) (Or.inl ⟨by kernel_rfl, ?hy196⟩) (by assumption) ?_
    case hy196 => intro w hSw; (try dsimp only at hSw); first | (go_simp; done) | (go_simp; with_reducible rfl)
    (try simp only [Act.put, List.setIfInBounds_toArray, List.set_cons_zero, List.set_cons_succ])
    refine wpAnyH_ready (rs := [20]) (by kernel_rfl) (by simp) ?_
    refine AllReadyH.cons (o := { dst := some 53, op := Go.Op.call { callee := Go.Callee.value (Go.Operand.func 16), args := #[Go.Operand.tmp 50, Go.Operand.tmp 51, Go.Operand.tmp 52], argTypes := #[29, 3, 3] }, type := 2, pos := _, after := #[{ on := 17, ground := Go.Ground.data }, { on := 18, ground := Go.Ground.data }, { on := 19, ground := Go.Ground.data }, { on := 16, ground := Go.Ground.chain }, { on := 16, ground := Go.Ground.guard }], guard := some (16, false) }) rfl (fun K hK => ?_) AllReadyH.nil
    go_simp
    (go_at_call 16; refine (at_all Z_7.out).mono ?_; rintro e w8_ ⟨rfl, g8⟩; rw [HAV.out]; have Z_8 := Lib.hid (Z_7.out.grow g8); have A_8 := Lib.hid (A_7.out.grow g8); have Bxb_8 := Lib.hid (Bxb_7.out.grow g8); have Byb_8 := Lib.hid (Byb_7.out.grow g8); have Bwb_8 := Lib.hid (Bwb_7.out.grow g8); have HM_8 := Lib.hid (HM_7.out.grow g8); have HG_8 := Lib.hid (HG_7.out.trans g8))
    (try go_wp2_with fail)
    refine hK.out _ _ ?hS198 (fun hHeld => ?_)
    case hS198 => (try dsimp only); exact keep_h12 g8 (by assumption)
    clear hK K
    (try simp only [Act.put, List.setIfInBounds_toArray, List.set_cons_zero, List.set_cons_succ])
    refine wpAnyH_ready (rs := [24]) (by kernel_rfl) (by simp) ?_
    refine AllReadyH.cons (o := { dst := some 57, op := Go.Op.call { callee := Go.Callee.value (Go.Operand.func 17), args := #[Go.Operand.tmp 54, Go.Operand.tmp 55, Go.Operand.tmp 56], argTypes := #[24, 3, 3] }, type := 2, pos := _, after := #[{ on := 21, ground := Go.Ground.data }, { on := 22, ground := Go.Ground.data }, { on := 23, ground := Go.Ground.data }, { on := 20, ground := Go.Ground.chain }, { on := 16, ground := Go.Ground.guard }], guard := some (16, false) }) rfl (fun K hK => ?_) AllReadyH.nil
    go_simp
    (go_at_call 17; refine (rat_all Z_8.out).mono ?_; rintro e w9_ ⟨rfl, g9⟩; rw [HAV.out]; have Z_9 := Lib.hid (Z_8.out.grow g9); have A_9 := Lib.hid (A_8.out.grow g9); have Bxb_9 := Lib.hid (Bxb_8.out.grow g9); have Byb_9 := Lib.hid (Byb_8.out.grow g9); have Bwb_9 := Lib.hid (Bwb_8.out.grow g9); have HM_9 := Lib.hid (HM_8.out.grow g9); have HG_9 := Lib.hid (HG_8.out.trans g9))
    (try go_wp2_with fail)
    refine hK.out _ _ ?hS200 (fun hHeld => ?_)
    case hS200 => (try dsimp only); exact keep_h12 g9 (by assumption)
    clear hK K
    (try simp only [Act.put, List.setIfInBounds_toArray, List.set_cons_zero, List.set_cons_succ])
    refine wpAnyH_take (i := 25) (oi := { dst := some 58, op := Go.Op.binOp Go.BinOp.neq 2 (Go.Operand.tmp 53) (Go.Operand.tmp 57) 2, type := 4, pos := _, after := #[{ on := 20, ground := Go.Ground.data }, { on := 24, ground := Go.Ground.data }, { on := 16, ground := Go.Ground.guard }], guard := some (16, false) }) (v := ?v201) rfl (by kernel_rfl) (by kernel_rfl) (by kernel_rfl) (fun _ _ _ h => h) (Or.inl ⟨by kernel_rfl, ?hy201⟩) (by assumption) ?_
    case hy201 => intro w hSw; (try dsimp only at hSw); first | (go_simp; done) | (go_simp; with_reducible rfl)
    (try simp only [Act.put, List.setIfInBounds_toArray, List.set_cons_zero, List.set_cons_succ])
    refine wpAnyH_take (i := 26) (oi := { dst := some 59, op := Go.Op.pick (Go.Operand.tmp 49) (Go.Operand.const (Go.Value.bool true)) (Go.Operand.tmp 58), type := 4, pos := _, after := #[{ on := 16, ground := Go.Ground.data }, { on := 25, ground := Go.Ground.data }], guard := none }) (v := ?v202) rfl (by kernel_rfl) (by kernel_rfl) (by kernel_rfl) (fun _ _ _ h => h) (Or.inl ⟨by kernel_rfl, ?hy202⟩) (by assumption) ?_
    case hy202 => intro w hSw; (try dsimp only at hSw); first | (go_simp; done) | (go_simp; with_reducible rfl)
    (try simp only [Act.put, List.setIfInBounds_toArray, List.set_cons_zero, List.set_cons_succ])
    refine wpAnyH_done (by kernel_rfl) ?_ _
    clear hHeld
    have m0_9 := HM_9.out.c0
    have m1_9 := HM_9.out.c1
    have m2_9 := HM_9.out.c2
    have hl_9 := HM_9.out.lt
    have b0xb_9 := Bxb_9.out.c0
    have b1xb_9 := Bxb_9.out.c1
    have b2xb_9 := Bxb_9.out.c2
    have blxb_9 := Bxb_9.out.lt
    have b0yb_9 := Byb_9.out.c0
    have b1yb_9 := Byb_9.out.c1
    have b2yb_9 := Byb_9.out.c2
    have blyb_9 := Byb_9.out.lt
    have b0wb_9 := Bwb_9.out.c0
    have b1wb_9 := Bwb_9.out.c1
    have b2wb_9 := Bwb_9.out.c2
    have blwb_9 := Bwb_9.out.lt
    go_wp2_with fail
    refine (malive_any _).mono ?_
    rintro e w10_ ⟨rfl, g10⟩
    have Z_10 := Lib.hid (Z_9.out.grow g10)
    have A_10 := Lib.hid (A_9.out.grow g10)
    have HG_10 := Lib.hid (HG_9.out.trans g10)
    have HM_10 := Lib.hid (HM_9.out.grow g10)
    clear m0_9 m1_9 m2_9 hl_9
    have m0_10 := HM_10.out.c0
    have m1_10 := HM_10.out.c1
    have m2_10 := HM_10.out.c2
    have hl_10 := HM_10.out.lt
    have xb_10 := Lib.hid (Bxb_9.out.grow g10)
    clear b0xb_9 b1xb_9 b2xb_9 blxb_9
    have b0xb_10 := xb_10.out.c0
    have b1xb_10 := xb_10.out.c1
    have b2xb_10 := xb_10.out.c2
    have blxb_10 := xb_10.out.lt
    have yb_10 := Lib.hid (Byb_9.out.grow g10)
    clear b0yb_9 b1yb_9 b2yb_9 blyb_9
    have b0yb_10 := yb_10.out.c0
    have b1yb_10 := yb_10.out.c1
    have b2yb_10 := yb_10.out.c2
    have blyb_10 := yb_10.out.lt
    have wb_10 := Lib.hid (Bwb_9.out.grow g10)
    clear b0wb_9 b1wb_9 b2wb_9 blwb_9
    have b0wb_10 := wb_10.out.c0
    have b1wb_10 := wb_10.out.c1
    have b2wb_10 := wb_10.out.c2
    have blwb_10 := wb_10.out.lt
    clear g10
    go_wp2
    go_ret
    exact ⟨rfl, HG_10.out⟩

set_option maxRecDepth 100000 in
set_option maxHeartbeats 4000000 in
theorem way_true2 (R0 C0 : Int) (a0 : Option Addr) (len0 cap0 : Nat) (zs0 : List Int) (a1 a2 : Int) (w : World) (hA : ¬ 600 < len0) (h0 : Seen w a0 len0 cap0 zs0) (hR : rightB R0 C0 len0 = true) (hB : R0 ≤ 50) (hC : 50 < C0) :
    Calls Try.prog 3 #[.agg #[.int .i64 R0, .int .i64 C0, .slice a0 len0 cap0], .int .i64 a1, .int .i64 a2] w fun e w' => e = .returned (.bool true) ∧ Below w.heap.size w w' := by

    have HG0 : Hid (Grew w (w.alloc (.cells #[.int .i64 R0, .int .i64 C0, .slice a0 len0 cap0] 24))) := Lib.hid ((Grew.refl w).alloc _)
    have HM0 := Lib.hid (Three.new w 24 (.int .i64 R0) (.int .i64 C0) (.slice a0 len0 cap0))

    have HZ0 := Lib.hid h0
    have HR := Lib.hid hR
    clear h0 hR
    go_enter Try.func3, Try.ntmps3
    have Z0 := Lib.hid (HZ0.out.grow HG0.out)
    obtain ⟨av, hav⟩ : ∃ av, atV zs0 R0 C0 a1 a2 = av := ⟨_, rfl⟩
    have HAV := Lib.hid hav
    have hne : (av != av) = false := bne_self_eq_false av
    clear hav
    go_wp2_with fail
    refine (few_any R0 C0 a0 len0 cap0 _).mono ?_
    rintro e w1_ ⟨rfl, g1⟩
    have Z_1 := Lib.hid (Z0.out.grow g1)
    have HG_1 := Lib.hid (HG0.out.trans g1)
    have HM_1 := Lib.hid (HM0.out.grow g1)
    have m0_1 := HM_1.out.c0
    have m1_1 := HM_1.out.c1
    have m2_1 := HM_1.out.c2
    have hl_1 := HM_1.out.lt
    clear g1
    rw [decide_eq_true (by omega)]
    go_wp2_with fail
    refine (given_any R0 C0 a0 len0 cap0 _).mono ?_
    rintro e w2_ ⟨rfl, g2⟩
    have Z_2 := Lib.hid (Z_1.out.grow g2)
    have HG_2 := Lib.hid (HG_1.out.trans g2)
    have HM_2 := Lib.hid (HM_1.out.grow g2)
    clear m0_1 m1_1 m2_1 hl_1
    have m0_2 := HM_2.out.c0
    have m1_2 := HM_2.out.c1
    have m2_2 := HM_2.out.c2
    have hl_2 := HM_2.out.lt
    clear g2
    go_wp2_with fail
    have gA : Grew w2_ (w2_.alloc (.cells #[.int .i64 R0, .int .i64 C0, .slice a0 len0 cap0] 29)) := (Grew.refl _).alloc _
    have Hxb := Lib.hid (Three.new w2_ 29 (.int .i64 R0) (.int .i64 C0) (.slice a0 len0 cap0))
    have Z_2a := Lib.hid (Z_2.out.grow gA)
    have HG_2a := Lib.hid (HG_2.out.trans gA)
    have HM_2a := Lib.hid (HM_2.out.grow gA)
    clear m0_2 m1_2 m2_2 hl_2
    clear gA
    generalize w2_.alloc (.cells #[.int .i64 R0, .int .i64 C0, .slice a0 len0 cap0] 29) = w2a_ at *
    generalize w2_.heap.size = xb at *
    refine (of_all Z_2a.out HR.out).mono ?_
    rintro e w3_ ⟨⟨s1, n1, c1, rfl, hs⟩, g3⟩
    have A := Lib.hid hs
    have Z_3 := Lib.hid (Z_2a.out.grow g3)
    have HG_3 := Lib.hid (HG_2a.out.trans g3)
    have HM_3 := Lib.hid (HM_2a.out.grow g3)
    have m0_3 := HM_3.out.c0
    have m1_3 := HM_3.out.c1
    have m2_3 := HM_3.out.c2
    have hl_3 := HM_3.out.lt
    have xb_3 := Lib.hid (Hxb.out.grow g3)
    have b0xb_3 := xb_3.out.c0
    have b1xb_3 := xb_3.out.c1
    have b2xb_3 := xb_3.out.c2
    have blxb_3 := xb_3.out.lt
    clear hs
    clear g3
    go_wp2_with fail
    have gA : Grew w3_ (w3_.alloc (.cells #[.int .i64 R0, .int .i64 C0, .slice s1 n1 c1] 29)) := (Grew.refl _).alloc _
    have Hyb := Lib.hid (Three.new w3_ 29 (.int .i64 R0) (.int .i64 C0) (.slice s1 n1 c1))
    have Z_3a := Lib.hid (Z_3.out.grow gA)
    have A_3a := Lib.hid (A.out.grow gA)
    have Bxb_3a := Lib.hid (xb_3.out.grow gA)
    clear b0xb_3 b1xb_3 b2xb_3 blxb_3
    have HG_3a := Lib.hid (HG_3.out.trans gA)
    have HM_3a := Lib.hid (HM_3.out.grow gA)
    clear m0_3 m1_3 m2_3 hl_3
    clear gA
    generalize w3_.alloc (.cells #[.int .i64 R0, .int .i64 C0, .slice s1 n1 c1] 29) = w3a_ at *
    generalize w3_.heap.size = yb at *
    refine (rright_any R0 C0 a0 len0 cap0 _ (by omega)).mono ?_
    rintro e w4_ ⟨rfl, g4⟩
    have Z_4 := Lib.hid (Z_3a.out.grow g4)
    have A_4 := Lib.hid (A_3a.out.grow g4)
    have HG_4 := Lib.hid (HG_3a.out.trans g4)
    have HM_4 := Lib.hid (HM_3a.out.grow g4)
    have m0_4 := HM_4.out.c0
    have m1_4 := HM_4.out.c1
    have m2_4 := HM_4.out.c2
    have hl_4 := HM_4.out.lt
    have xb_4 := Lib.hid (Bxb_3a.out.grow g4)
    have b0xb_4 := xb_4.out.c0
    have b1xb_4 := xb_4.out.c1
    have b2xb_4 := xb_4.out.c2
    have blxb_4 := xb_4.out.lt
    have yb_4 := Lib.hid (Hyb.out.grow g4)
    have b0yb_4 := yb_4.out.c0
    have b1yb_4 := yb_4.out.c1
    have b2yb_4 := yb_4.out.c2
    have blyb_4 := yb_4.out.lt
    clear g4
    rw [HR.out]
    go_wp2_with fail
    have gA : Grew w4_ (w4_.alloc (.cells #[.int .i64 R0, .int .i64 C0, .slice a0 len0 cap0] 24)) := (Grew.refl _).alloc _
    have Hwb := Lib.hid (Three.new w4_ 24 (.int .i64 R0) (.int .i64 C0) (.slice a0 len0 cap0))
    have Z_4a := Lib.hid (Z_4.out.grow gA)
    have A_4a := Lib.hid (A_4.out.grow gA)
    have Bxb_4a := Lib.hid (xb_4.out.grow gA)
    clear b0xb_4 b1xb_4 b2xb_4 blxb_4
    have Byb_4a := Lib.hid (yb_4.out.grow gA)
    clear b0yb_4 b1yb_4 b2yb_4 blyb_4
    have HG_4a := Lib.hid (HG_4.out.trans gA)
    have HM_4a := Lib.hid (HM_4.out.grow gA)
    clear m0_4 m1_4 m2_4 hl_4
    clear gA
    generalize w4_.alloc (.cells #[.int .i64 R0, .int .i64 C0, .slice a0 len0 cap0] 24) = w4a_ at *
    generalize w4_.heap.size = wb at *
    have gD : Grew w4a_ w4a_.drew := Grew.drew' (Grew.refl _)
    have Z_4d := Lib.hid (Z_4a.out.grow gD)
    have A_4d := Lib.hid (A_4a.out.grow gD)
    have Bxb_4d := Lib.hid (Bxb_4a.out.grow gD)
    have Byb_4d := Lib.hid (Byb_4a.out.grow gD)
    have Bwb_4d := Lib.hid (Hwb.out.grow gD)
    have HM_4d := Lib.hid (HM_4a.out.grow gD)
    have HG_4d := Lib.hid (HG_4a.out.trans gD)
    refine wp_region_held_drew (S := (fun W' => Grew w4a_ W' ∧ W'.cell? ⟨xb, 0, none⟩ = some (.int .i64 R0) ∧ W'.cell? ⟨xb, 1, none⟩ = some (.int .i64 C0) ∧ W'.cell? ⟨xb, 2, none⟩ = some (.slice a0 len0 cap0) ∧ W'.cell? ⟨yb, 0, none⟩ = some (.int .i64 R0) ∧ W'.cell? ⟨yb, 1, none⟩ = some (.int .i64 C0) ∧ W'.cell? ⟨yb, 2, none⟩ = some (.slice s1 n1 c1) ∧ W'.cell? ⟨wb, 0, none⟩ = some (.int .i64 R0) ∧ W'.cell? ⟨wb, 1, none⟩ = some (.int .i64 C0) ∧ W'.cell? ⟨wb, 2, none⟩ = some (.slice a0 len0 cap0) ∧ W'.cell? ⟨w.heap.size, 0, none⟩ = some (.int .i64 R0) ∧ W'.cell? ⟨w.heap.size, 1, none⟩ = some (.int .i64 C0) ∧ W'.cell? ⟨w.heap.size, 2, none⟩ = some (.slice a0 len0 cap0))) (by kernel_rfl) ⟨Grew.drew' (Grew.refl _), Bxb_4a.out.c0, Bxb_4a.out.c1, Bxb_4a.out.c2, Byb_4a.out.c0, Byb_4a.out.c1, Byb_4a.out.c2, Hwb.out.c0, Hwb.out.c1, Hwb.out.c2, HM_4a.out.c0, HM_4a.out.c1, HM_4a.out.c2⟩ (fun hHeld => ?_)
    refine wpAnyH_take (i := 0) (oi := { dst := some 33, op := Go.Op.load 29 (Go.Operand.tmp 7), type := 29, pos := _, after := #[], guard := none }) (v := ?v203) rfl (by kernel_rfl) (by kernel_rfl) (by kernel_rfl) (fun _ _ _ h => h) (Or.inl ⟨by kernel_rfl, ?hy203⟩) (by assumption) ?_
    case hy203 => intro w hSw; (try dsimp only at hSw); first | (go_simp; done) | (go_simp; with_reducible rfl)
    (try simp only [Act.put, List.setIfInBounds_toArray, List.set_cons_zero, List.set_cons_succ])
    refine wpAnyH_take (i := 2) (oi := { dst := some 35, op := Go.Op.move (Go.Operand.tmp 10), type := 4, pos := _, after := #[], guard := none }) (v := ?v204) rfl (by kernel_rfl) (by kernel_rfl) (by kernel_rfl) (fun _ _ _ h => h) (Or.inl ⟨by kernel_rfl, ?hy204⟩) (by assumption) ?_
    case hy204 => intro w hSw; (try dsimp only at hSw); first | (go_simp; done) | (go_simp; with_reducible rfl)
    (try simp only [Act.put, List.setIfInBounds_toArray, List.set_cons_zero, List.set_cons_succ])
    refine wpAnyH_ready (rs := [1]) (by kernel_rfl) (by simp) ?_
    refine AllReadyH.cons (o := { dst := some 34, op := Go.Op.call { callee := Go.Callee.value (Go.Operand.func 13), args := #[Go.Operand.tmp 33], argTypes := #[29] }, type := 4, pos := _, after := #[{ on := 0, ground := Go.Ground.data }], guard := none }) rfl (fun K hK => ?_) AllReadyH.nil
    go_simp
    (go_at_call 13; refine (right_any R0 C0 a0 len0 cap0 _).mono ?_; rintro e w5_ ⟨rfl, g5⟩; rw [HR.out]; have Z_5 := Lib.hid (Z_4d.out.grow g5); have A_5 := Lib.hid (A_4d.out.grow g5); have Bxb_5 := Lib.hid (Bxb_4d.out.grow g5); have Byb_5 := Lib.hid (Byb_4d.out.grow g5); have Bwb_5 := Lib.hid (Bwb_4d.out.grow g5); have HM_5 := Lib.hid (HM_4d.out.grow g5); have HG_5 := Lib.hid (HG_4d.out.trans g5))
    (try go_wp2_with fail)
    refine hK.out _ _ ?hS206 (fun hHeld => ?_)
    case hS206 => (try dsimp only); exact keep_h12 g5 (by assumption)
    clear hK K
    (try simp only [Act.put, List.setIfInBounds_toArray, List.set_cons_zero, List.set_cons_succ])
    refine wpAnyH_take (i := 3) (oi := { dst := some 36, op := Go.Op.binOp Go.BinOp.neq 4 (Go.Operand.tmp 34) (Go.Operand.tmp 35) 4, type := 4, pos := _, after := #[{ on := 1, ground := Go.Ground.data }, { on := 2, ground := Go.Ground.data }], guard := none }) (v := ?v207) rfl (by kernel_rfl) (by kernel_rfl) (by kernel_rfl) (fun _ _ _ h => h) (Or.inl ⟨by kernel_rfl, ?hy207⟩) (by assumption) ?_
    case hy207 => intro w hSw; (try dsimp only at hSw); first | (go_simp; done) | (go_simp; with_reducible rfl)
    (try simp only [Act.put, List.setIfInBounds_toArray, List.set_cons_zero, List.set_cons_succ])
    refine wpAnyH_take (i := 4) (oi := { dst := some 37, op := Go.Op.move (Go.Operand.tmp 36), type := 4, pos := _, after := #[{ on := 3, ground := Go.Ground.data }, { on := 1, ground := Go.Ground.chain }], guard := none }) (v := ?v208) rfl (by kernel_rfl) (by kernel_rfl) (by kernel_rfl) (fun _ _ _ h => h) (Or.inl ⟨by kernel_rfl, ?hy208⟩) (by assumption) ?_
    case hy208 => intro w hSw; (try dsimp only at hSw); first | (go_simp; done) | (go_simp; with_reducible rfl)
    (try simp only [Act.put, List.setIfInBounds_toArray, List.set_cons_zero, List.set_cons_succ])
    refine wpAnyH_take (i := 5) (oi := { dst := some 38, op := Go.Op.move (Go.Operand.tmp 9), type := 4, pos := _, after := #[{ on := 4, ground := Go.Ground.guard }], guard := some (4, false) }) (v := ?v209) rfl (by kernel_rfl) (by kernel_rfl) (by kernel_rfl) (fun _ _ _ h => h) (Or.inl ⟨by kernel_rfl, ?hy209⟩) (by assumption) ?_
    case hy209 => intro w hSw; (try dsimp only at hSw); first | (go_simp; done) | (go_simp; with_reducible rfl)
    (try simp only [Act.put, List.setIfInBounds_toArray, List.set_cons_zero, List.set_cons_succ])
    refine wpAnyH_take (i := 6) (oi := { dst := some 39, op := Go.Op.move (Go.Operand.tmp 10), type := 4, pos := _, after := #[{ on := 4, ground := Go.Ground.guard }], guard := some (4, false) }) (v := ?v210) rfl (by kernel_rfl) (by kernel_rfl) (by kernel_rfl) (fun _ _ _ h => h) (Or.inl ⟨by kernel_rfl, ?hy210⟩) (by assumption) ?_
    case hy210 => intro w hSw; (try dsimp only at hSw); first | (go_simp; done) | (go_simp; with_reducible rfl)
    (try simp only [Act.put, List.setIfInBounds_toArray, List.set_cons_zero, List.set_cons_succ])
    refine wpAnyH_take (i := 7) (oi := { dst := some 40, op := Go.Op.binOp Go.BinOp.neq 4 (Go.Operand.tmp 38) (Go.Operand.tmp 39) 4, type := 4, pos := _, after := #[{ on := 5, ground := Go.Ground.data }, { on := 6, ground := Go.Ground.data }, { on := 4, ground := Go.Ground.guard }], guard := some (4, false) }) (v := ?v211) rfl (by kernel_rfl) (by kernel_rfl) (by kernel_rfl) (fun _ _ _ h => h) (Or.inl ⟨by kernel_rfl, ?hy211⟩) (by assumption) ?_
    case hy211 => intro w hSw; (try dsimp only at hSw); first | (go_simp; done) | (go_simp; with_reducible rfl)
    (try simp only [Act.put, List.setIfInBounds_toArray, List.set_cons_zero, List.set_cons_succ])
    refine wpAnyH_take (i := 8) (oi := { dst := some 41, op := Go.Op.pick (Go.Operand.tmp 37) (Go.Operand.const (Go.Value.bool true)) (Go.Operand.tmp 40), type := 4, pos := _, after := #[{ on := 4, ground := Go.Ground.data }, { on := 7, ground := Go.Ground.data }], guard := none }) (v := ?v212) rfl (by kernel_rfl) (by kernel_rfl) (by kernel_rfl) (fun _ _ _ h => h) (Or.inl ⟨by kernel_rfl, ?hy212⟩) (by assumption) ?_
    case hy212 => intro w hSw; (try dsimp only at hSw); first | (go_simp; done) | (go_simp; with_reducible rfl)
    (try simp only [Act.put, List.setIfInBounds_toArray, List.set_cons_zero, List.set_cons_succ])
    refine wpAnyH_take (i := 9) (oi := { dst := some 42, op := Go.Op.move (Go.Operand.tmp 41), type := 4, pos := _, after := #[{ on := 8, ground := Go.Ground.data }, { on := 4, ground := Go.Ground.chain }], guard := none }) (v := ?v213) rfl (by kernel_rfl) (by kernel_rfl) (by kernel_rfl) (fun _ _ _ h => h) (Or.inl ⟨by kernel_rfl, ?hy213⟩) (by assumption) ?_
    case hy213 => intro w hSw; (try dsimp only at hSw); first | (go_simp; done) | (go_simp; with_reducible rfl)
    (try simp only [Act.put, List.setIfInBounds_toArray, List.set_cons_zero, List.set_cons_succ])
    refine wpAnyH_take (i := 10) (oi := { dst := some 43, op := Go.Op.load 29 (Go.Operand.tmp 8), type := 29, pos := _, after := #[{ on := 9, ground := Go.Ground.guard }], guard := some (9, false) }) (v := ?v214) rfl (by kernel_rfl) (by kernel_rfl) (by kernel_rfl) (fun _ _ _ h => h) (Or.inl ⟨by kernel_rfl, ?hy214⟩) (by assumption) ?_
    case hy214 => intro w hSw; (try dsimp only at hSw); first | (go_simp; done) | (go_simp; with_reducible rfl)
    (try simp only [Act.put, List.setIfInBounds_toArray, List.set_cons_zero, List.set_cons_succ])
    refine wpAnyH_take (i := 12) (oi := { dst := some 45, op := Go.Op.load 24 (Go.Operand.tmp 11), type := 24, pos := _, after := #[{ on := 9, ground := Go.Ground.guard }], guard := some (9, false) }) (v := ?v215) rfl (by kernel_rfl) (by kernel_rfl) (by kernel_rfl) (fun _ _ _ h => h) (Or.inl ⟨by kernel_rfl, ?hy215⟩) (by assumption) ?_
    case hy215 => intro w hSw; (try dsimp only at hSw); first | (go_simp; done) | (go_simp; with_reducible rfl)
    (try simp only [Act.put, List.setIfInBounds_toArray, List.set_cons_zero, List.set_cons_succ])
    refine wpAnyH_ready (rs := [11]) (by kernel_rfl) (by simp) ?_
    refine AllReadyH.cons (o := { dst := some 44, op := Go.Op.call { callee := Go.Callee.value (Go.Operand.func 15), args := #[Go.Operand.tmp 43], argTypes := #[29] }, type := 24, pos := _, after := #[{ on := 10, ground := Go.Ground.data }, { on := 9, ground := Go.Ground.chain }, { on := 9, ground := Go.Ground.guard }], guard := some (9, false) }) rfl (fun K hK => ?_) AllReadyH.nil
    go_simp
    (go_at_call 15; refine (back_any _ _ _ _ _ _).mono ?_; rintro e w6_ ⟨rfl, g6⟩; have Z_6 := Lib.hid (Z_5.out.grow g6); have A_6 := Lib.hid (A_5.out.grow g6); have Bxb_6 := Lib.hid (Bxb_5.out.grow g6); have Byb_6 := Lib.hid (Byb_5.out.grow g6); have Bwb_6 := Lib.hid (Bwb_5.out.grow g6); have HM_6 := Lib.hid (HM_5.out.grow g6); have HG_6 := Lib.hid (HG_5.out.trans g6))
    (try go_wp2_with fail)
    refine hK.out _ _ ?hS217 (fun hHeld => ?_)
    case hS217 => (try dsimp only); exact keep_h12 g6 (by assumption)
    clear hK K
    (try simp only [Act.put, List.setIfInBounds_toArray, List.set_cons_zero, List.set_cons_succ])
    refine wpAnyH_ready (rs := [13]) (by kernel_rfl) (by simp) ?_
    refine AllReadyH.cons (o := { dst := some 46, op := Go.Op.call { callee := Go.Callee.value (Go.Operand.func 14), args := #[Go.Operand.tmp 44, Go.Operand.tmp 45], argTypes := #[24, 24] }, type := 4, pos := _, after := #[{ on := 11, ground := Go.Ground.data }, { on := 12, ground := Go.Ground.data }, { on := 11, ground := Go.Ground.chain }, { on := 9, ground := Go.Ground.guard }], guard := some (9, false) }) rfl (fun K hK => ?_) AllReadyH.nil
    go_simp
    (go_at_call 14; refine (msame_seen A_6.out Z_6.out).mono ?_; rintro e w7_ ⟨rfl, g7⟩; have Z_7 := Lib.hid (Z_6.out.grow g7); have A_7 := Lib.hid (A_6.out.grow g7); have Bxb_7 := Lib.hid (Bxb_6.out.grow g7); have Byb_7 := Lib.hid (Byb_6.out.grow g7); have Bwb_7 := Lib.hid (Bwb_6.out.grow g7); have HM_7 := Lib.hid (HM_6.out.grow g7); have HG_7 := Lib.hid (HG_6.out.trans g7))
    (try go_wp2_with fail)
    refine hK.out _ _ ?hS219 (fun hHeld => ?_)
    case hS219 => (try dsimp only); exact keep_h12 g7 (by assumption)
    clear hK K
    (try simp only [Act.put, List.setIfInBounds_toArray, List.set_cons_zero, List.set_cons_succ])
    refine wpAnyH_take (i := 14) (oi := { dst := some 47, op := Go.Op.unOp Go.UnOp.not 4 (Go.Operand.tmp 46), type := 4, pos := _, after := #[{ on := 13, ground := Go.Ground.data }, { on := 9, ground := Go.Ground.guard }], guard := some (9, false) }) (v := ?v220) rfl (by kernel_rfl) (by kernel_rfl) (by kernel_rfl) (fun _ _ _ h => h) (Or.inl ⟨by kernel_rfl, ?hy220⟩) (by assumption) ?_
    case hy220 => intro w hSw; (try dsimp only at hSw); first | (go_simp; done) | (go_simp; with_reducible rfl)
    (try simp only [Act.put, List.setIfInBounds_toArray, List.set_cons_zero, List.set_cons_succ])
    refine wpAnyH_take (i := 15) (oi := { dst := some 48, op := Go.Op.pick (Go.Operand.tmp 42) (Go.Operand.const (Go.Value.bool true)) (Go.Operand.tmp 47), type := 4, pos := _, after := #[{ on := 9, ground := Go.Ground.data }, { on := 14, ground := Go.Ground.data }], guard := none }) (v := ?v221) rfl (by kernel_rfl) (by kernel_rfl) (by kernel_rfl) (fun _ _ _ h => h) (Or.inl ⟨by kernel_rfl, ?hy221⟩) (by assumption) ?_
    case hy221 => intro w hSw; (try dsimp only at hSw); first | (go_simp; done) | (go_simp; with_reducible rfl)
    (try simp only [Act.put, List.setIfInBounds_toArray, List.set_cons_zero, List.set_cons_succ])
    refine wpAnyH_take (i := 16) (oi := { dst := some 49, op := Go.Op.move (Go.Operand.tmp 48), type := 4, pos := _, after := #[{ on := 15, ground := Go.Ground.data }, { on := 13, ground := Go.Ground.chain }], guard := none }) (v := ?v222) rfl (by kernel_rfl) (by kernel_rfl) (by kernel_rfl) (fun _ _ _ h => h) (Or.inl ⟨by kernel_rfl, ?hy222⟩) (by assumption) ?_
    case hy222 => intro w hSw; (try dsimp only at hSw); first | (go_simp; done) | (go_simp; with_reducible rfl)
    (try simp only [Act.put, List.setIfInBounds_toArray, List.set_cons_zero, List.set_cons_succ])
    refine wpAnyH_take (i := 17) (oi := { dst := some 50, op := Go.Op.load 29 (Go.Operand.tmp 7), type := 29, pos := _, after := #[{ on := 16, ground := Go.Ground.guard }], guard := some (16, false) }) (v := ?v223) rfl (by kernel_rfl) (by kernel_rfl) (by kernel_rfl) (fun _ _ _ h => h) (Or.inl ⟨by kernel_rfl, ?hy223⟩) (by assumption) ?_
    case hy223 => intro w hSw; (try dsimp only at hSw); first | (go_simp; done) | (go_simp; with_reducible rfl)
    (try simp only [Act.put, List.setIfInBounds_toArray, List.set_cons_zero, List.set_cons_succ])
    refine wpAnyH_take (i := 18) (oi := { dst := some 51, op := Go.Op.move (Go.Operand.tmp 1), type := 3, pos := _, after := #[{ on := 16, ground := Go.Ground.guard }], guard := some (16, false) }) (v := ?v224) rfl (by kernel_rfl) (by kernel_rfl) (by kernel_rfl) (fun _ _ _ h => h) (Or.inl ⟨by kernel_rfl, ?hy224⟩) (by assumption) ?_
    case hy224 => intro w hSw; (try dsimp only at hSw); first | (go_simp; done) | (go_simp; with_reducible rfl)
    (try simp only [Act.put, List.setIfInBounds_toArray, List.set_cons_zero, List.set_cons_succ])
    refine wpAnyH_take (i := 19) (oi := { dst := some 52, op := Go.Op.move (Go.Operand.tmp 2), type := 3, pos := _, after := #[{ on := 16, ground := Go.Ground.guard }], guard := some (16, false) }) (v := ?v225) rfl (by kernel_rfl) (by kernel_rfl) (by kernel_rfl) (fun _ _ _ h => h) (Or.inl ⟨by kernel_rfl, ?hy225⟩) (by assumption) ?_
    case hy225 => intro w hSw; (try dsimp only at hSw); first | (go_simp; done) | (go_simp; with_reducible rfl)
    (try simp only [Act.put, List.setIfInBounds_toArray, List.set_cons_zero, List.set_cons_succ])
    refine wpAnyH_take (i := 21) (oi := { dst := some 54, op := Go.Op.load 24 (Go.Operand.tmp 3), type := 24, pos := _, after := #[{ on := 16, ground := Go.Ground.guard }], guard := some (16, false) }) (v := ?v226) rfl (by kernel_rfl) (by kernel_rfl) (by kernel_rfl) (fun _ _ _ h => h) (Or.inl ⟨by kernel_rfl, ?hy226⟩) (by assumption) ?_
    case hy226 => intro w hSw; (try dsimp only at hSw); first | (go_simp; done) | (go_simp; with_reducible rfl)
    (try simp only [Act.put, List.setIfInBounds_toArray, List.set_cons_zero, List.set_cons_succ])
    refine wpAnyH_take (i := 22) (oi := { dst := some 55, op := Go.Op.move (Go.Operand.tmp 1), type := 3, pos := _, after := #[{ on := 16, ground := Go.Ground.guard }], guard := some (16, false) }) (v := ?v227) rfl (by kernel_rfl) (by kernel_rfl) (by kernel_rfl) (fun _ _ _ h => h) (Or.inl ⟨by kernel_rfl, ?hy227⟩) (by assumption) ?_
    case hy227 => intro w hSw; (try dsimp only at hSw); first | (go_simp; done) | (go_simp; with_reducible rfl)
    (try simp only [Act.put, List.setIfInBounds_toArray, List.set_cons_zero, List.set_cons_succ])
    refine wpAnyH_take (i := 23) (oi := { dst := some 56, op := Go.Op.move (Go.Operand.tmp 2), type := 3, pos := _, after := #[{ on := 16, ground := Go.Ground.guard }], guard := some (16, false) }) (v := ?v228) rfl (by kernel_rfl) (by kernel_rfl) (by kernel_rfl) (fun _ _ _ h => h) (Or.inl ⟨by kernel_rfl, ?hy228⟩) (by assumption) ?_
    case hy228 => intro w hSw; (try dsimp only at hSw); first | (go_simp; done) | (go_simp; with_reducible rfl)
    (try simp only [Act.put, List.setIfInBounds_toArray, List.set_cons_zero, List.set_cons_succ])
    refine wpAnyH_ready (rs := [20]) (by kernel_rfl) (by simp) ?_
    refine AllReadyH.cons (o := { dst := some 53, op := Go.Op.call { callee := Go.Callee.value (Go.Operand.func 16), args := #[Go.Operand.tmp 50, Go.Operand.tmp 51, Go.Operand.tmp 52], argTypes := #[29, 3, 3] }, type := 2, pos := _, after := #[{ on := 17, ground := Go.Ground.data }, { on := 18, ground := Go.Ground.data }, { on := 19, ground := Go.Ground.data }, { on := 16, ground := Go.Ground.chain }, { on := 16, ground := Go.Ground.guard }], guard := some (16, false) }) rfl (fun K hK => ?_) AllReadyH.nil
    go_simp
    (go_at_call 16; refine (at_all Z_7.out).mono ?_; rintro e w8_ ⟨rfl, g8⟩; rw [HAV.out]; have Z_8 := Lib.hid (Z_7.out.grow g8); have A_8 := Lib.hid (A_7.out.grow g8); have Bxb_8 := Lib.hid (Bxb_7.out.grow g8); have Byb_8 := Lib.hid (Byb_7.out.grow g8); have Bwb_8 := Lib.hid (Bwb_7.out.grow g8); have HM_8 := Lib.hid (HM_7.out.grow g8); have HG_8 := Lib.hid (HG_7.out.trans g8))
    (try go_wp2_with fail)
    refine hK.out _ _ ?hS230 (fun hHeld => ?_)
    case hS230 => (try dsimp only); exact keep_h12 g8 (by assumption)
    clear hK K
    (try simp only [Act.put, List.setIfInBounds_toArray, List.set_cons_zero, List.set_cons_succ])
    refine wpAnyH_ready (rs := [24]) (by kernel_rfl) (by simp) ?_
    refine AllReadyH.cons (o := { dst := some 57, op := Go.Op.call { callee := Go.Callee.value (Go.Operand.func 17), args := #[Go.Operand.tmp 54, Go.Operand.tmp 55, Go.Operand.tmp 56], argTypes := #[24, 3, 3] }, type := 2, pos := _, after := #[{ on := 21, ground := Go.Ground.data }, { on := 22, ground := Go.Ground.data }, { on := 23, ground := Go.Ground.data }, { on := 20, ground := Go.Ground.chain }, { on := 16, ground := Go.Ground.guard }], guard := some (16, false) }) rfl (fun K hK => ?_) AllReadyH.nil
    go_simp
    (go_at_call 17; refine (rat_all Z_8.out).mono ?_; rintro e w9_ ⟨rfl, g9⟩; rw [HAV.out]; have Z_9 := Lib.hid (Z_8.out.grow g9); have A_9 := Lib.hid (A_8.out.grow g9); have Bxb_9 := Lib.hid (Bxb_8.out.grow g9); have Byb_9 := Lib.hid (Byb_8.out.grow g9); have Bwb_9 := Lib.hid (Bwb_8.out.grow g9); have HM_9 := Lib.hid (HM_8.out.grow g9); have HG_9 := Lib.hid (HG_8.out.trans g9))
    (try go_wp2_with fail)
    refine hK.out _ _ ?hS232 (fun hHeld => ?_)
    case hS232 => (try dsimp only); exact keep_h12 g9 (by assumption)
    clear hK K
    (try simp only [Act.put, List.setIfInBounds_toArray, List.set_cons_zero, List.set_cons_succ])
    refine wpAnyH_take (i := 25) (oi := { dst := some 58, op := Go.Op.binOp Go.BinOp.neq 2 (Go.Operand.tmp 53) (Go.Operand.tmp 57) 2, type := 4, pos := _, after := #[{ on := 20, ground := Go.Ground.data }, { on := 24, ground := Go.Ground.data }, { on := 16, ground := Go.Ground.guard }], guard := some (16, false) }) (v := ?v233) rfl (by kernel_rfl) (by kernel_rfl) (by kernel_rfl) (fun _ _ _ h => h) (Or.inl ⟨by kernel_rfl, ?hy233⟩) (by assumption) ?_
    case hy233 => intro w hSw; (try dsimp only at hSw); first | (go_simp; done) | (go_simp; with_reducible rfl)
    (try simp only [Act.put, List.setIfInBounds_toArray, List.set_cons_zero, List.set_cons_succ])
    refine wpAnyH_take (i := 26) (oi := { dst := some 59, op := Go.Op.pick (Go.Operand.tmp 49) (Go.Operand.const (Go.Value.bool true)) (Go.Operand.tmp 58), type := 4, pos := _, after := #[{ on := 16, ground := Go.Ground.data }, { on := 25, ground := Go.Ground.data }], guard := none }) (v := ?v234) rfl (by kernel_rfl) (by kernel_rfl) (by kernel_rfl) (fun _ _ _ h => h) (Or.inl ⟨by kernel_rfl, ?hy234⟩) (by assumption) ?_
    case hy234 => intro w hSw; (try dsimp only at hSw); first | (go_simp; done) | (go_simp; with_reducible rfl)
    (try simp only [Act.put, List.setIfInBounds_toArray, List.set_cons_zero, List.set_cons_succ])
    refine wpAnyH_done (by kernel_rfl) ?_ _
    clear hHeld
    have m0_9 := HM_9.out.c0
    have m1_9 := HM_9.out.c1
    have m2_9 := HM_9.out.c2
    have hl_9 := HM_9.out.lt
    have b0xb_9 := Bxb_9.out.c0
    have b1xb_9 := Bxb_9.out.c1
    have b2xb_9 := Bxb_9.out.c2
    have blxb_9 := Bxb_9.out.lt
    have b0yb_9 := Byb_9.out.c0
    have b1yb_9 := Byb_9.out.c1
    have b2yb_9 := Byb_9.out.c2
    have blyb_9 := Byb_9.out.lt
    have b0wb_9 := Bwb_9.out.c0
    have b1wb_9 := Bwb_9.out.c1
    have b2wb_9 := Bwb_9.out.c2
    have blwb_9 := Bwb_9.out.lt
    go_wp2_with fail
    refine (malive_any _).mono ?_
    rintro e w10_ ⟨rfl, g10⟩
    have Z_10 := Lib.hid (Z_9.out.grow g10)
    have A_10 := Lib.hid (A_9.out.grow g10)
    have HG_10 := Lib.hid (HG_9.out.trans g10)
    have HM_10 := Lib.hid (HM_9.out.grow g10)
    clear m0_9 m1_9 m2_9 hl_9
    have m0_10 := HM_10.out.c0
    have m1_10 := HM_10.out.c1
    have m2_10 := HM_10.out.c2
    have hl_10 := HM_10.out.lt
    have xb_10 := Lib.hid (Bxb_9.out.grow g10)
    clear b0xb_9 b1xb_9 b2xb_9 blxb_9
    have b0xb_10 := xb_10.out.c0
    have b1xb_10 := xb_10.out.c1
    have b2xb_10 := xb_10.out.c2
    have blxb_10 := xb_10.out.lt
    have yb_10 := Lib.hid (Byb_9.out.grow g10)
    clear b0yb_9 b1yb_9 b2yb_9 blyb_9
    have b0yb_10 := yb_10.out.c0
    have b1yb_10 := yb_10.out.c1
    have b2yb_10 := yb_10.out.c2
    have blyb_10 := yb_10.out.lt
    have wb_10 := Lib.hid (Bwb_9.out.grow g10)
    clear b0wb_9 b1wb_9 b2wb_9 blwb_9
    have b0wb_10 := wb_10.out.c0
    have b1wb_10 := wb_10.out.c1
    have b2wb_10 := wb_10.out.c2
    have blwb_10 := wb_10.out.lt
    clear g10
    go_wp2
    go_ret
    exact ⟨rfl, HG_10.out⟩

set_option maxRecDepth 100000 in
set_option maxHeartbeats 4000000 in
theorem walk (R0 C0 : Int) (a0 : Option Addr) (len0 cap0 : Nat) (zs0 : List Int) (a1 : Int) (a2 : Int) (w : World) (w0 : CameM w R0 C0 a0 len0 cap0 zs0) (w1 : (Lit.int .i64 a1).wf = true) (w2 : (Lit.int .i64 a2).wf = true) :
    Calls Try.prog 3 #[.agg #[.int .i64 R0, .int .i64 C0, .slice a0 len0 cap0], .int .i64 a1, .int .i64 a2] w fun e w' => e = .returned (.bool true) ∧ Below w.heap.size w w' := by
  obtain ⟨wR0, wC0, hl0, hlc0, hcm0, hrd0, hnn0, hf0⟩ := w0

  have HG0 : Hid (Grew w (w.alloc (.cells #[.int .i64 R0, .int .i64 C0, .slice a0 len0 cap0] 24))) := Lib.hid ((Grew.refl w).alloc _)
  have HM0 := Lib.hid (Three.new w 24 (.int .i64 R0) (.int .i64 C0) (.slice a0 len0 cap0))

  by_cases hA : 600 < len0
  · skip
    go_enter Try.func3, Try.ntmps3
    go_wp2_with fail
    refine (few_any R0 C0 a0 len0 cap0 _).mono ?_
    rintro e w1_ ⟨rfl, g1⟩
    have HG_1 := Lib.hid (HG0.out.trans g1)
    have HM_1 := Lib.hid (HM0.out.grow g1)
    have m0_1 := HM_1.out.c0
    have m1_1 := HM_1.out.c1
    have m2_1 := HM_1.out.c2
    have hl_1 := HM_1.out.lt
    clear g1
    rw [decide_eq_false (by omega)]
    go_wp2_with fail
    refine (malive_any _).mono ?_
    rintro e w2_ ⟨rfl, g2⟩
    have HG_2 := Lib.hid (HG_1.out.trans g2)
    have HM_2 := Lib.hid (HM_1.out.grow g2)
    clear m0_1 m1_1 m2_1 hl_1
    have m0_2 := HM_2.out.c0
    have m1_2 := HM_2.out.c1
    have m2_2 := HM_2.out.c2
    have hl_2 := HM_2.out.lt
    clear g2
    go_wp2
    go_ret
    exact ⟨rfl, HG_2.out⟩

  · skip

    have HZ0 : Hid (Seen w a0 len0 cap0 zs0) := Lib.hid ⟨hl0, hlc0, hcm0, by omega, hrd0, hf0⟩
    clear hl0 hrd0 hf0

    cases hR : rightB R0 C0 len0 with
    | false =>
      by_cases hB : 50 < R0
      · exact way_false1 R0 C0 a0 len0 cap0 zs0 a1 a2 w hA HZ0.out hR hB
      · by_cases hC : 50 < C0
        · exact way_false2 R0 C0 a0 len0 cap0 zs0 a1 a2 w hA HZ0.out hR (by omega) hC
        · exact way_false0 R0 C0 a0 len0 cap0 zs0 a1 a2 w hA HZ0.out hR (by omega) (by omega)
    | true =>
      by_cases hB : 50 < R0
      · exact way_true1 R0 C0 a0 len0 cap0 zs0 a1 a2 w hA HZ0.out hR hB
      · by_cases hC : 50 < C0
        · exact way_true2 R0 C0 a0 len0 cap0 zs0 a1 a2 w hA HZ0.out hR (by omega) hC
        · exact way_true0 R0 C0 a0 len0 cap0 zs0 a1 a2 w hA HZ0.out hR (by omega) (by omega)

set_option maxRecDepth 100000 in
theorem lifted (os : Os) (started : os.Started) (H : Type) (enc : TypeId × Value → H) :
    ReturnsInHanded {} Try.checked os 3 .any (Rows.matMakesSpec.pre6 enc Try.prog Try.f3 Rows.matMakesRow.domain false) (Rows.matMakesSpec.post enc Try.prog Try.f3 false true false false) := by
  refine returnsInHanded_of_change_sized (C := Try.checked) own started (by kernel_rfl) Try.func3
    (ChangeSpec.witness6 (enc := enc) (C := Try.checked) false ⟨#[], #[.agg #[.int .i64 0, .int .i64 0, .slice none 0 0], .int .i64 0, .int .i64 0], []⟩ 8 (by kernel_rfl) (by kernel_rfl) (by kernel_rfl) (by kernel_rfl)) ?_
  intro W base args ds gs before hval0 hW hcnd hsz0 _
  have hsz : (DataW.weightsEach Try.prog (Try.f3.params.toList ++ Rows.matMakesSpec.plain.varTypes Try.prog) (ds ++ gs)).all (· ≤ reachBytes) = true := hsz0
  have hval : ∀ (j : Nat) t v, Try.f3.params[j]? = some t → args[j]? = some v → Value.okWide Try.prog W .any base t v := hval0
  have hW' := hW
  obtain ⟨p, q, hA0, hV, rfl, hfz, hnd⟩ := hW
  have hA : DataW.TrodAll enc Try.prog W 0 (fun _ => true) true Try.f3.params.toList args.toList ds p := hA0
  rw [Try.params3] at hA hval hsz
  obtain ⟨v0, vs0, d0, ds0, p0, q0, hargs, rfl, rfl, h0, r0⟩ := trodAll_cons hA
  obtain ⟨v1, vs1, d1, ds1, p1, q1, rfl, rfl, rfl, h1, r1⟩ := trodAll_cons r0
  obtain ⟨v2, vs2, d2, ds2, p2, q2, rfl, rfl, rfl, h2, r2⟩ := trodAll_cons r1
  obtain ⟨rfl, rfl, rfl⟩ := trodAll_nil r2
  obtain rfl : args = #[v0, v1, v2] := by cases args; simp_all
  obtain ⟨rfl, rfl⟩ := trodVars_none hV
  have k0 := h0
  have lt0 : ∀ x ∈ p0, x.block < W.heap.size := by obtain ⟨m, hm⟩ := k0; exact DataW.trod_lt m _ _ _ hm
  obtain ⟨c00, c10, c20, y00, y10, y20, m0, rfl, rfl, rfl, hy00, hy10, hy20⟩ := Joins.open_agg3 Try.underlying24 (by kernel_rfl) (by kernel_rfl) (hval 0 24 v0 rfl rfl) h0
  obtain ⟨R0, e00, rfl, wR0⟩ := DataW.trod_int Try.underlying3 hy00
  obtain ⟨C0, e10, rfl, wC0⟩ := DataW.trod_int Try.underlying3 hy10
  simp at e00 e10
  subst e00 e10
  obtain ⟨a0, len0, cap0, zs0, rfl, w0⟩ : ∃ a l c us, c20 = .slice a l c ∧ CameM W R0 C0 a l c us := by
    rcases open_ints Try.underlying22 Try.underlying2 (by kernel_rfl) hy20 with ⟨hcs, _⟩ | ⟨x, l, c, zs, hcs, _, hl, hm, hz, hx, hcell, hwz⟩
    · simp at hcs
      subst hcs
      exact ⟨none, 0, 0, [], rfl, cameM_none wR0 wC0⟩
    · simp at hcs
      subst hcs
      simp only [if_true] at hz
      exact ⟨some x, l, c, _, rfl, cameM_some wR0 wC0 hl hm hz hcell hwz⟩
  obtain ⟨a1, rfl, rfl, rfl, w1⟩ := open_int Try.underlying3 (hval 1 3 v1 rfl rfl) h1
  obtain ⟨a2, rfl, rfl, rfl, w2⟩ := open_int Try.underlying3 (hval 2 3 v2 rfl rfl) h2
  clear hA0 hval0 hsz hsz0
  refine (walk R0 C0 a0 len0 cap0 zs0 a1 a2 W w0 w1 w2).mono fun e W' ⟨he, bel⟩ => ?_
  subst he
  exact ⟨_, rfl, _, _, _, [], _, [], hW', trodAll_mk1 (shut_bool Try.underlying4 _), (trodAll_cons_mk (Below.trod laidOut (by kernel_rfl) (of_decide_eq_true (by kernel_rfl)) k0 bel lt0) (trodAll_cons_mk (shut_int Try.underlying3 w1) (trodAll_cons_mk (shut_int Try.underlying3 w2) trodAll_mk0))), rfl, bel.frame _, fun h => by cases h⟩

theorem over : Rows.matMakesRow.holds Try.pinned (OpenSpec.ofChange Rows.matMakesSpec) :=
  OpenClaim.holds_of_wide 3 Try.f3 rfl rfl rfl rfl rfl rfl rfl ⟨rfl, rfl, rfl, rfl, rfl⟩ rfl rfl rfl rfl rfl (by kernel_rfl) Try.func3 (by kernel_rfl)
    (of_decide_eq_true (by kernel_rfl)) (by unfold Func.isWrapper; first | (rw [if_pos (by decide +kernel)]; kernel_rfl) | (rw [if_neg (by decide +kernel)]; exact ⟨rfl, rfl⟩))
    (fun os started H enc _ => lifted os started H enc)

theorem proved : Rows.MatMakesSaid := over
end Go.Proofs.Ytklledigcabllaa.matMakes
