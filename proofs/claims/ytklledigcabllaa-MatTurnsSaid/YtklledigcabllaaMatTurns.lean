/-
  For all matrices, columns and numbers q, sakialaw07.MatTurns(m, y, q) returns true. No condition.
-/
import Derived.Test.YtklledigcabllaaRows
import Derived.Test.YtklledigcabllaaUx
import Derived.Lib.SmallJoins
import Derived.Deep.RegionHeld
import Derived.WalkKit
import Derived.ProofKit
import Derived.OpenShut
import Derived.ShutString
import Derived.ChangeOld
import Derived.Below
import Derived.SizedLaws
namespace Go.Proofs.Ytklledigcabllaa.matTurns
open Go.ChangeShapes Go.WideShapes Go.ChangeAt Go.RowKit
open Go.Proofs.Ytklledigcabllaa
set_option linter.unusedVariables false

theorem own : ownKnob Try.prog.godebug = none := by kernel_rfl
theorem laidOut : laidOutB Try.prog = true := by kernel_rfl

set_option linter.unusedSimpArgs false

set_option maxRecDepth 100000 in
set_option maxHeartbeats 4000000 in
theorem way_false (R0 C0 : Int) (a0 : Option Addr) (len0 cap0 : Nat) (zs0 : List Int) (a1 : Option Addr) (len1 cap1 : Nat) (zs1 : List Int) (a2 : Int) (w : World) (hA : ¬ 600 < len0) (hA1 : ¬ 600 < len1) (h0 : Seen w a0 len0 cap0 zs0) (h1 : Seen w a1 len1 cap1 zs1) (hR : rightB R0 C0 len0 = false) :
    Calls Try.prog 5 #[.agg #[.int .i64 R0, .int .i64 C0, .slice a0 len0 cap0], .slice a1 len1 cap1, .int .i64 a2] w fun e w' => e = .returned (.bool true) ∧ Below w.heap.size w w' := by

    have HG0 : Hid (Grew w (w.alloc (.cells #[.int .i64 R0, .int .i64 C0, .slice a0 len0 cap0] 24))) := Lib.hid ((Grew.refl w).alloc _)
    have HM0 := Lib.hid (Three.new w 24 (.int .i64 R0) (.int .i64 C0) (.slice a0 len0 cap0))

    have hz0 := h0.1
    have HZ0 := Lib.hid h0
    have HZ1 := Lib.hid h1
    have HR := Lib.hid hR
    clear h0 h1 hR
    go_enter Try.func5, Try.ntmps5
    have Z0 := Lib.hid (HZ0.out.grow HG0.out)
    have Y0 := Lib.hid (HZ1.out.grow HG0.out)
    go_wp2_with fail
    refine (few_any R0 C0 a0 len0 cap0 _).mono ?_
    rintro e w1_ ⟨rfl, g1⟩
    have Z_1 := Lib.hid (Z0.out.grow g1)
    have Y_1 := Lib.hid (Y0.out.grow g1)
    have HG_1 := Lib.hid (HG0.out.trans g1)
    have HM_1 := Lib.hid (HM0.out.grow g1)
    have m0_1 := HM_1.out.c0
    have m1_1 := HM_1.out.c1
    have m2_1 := HM_1.out.c2
    have hl_1 := HM_1.out.lt
    clear g1
    rw [decide_eq_true (by omega)]
    go_wp2_with fail
    refine (given_any R0 C0 a0 len0 cap0 _).mono ?_
    rintro e w2_ ⟨rfl, g2⟩
    have Z_2 := Lib.hid (Z_1.out.grow g2)
    have Y_2 := Lib.hid (Y_1.out.grow g2)
    have HG_2 := Lib.hid (HG_1.out.trans g2)
    have HM_2 := Lib.hid (HM_1.out.grow g2)
    clear m0_1 m1_1 m2_1 hl_1
    have m0_2 := HM_2.out.c0
    have m1_2 := HM_2.out.c1
    have m2_2 := HM_2.out.c2
    have hl_2 := HM_2.out.lt
    clear g2
    go_wp2_with fail
    refine (turn_all Z_2.out).mono ?_
    rintro e w3_ ⟨⟨s1, n1, c1, rfl, hs⟩, g3⟩
    have hq1 := mul_is_backB R0 C0 zs0 len1
    have hq2 := mul_is_back R0 C0 zs0 zs1 a2
    have hq3 := turn_right R0 C0 zs0
    rw [hz0, hs.1] at hq1
    rw [hz0] at hq2
    rw [hz0, hs.1] at hq3
    have HQ1 := Lib.hid hq1
    have HQ2 := Lib.hid hq2
    have HQ3 := Lib.hid hq3
    clear hq1 hq2 hq3
    have T := Lib.hid hs
    have Z_3 := Lib.hid (Z_2.out.grow g3)
    have Y_3 := Lib.hid (Y_2.out.grow g3)
    have HG_3 := Lib.hid (HG_2.out.trans g3)
    have HM_3 := Lib.hid (HM_2.out.grow g3)
    clear m0_2 m1_2 m2_2 hl_2
    have m0_3 := HM_3.out.c0
    have m1_3 := HM_3.out.c1
    have m2_3 := HM_3.out.c2
    have hl_3 := HM_3.out.lt
    clear hs
    clear g3
    generalize htR : turnA R0 C0 len0 C0 = tR at *
    generalize htC : turnA R0 C0 len0 R0 = tC at *
    have HTA := Lib.hid htR
    have HTB := Lib.hid htC
    clear htR htC
    go_wp2_with fail
    have gA : Grew w3_ (w3_.alloc (.cells #[.int .i64 tR, .int .i64 tC, .slice s1 n1 c1] 29)) := (Grew.refl _).alloc _
    have Htb := Lib.hid (Three.new w3_ 29 (.int .i64 tR) (.int .i64 tC) (.slice s1 n1 c1))
    have Z_3a := Lib.hid (Z_3.out.grow gA)
    have Y_3a := Lib.hid (Y_3.out.grow gA)
    have T_3a := Lib.hid (T.out.grow gA)
    have HG_3a := Lib.hid (HG_3.out.trans gA)
    have HM_3a := Lib.hid (HM_3.out.grow gA)
    clear m0_3 m1_3 m2_3 hl_3
    clear gA
    generalize w3_.alloc (.cells #[.int .i64 tR, .int .i64 tC, .slice s1 n1 c1] 29) = w3a_ at *
    generalize w3_.heap.size = tb at *
    refine (given_any R0 C0 a0 len0 cap0 _).mono ?_
    rintro e w4_ ⟨rfl, g4⟩
    have Z_4 := Lib.hid (Z_3a.out.grow g4)
    have Y_4 := Lib.hid (Y_3a.out.grow g4)
    have T_4 := Lib.hid (T_3a.out.grow g4)
    have HG_4 := Lib.hid (HG_3a.out.trans g4)
    have HM_4 := Lib.hid (HM_3a.out.grow g4)
    have m0_4 := HM_4.out.c0
    have m1_4 := HM_4.out.c1
    have m2_4 := HM_4.out.c2
    have hl_4 := HM_4.out.lt
    have tb_4 := Lib.hid (Htb.out.grow g4)
    have b0tb_4 := tb_4.out.c0
    have b1tb_4 := tb_4.out.c1
    have b2tb_4 := tb_4.out.c2
    have bltb_4 := tb_4.out.lt
    clear g4
    go_wp2_with fail
    refine (back_all Z_4.out Y_4.out).mono ?_
    rintro e w5_ ⟨⟨s2, n2, c2, rfl, hs⟩, g5⟩
    have A := Lib.hid hs
    have Z_5 := Lib.hid (Z_4.out.grow g5)
    have Y_5 := Lib.hid (Y_4.out.grow g5)
    have T_5 := Lib.hid (T_4.out.grow g5)
    have HG_5 := Lib.hid (HG_4.out.trans g5)
    have HM_5 := Lib.hid (HM_4.out.grow g5)
    clear m0_4 m1_4 m2_4 hl_4
    have m0_5 := HM_5.out.c0
    have m1_5 := HM_5.out.c1
    have m2_5 := HM_5.out.c2
    have hl_5 := HM_5.out.lt
    have tb_5 := Lib.hid (tb_4.out.grow g5)
    clear b0tb_4 b1tb_4 b2tb_4 bltb_4
    have b0tb_5 := tb_5.out.c0
    have b1tb_5 := tb_5.out.c1
    have b2tb_5 := tb_5.out.c2
    have bltb_5 := tb_5.out.lt
    clear hs
    clear g5
    go_wp2_with fail
    refine (mul_all T_5.out Y_5.out).mono ?_
    rintro e w6_ ⟨⟨s3, n3, c3, rfl, hs⟩, g6⟩
    rw [HQ1.out]
    rw [HQ2.out] at hs
    have B := Lib.hid hs
    have Z_6 := Lib.hid (Z_5.out.grow g6)
    have Y_6 := Lib.hid (Y_5.out.grow g6)
    have T_6 := Lib.hid (T_5.out.grow g6)
    have A_6 := Lib.hid (A.out.grow g6)
    have HG_6 := Lib.hid (HG_5.out.trans g6)
    have HM_6 := Lib.hid (HM_5.out.grow g6)
    clear m0_5 m1_5 m2_5 hl_5
    have m0_6 := HM_6.out.c0
    have m1_6 := HM_6.out.c1
    have m2_6 := HM_6.out.c2
    have hl_6 := HM_6.out.lt
    have tb_6 := Lib.hid (tb_5.out.grow g6)
    clear b0tb_5 b1tb_5 b2tb_5 bltb_5
    have b0tb_6 := tb_6.out.c0
    have b1tb_6 := tb_6.out.c1
    have b2tb_6 := tb_6.out.c2
    have bltb_6 := tb_6.out.lt
    clear hs
    clear g6
    generalize backB R0 C0 len0 len1 = b1 at *
    have hbb1 : (b1 != b1) = false := bne_self_eq_false b1
    go_wp2_with fail
    have gD : Grew w6_ w6_.drew := Grew.drew' (Grew.refl _)
    have Z_6d := Lib.hid (Z_6.out.grow gD)
    have Y_6d := Lib.hid (Y_6.out.grow gD)
    have T_6d := Lib.hid (T_6.out.grow gD)
    have A_6d := Lib.hid (A_6.out.grow gD)
    have B_6d := Lib.hid (B.out.grow gD)
    have Btb_6d := Lib.hid (tb_6.out.grow gD)
    have HM_6d := Lib.hid (HM_6.out.grow gD)
    have HG_6d := Lib.hid (HG_6.out.trans gD)
    refine wp_region_held_drew (S := (fun W' => Grew w6_ W' ∧ W'.cell? ⟨tb, 0, none⟩ = some (.int .i64 tR) ∧ W'.cell? ⟨tb, 1, none⟩ = some (.int .i64 tC) ∧ W'.cell? ⟨tb, 2, none⟩ = some (.slice s1 n1 c1) ∧ W'.cell? ⟨w.heap.size, 0, none⟩ = some (.int .i64 R0) ∧ W'.cell? ⟨w.heap.size, 1, none⟩ = some (.int .i64 C0) ∧ W'.cell? ⟨w.heap.size, 2, none⟩ = some (.slice a0 len0 cap0))) (by kernel_rfl) ⟨Grew.drew' (Grew.refl _), tb_6.out.c0, tb_6.out.c1, tb_6.out.c2, HM_6.out.c0, HM_6.out.c1, HM_6.out.c2⟩ (fun hHeld => ?_)
    refine wpAnyH_take (i := 0) (oi := { dst := some 39, op := Go.Op.load 29 (Go.Operand.tmp 7), type := 29, pos := _, after := #[], guard := none }) (v := ?v1) rfl (by kernel_rfl) (by kernel_rfl) (by kernel_rfl) (fun _ _ _ h => h) (Or.inl ⟨by kernel_rfl, ?hy1⟩) (by assumption) ?_
    case hy1 => intro w hSw; (try dsimp only at hSw); first | (go_simp; done) | (go_simp; with_reducible rfl)
    (try simp only [Act.put, List.setIfInBounds_toArray, List.set_cons_zero, List.set_cons_succ])
    refine wpAnyH_take (i := 2) (oi := { dst := some 41, op := Go.Op.load 24 (Go.Operand.tmp 3), type := 24, pos := _, after := #[], guard := none }) (v := ?v2) rfl (by kernel_rfl) (by kernel_rfl) (by kernel_rfl) (fun _ _ _ h => h) (Or.inl ⟨by kernel_rfl, ?hy2⟩) (by assumption) ?_
    case hy2 => intro w hSw; (try dsimp only at hSw); first | (go_simp; done) | (go_simp; with_reducible rfl)
    (try simp only [Act.put, List.setIfInBounds_toArray, List.set_cons_zero, List.set_cons_succ])
    refine wpAnyH_ready (rs := [1]) (by kernel_rfl) (by simp) ?_
    refine AllReadyH.cons (o := { dst := some 40, op := Go.Op.call { callee := Go.Callee.value (Go.Operand.func 15), args := #[Go.Operand.tmp 39], argTypes := #[29] }, type := 24, pos := _, after := #[{ on := 0, ground := Go.Ground.data }], guard := none }) rfl (fun K hK => ?_) AllReadyH.nil
    go_simp
    (go_at_call 15; refine (back_any _ _ _ _ _ _).mono ?_; rintro e w7_ ⟨rfl, g7⟩; have Z_7 := Lib.hid (Z_6d.out.grow g7); have Y_7 := Lib.hid (Y_6d.out.grow g7); have T_7 := Lib.hid (T_6d.out.grow g7); have A_7 := Lib.hid (A_6d.out.grow g7); have B_7 := Lib.hid (B_6d.out.grow g7); have Btb_7 := Lib.hid (Btb_6d.out.grow g7); have HM_7 := Lib.hid (HM_6d.out.grow g7); have HG_7 := Lib.hid (HG_6d.out.trans g7))
    (try go_wp2_with fail)
    refine hK.out _ _ ?hS4 (fun hHeld => ?_)
    case hS4 => (try dsimp only); exact keep_h6 g7 (by assumption)
    clear hK K
    (try simp only [Act.put, List.setIfInBounds_toArray, List.set_cons_zero, List.set_cons_succ])
    refine wpAnyH_ready (rs := [3]) (by kernel_rfl) (by simp) ?_
    refine AllReadyH.cons (o := { dst := some 42, op := Go.Op.call { callee := Go.Callee.value (Go.Operand.func 26), args := #[Go.Operand.tmp 41], argTypes := #[24] }, type := 24, pos := _, after := #[{ on := 2, ground := Go.Ground.data }, { on := 1, ground := Go.Ground.chain }], guard := none }) rfl (fun K hK => ?_) AllReadyH.nil
    go_simp
    (go_at_call 26; refine (rturn_all Z_7.out).mono ?_; rintro e w8_ ⟨⟨s4, n4, c4, rfl, hs⟩, g8⟩; rw [HTA.out, HTB.out]; have U := Lib.hid hs; have Z_8 := Lib.hid (Z_7.out.grow g8); have Y_8 := Lib.hid (Y_7.out.grow g8); have T_8 := Lib.hid (T_7.out.grow g8); have A_8 := Lib.hid (A_7.out.grow g8); have B_8 := Lib.hid (B_7.out.grow g8); have Btb_8 := Lib.hid (Btb_7.out.grow g8); have HM_8 := Lib.hid (HM_7.out.grow g8); have HG_8 := Lib.hid (HG_7.out.trans g8); clear hs)
    (try go_wp2_with fail)
    refine hK.out _ _ ?hS6 (fun hHeld => ?_)
    case hS6 => (try dsimp only); exact keep_h6 g8 (by assumption)
    clear hK K
    (try simp only [Act.put, List.setIfInBounds_toArray, List.set_cons_zero, List.set_cons_succ])
    refine wpAnyH_ready (rs := [4]) (by kernel_rfl) (by simp) ?_
    refine AllReadyH.cons (o := { dst := some 43, op := Go.Op.call { callee := Go.Callee.value (Go.Operand.func 14), args := #[Go.Operand.tmp 40, Go.Operand.tmp 42], argTypes := #[24, 24] }, type := 4, pos := _, after := #[{ on := 1, ground := Go.Ground.data }, { on := 3, ground := Go.Ground.data }, { on := 3, ground := Go.Ground.chain }], guard := none }) rfl (fun K hK => ?_) AllReadyH.nil
    go_simp
    (go_at_call 14; refine (msame_seen T_8.out U.out).mono ?_; rintro e w9_ ⟨rfl, g9⟩; have Z_9 := Lib.hid (Z_8.out.grow g9); have Y_9 := Lib.hid (Y_8.out.grow g9); have T_9 := Lib.hid (T_8.out.grow g9); have A_9 := Lib.hid (A_8.out.grow g9); have B_9 := Lib.hid (B_8.out.grow g9); have U_9 := Lib.hid (U.out.grow g9); have Btb_9 := Lib.hid (Btb_8.out.grow g9); have HM_9 := Lib.hid (HM_8.out.grow g9); have HG_9 := Lib.hid (HG_8.out.trans g9))
    (try go_wp2_with fail)
    refine hK.out _ _ ?hS8 (fun hHeld => ?_)
    case hS8 => (try dsimp only); exact keep_h6 g9 (by assumption)
    clear hK K
    (try simp only [Act.put, List.setIfInBounds_toArray, List.set_cons_zero, List.set_cons_succ])
    refine wpAnyH_take (i := 5) (oi := { dst := some 44, op := Go.Op.unOp Go.UnOp.not 4 (Go.Operand.tmp 43), type := 4, pos := _, after := #[{ on := 4, ground := Go.Ground.data }], guard := none }) (v := ?v9) rfl (by kernel_rfl) (by kernel_rfl) (by kernel_rfl) (fun _ _ _ h => h) (Or.inl ⟨by kernel_rfl, ?hy9⟩) (by assumption) ?_
    case hy9 => intro w hSw; (try dsimp only at hSw); first | (go_simp; done) | (go_simp; with_reducible rfl)
    (try simp only [Act.put, List.setIfInBounds_toArray, List.set_cons_zero, List.set_cons_succ])
    refine wpAnyH_take (i := 6) (oi := { dst := some 45, op := Go.Op.move (Go.Operand.tmp 44), type := 4, pos := _, after := #[{ on := 5, ground := Go.Ground.data }, { on := 4, ground := Go.Ground.chain }], guard := none }) (v := ?v10) rfl (by kernel_rfl) (by kernel_rfl) (by kernel_rfl) (fun _ _ _ h => h) (Or.inl ⟨by kernel_rfl, ?hy10⟩) (by assumption) ?_
    case hy10 => intro w hSw; (try dsimp only at hSw); first | (go_simp; done) | (go_simp; with_reducible rfl)
    (try simp only [Act.put, List.setIfInBounds_toArray, List.set_cons_zero, List.set_cons_succ])
    refine wpAnyH_take (i := 7) (oi := { dst := some 46, op := Go.Op.move (Go.Operand.tmp 9), type := 4, pos := _, after := #[{ on := 6, ground := Go.Ground.guard }], guard := some (6, false) }) (v := ?v11) rfl (by kernel_rfl) (by kernel_rfl) (by kernel_rfl) (fun _ _ _ h => h) (Or.inl ⟨by kernel_rfl, ?hy11⟩) (by assumption) ?_
    case hy11 => intro w hSw; (try dsimp only at hSw); first | (go_simp; done) | (go_simp; with_reducible rfl)
    (try simp only [Act.put, List.setIfInBounds_toArray, List.set_cons_zero, List.set_cons_succ])
    refine wpAnyH_take (i := 8) (oi := { dst := some 47, op := Go.Op.move (Go.Operand.tmp 11), type := 4, pos := _, after := #[{ on := 6, ground := Go.Ground.guard }], guard := some (6, false) }) (v := ?v12) rfl (by kernel_rfl) (by kernel_rfl) (by kernel_rfl) (fun _ _ _ h => h) (Or.inl ⟨by kernel_rfl, ?hy12⟩) (by assumption) ?_
    case hy12 => intro w hSw; (try dsimp only at hSw); first | (go_simp; done) | (go_simp; with_reducible rfl)
    (try simp only [Act.put, List.setIfInBounds_toArray, List.set_cons_zero, List.set_cons_succ])
    refine wpAnyH_take (i := 9) (oi := { dst := some 48, op := Go.Op.binOp Go.BinOp.neq 4 (Go.Operand.tmp 46) (Go.Operand.tmp 47) 4, type := 4, pos := _, after := #[{ on := 7, ground := Go.Ground.data }, { on := 8, ground := Go.Ground.data }, { on := 6, ground := Go.Ground.guard }], guard := some (6, false) }) (v := ?v13) rfl (by kernel_rfl) (by kernel_rfl) (by kernel_rfl) (fun _ _ _ h => h) (Or.inl ⟨by kernel_rfl, ?hy13⟩) (by assumption) ?_
    case hy13 => intro w hSw; (try dsimp only at hSw); first | (go_simp; done) | (go_simp; with_reducible rfl)
    (try simp only [Act.put, List.setIfInBounds_toArray, List.set_cons_zero, List.set_cons_succ])
    refine wpAnyH_take (i := 10) (oi := { dst := some 49, op := Go.Op.pick (Go.Operand.tmp 45) (Go.Operand.const (Go.Value.bool true)) (Go.Operand.tmp 48), type := 4, pos := _, after := #[{ on := 6, ground := Go.Ground.data }, { on := 9, ground := Go.Ground.data }], guard := none }) (v := ?v14) rfl (by kernel_rfl) (by kernel_rfl) (by kernel_rfl) (fun _ _ _ h => h) (Or.inl ⟨by kernel_rfl, ?hy14⟩) (by assumption) ?_
    case hy14 => intro w hSw; (try dsimp only at hSw); first | (go_simp; done) | (go_simp; with_reducible rfl)
    (try simp only [Act.put, List.setIfInBounds_toArray, List.set_cons_zero, List.set_cons_succ])
    refine wpAnyH_take (i := 11) (oi := { dst := some 50, op := Go.Op.move (Go.Operand.tmp 49), type := 4, pos := _, after := #[{ on := 10, ground := Go.Ground.data }, { on := 6, ground := Go.Ground.chain }], guard := none }) (v := ?v15) rfl (by kernel_rfl) (by kernel_rfl) (by kernel_rfl) (fun _ _ _ h => h) (Or.inl ⟨by kernel_rfl, ?hy15⟩) (by assumption) ?_
    case hy15 => intro w hSw; (try dsimp only at hSw); first | (go_simp; done) | (go_simp; with_reducible rfl)
    (try simp only [Act.put, List.setIfInBounds_toArray, List.set_cons_zero, List.set_cons_succ])
    refine wpAnyH_take (i := 12) (oi := { dst := some 51, op := Go.Op.move (Go.Operand.tmp 8), type := 27, pos := _, after := #[{ on := 11, ground := Go.Ground.guard }], guard := some (11, false) }) (v := ?v16) rfl (by kernel_rfl) (by kernel_rfl) (by kernel_rfl) (fun _ _ _ h => h) (Or.inl ⟨by kernel_rfl, ?hy16⟩) (by assumption) ?_
    case hy16 => intro w hSw; (try dsimp only at hSw); first | (go_simp; done) | (go_simp; with_reducible rfl)
    (try simp only [Act.put, List.setIfInBounds_toArray, List.set_cons_zero, List.set_cons_succ])
    refine wpAnyH_take (i := 13) (oi := { dst := some 52, op := Go.Op.move (Go.Operand.tmp 10), type := 27, pos := _, after := #[{ on := 11, ground := Go.Ground.guard }], guard := some (11, false) }) (v := ?v17) rfl (by kernel_rfl) (by kernel_rfl) (by kernel_rfl) (fun _ _ _ h => h) (Or.inl ⟨by kernel_rfl, ?hy17⟩) (by assumption) ?_
    case hy17 => intro w hSw; (try dsimp only at hSw); first | (go_simp; done) | (go_simp; with_reducible rfl)
    (try simp only [Act.put, List.setIfInBounds_toArray, List.set_cons_zero, List.set_cons_succ])
    refine wpAnyH_ready (rs := [14]) (by kernel_rfl) (by simp) ?_
    refine AllReadyH.cons (o := { dst := some 53, op := Go.Op.call { callee := Go.Callee.value (Go.Operand.func 24), args := #[Go.Operand.tmp 51, Go.Operand.tmp 52], argTypes := #[22, 22] }, type := 4, pos := _, after := #[{ on := 12, ground := Go.Ground.data }, { on := 13, ground := Go.Ground.data }, { on := 11, ground := Go.Ground.chain }, { on := 11, ground := Go.Ground.guard }], guard := some (11, false) }) rfl (fun K hK => ?_) AllReadyH.nil
    go_simp
    (go_at_call 24; refine (same_seen A_9.out B_9.out).mono ?_; rintro e w10_ ⟨rfl, g10⟩; have Z_10 := Lib.hid (Z_9.out.grow g10); have Y_10 := Lib.hid (Y_9.out.grow g10); have T_10 := Lib.hid (T_9.out.grow g10); have A_10 := Lib.hid (A_9.out.grow g10); have B_10 := Lib.hid (B_9.out.grow g10); have U_10 := Lib.hid (U_9.out.grow g10); have Btb_10 := Lib.hid (Btb_9.out.grow g10); have HM_10 := Lib.hid (HM_9.out.grow g10); have HG_10 := Lib.hid (HG_9.out.trans g10))
    (try go_wp2_with fail)
    refine hK.out _ _ ?hS19 (fun hHeld => ?_)
    case hS19 => (try dsimp only); exact keep_h6 g10 (by assumption)
    clear hK K
    (try simp only [Act.put, List.setIfInBounds_toArray, List.set_cons_zero, List.set_cons_succ])
    refine wpAnyH_take (i := 15) (oi := { dst := some 54, op := Go.Op.unOp Go.UnOp.not 4 (Go.Operand.tmp 53), type := 4, pos := _, after := #[{ on := 14, ground := Go.Ground.data }, { on := 11, ground := Go.Ground.guard }], guard := some (11, false) }) (v := ?v20) rfl (by kernel_rfl) (by kernel_rfl) (by kernel_rfl) (fun _ _ _ h => h) (Or.inl ⟨by kernel_rfl, ?hy20⟩) (by assumption) ?_
    case hy20 => intro w hSw; (try dsimp only at hSw); first | (go_simp; done) | (go_simp; with_reducible rfl)
    (try simp only [Act.put, List.setIfInBounds_toArray, List.set_cons_zero, List.set_cons_succ])
    refine wpAnyH_take (i := 16) (oi := { dst := some 55, op := Go.Op.pick (Go.Operand.tmp 50) (Go.Operand.const (Go.Value.bool true)) (Go.Operand.tmp 54), type := 4, pos := _, after := #[{ on := 11, ground := Go.Ground.data }, { on := 15, ground := Go.Ground.data }], guard := none }) (v := ?v21) rfl (by kernel_rfl) (by kernel_rfl) (by kernel_rfl) (fun _ _ _ h => h) (Or.inl ⟨by kernel_rfl, ?hy21⟩) (by assumption) ?_
    case hy21 => intro w hSw; (try dsimp only at hSw); first | (go_simp; done) | (go_simp; with_reducible rfl)
    (try simp only [Act.put, List.setIfInBounds_toArray, List.set_cons_zero, List.set_cons_succ])
    refine wpAnyH_done (by kernel_rfl) ?_ _
    clear hHeld
    have m0_10 := HM_10.out.c0
    have m1_10 := HM_10.out.c1
    have m2_10 := HM_10.out.c2
    have hl_10 := HM_10.out.lt
    have b0tb_10 := Btb_10.out.c0
    have b1tb_10 := Btb_10.out.c1
    have b2tb_10 := Btb_10.out.c2
    have bltb_10 := Btb_10.out.lt
    go_wp2_with fail
    have gD : Grew w10_ w10_.drew := Grew.drew' (Grew.refl _)
    have Z_10d := Lib.hid (Z_10.out.grow gD)
    have Y_10d := Lib.hid (Y_10.out.grow gD)
    have T_10d := Lib.hid (T_10.out.grow gD)
    have A_10d := Lib.hid (A_10.out.grow gD)
    have B_10d := Lib.hid (B_10.out.grow gD)
    have U_10d := Lib.hid (U_10.out.grow gD)
    have Btb_10d := Lib.hid (Btb_10.out.grow gD)
    have HM_10d := Lib.hid (HM_10.out.grow gD)
    have HG_10d := Lib.hid (HG_10.out.trans gD)
    refine wp_region_held_drew (S := (fun W' => Grew w10_ W' ∧ W'.cell? ⟨tb, 0, none⟩ = some (.int .i64 tR) ∧ W'.cell? ⟨tb, 1, none⟩ = some (.int .i64 tC) ∧ W'.cell? ⟨tb, 2, none⟩ = some (.slice s1 n1 c1) ∧ W'.cell? ⟨w.heap.size, 0, none⟩ = some (.int .i64 R0) ∧ W'.cell? ⟨w.heap.size, 1, none⟩ = some (.int .i64 C0) ∧ W'.cell? ⟨w.heap.size, 2, none⟩ = some (.slice a0 len0 cap0))) (by kernel_rfl) ⟨Grew.drew' (Grew.refl _), Btb_10.out.c0, Btb_10.out.c1, Btb_10.out.c2, HM_10.out.c0, HM_10.out.c1, HM_10.out.c2⟩ (fun hHeld => ?_)
    refine wpAnyH_ready (rs := [0]) (by kernel_rfl) (by simp) ?_
    refine AllReadyH.cons (o := { dst := some 56, op := Go.Op.call { callee := Go.Callee.value (Go.Operand.func 9), args := #[], argTypes := #[] }, type := 4, pos := _, after := #[], guard := none }) rfl (fun K hK => ?_) AllReadyH.nil
    go_simp
    (go_at_call 9; refine (malive_any _).mono ?_; rintro e w11_ ⟨rfl, g11⟩; have Z_11 := Lib.hid (Z_10d.out.grow g11); have Y_11 := Lib.hid (Y_10d.out.grow g11); have T_11 := Lib.hid (T_10d.out.grow g11); have A_11 := Lib.hid (A_10d.out.grow g11); have B_11 := Lib.hid (B_10d.out.grow g11); have U_11 := Lib.hid (U_10d.out.grow g11); have Btb_11 := Lib.hid (Btb_10d.out.grow g11); have HM_11 := Lib.hid (HM_10d.out.grow g11); have HG_11 := Lib.hid (HG_10d.out.trans g11))
    (try go_wp2_with fail)
    refine hK.out _ _ ?hS23 (fun hHeld => ?_)
    case hS23 => (try dsimp only); exact keep_h6 g11 (by assumption)
    clear hK K
    (try simp only [Act.put, List.setIfInBounds_toArray, List.set_cons_zero, List.set_cons_succ])
    refine wpAnyH_take (i := 1) (oi := { dst := some 57, op := Go.Op.move (Go.Operand.tmp 56), type := 4, pos := _, after := #[{ on := 0, ground := Go.Ground.data }, { on := 0, ground := Go.Ground.chain }], guard := none }) (v := ?v24) rfl (by kernel_rfl) (by kernel_rfl) (by kernel_rfl) (fun _ _ _ h => h) (Or.inl ⟨by kernel_rfl, ?hy24⟩) (by assumption) ?_
    case hy24 => intro w hSw; (try dsimp only at hSw); first | (go_simp; done) | (go_simp; with_reducible rfl)
    (try simp only [Act.put, List.setIfInBounds_toArray, List.set_cons_zero, List.set_cons_succ])
    refine wpAnyH_take (i := 2) (oi := { dst := some 58, op := Go.Op.load 24 (Go.Operand.tmp 3), type := 24, pos := _, after := #[{ on := 1, ground := Go.Ground.guard }], guard := some (1, true) }) (v := ?v25) rfl (by kernel_rfl) (by kernel_rfl) (by kernel_rfl) (fun _ _ _ h => h) (Or.inl ⟨by kernel_rfl, ?hy25⟩) (by assumption) ?_
    case hy25 => intro w hSw; (try dsimp only at hSw); first | (go_simp; done) | (go_simp; with_reducible rfl)
    (try simp only [Act.put, List.setIfInBounds_toArray, List.set_cons_zero, List.set_cons_succ])
    refine wpAnyH_ready (rs := [3]) (by kernel_rfl) (by simp) ?_
    refine AllReadyH.cons (o := { dst := some 59, op := Go.Op.call { callee := Go.Callee.value (Go.Operand.func 12), args := #[Go.Operand.tmp 58], argTypes := #[24] }, type := 4, pos := _, after := #[{ on := 2, ground := Go.Ground.data }, { on := 1, ground := Go.Ground.chain }, { on := 1, ground := Go.Ground.guard }], guard := some (1, true) }) rfl (fun K hK => ?_) AllReadyH.nil
    go_simp
    (go_at_call 12; refine (rright_any R0 C0 a0 len0 cap0 _ (by omega)).mono ?_; rintro e w12_ ⟨rfl, g12⟩; rw [HR.out]; have Z_12 := Lib.hid (Z_11.out.grow g12); have Y_12 := Lib.hid (Y_11.out.grow g12); have T_12 := Lib.hid (T_11.out.grow g12); have A_12 := Lib.hid (A_11.out.grow g12); have B_12 := Lib.hid (B_11.out.grow g12); have U_12 := Lib.hid (U_11.out.grow g12); have Btb_12 := Lib.hid (Btb_11.out.grow g12); have HM_12 := Lib.hid (HM_11.out.grow g12); have HG_12 := Lib.hid (HG_11.out.trans g12))
    (try go_wp2_with fail)
    refine hK.out _ _ ?hS27 (fun hHeld => ?_)
    case hS27 => (try dsimp only); exact keep_h6 g12 (by assumption)
    clear hK K
    (try simp only [Act.put, List.setIfInBounds_toArray, List.set_cons_zero, List.set_cons_succ])
    refine wpAnyH_take (i := 4) (oi := { dst := some 60, op := Go.Op.unOp Go.UnOp.not 4 (Go.Operand.tmp 59), type := 4, pos := _, after := #[{ on := 3, ground := Go.Ground.data }, { on := 1, ground := Go.Ground.guard }], guard := some (1, true) }) (v := ?v28) rfl (by kernel_rfl) (by kernel_rfl) (by kernel_rfl) (fun _ _ _ h => h) (Or.inl ⟨by kernel_rfl, ?hy28⟩) (by assumption) ?_
    case hy28 => intro w hSw; (try dsimp only at hSw); first | (go_simp; done) | (go_simp; with_reducible rfl)
    (try simp only [Act.put, List.setIfInBounds_toArray, List.set_cons_zero, List.set_cons_succ])
    refine wpAnyH_take (i := 5) (oi := { dst := some 61, op := Go.Op.move (Go.Operand.tmp 60), type := 4, pos := _, after := #[{ on := 4, ground := Go.Ground.data }, { on := 3, ground := Go.Ground.chain }, { on := 1, ground := Go.Ground.guard }], guard := some (1, true) }) (v := ?v29) rfl (by kernel_rfl) (by kernel_rfl) (by kernel_rfl) (fun _ _ _ h => h) (Or.inl ⟨by kernel_rfl, ?hy29⟩) (by assumption) ?_
    case hy29 => intro w hSw; (try dsimp only at hSw); first | (go_simp; done) | (go_simp; with_reducible rfl)
    (try simp only [Act.put, List.setIfInBounds_toArray, List.set_cons_zero, List.set_cons_succ])
    refine wpAnyH_take (i := 6) (oi := { dst := some 62, op := Go.Op.load 29 (Go.Operand.tmp 7), type := 29, pos := _, after := #[{ on := 5, ground := Go.Ground.guard }], guard := some (5, false) }) (v := undef) rfl (by kernel_rfl) (by kernel_rfl) (by kernel_rfl) (fun _ _ _ h => h) (Or.inr ⟨by kernel_rfl, rfl⟩) (by assumption) ?_
    (try simp only [Act.put, List.setIfInBounds_toArray, List.set_cons_zero, List.set_cons_succ])
    refine wpAnyH_take (i := 7) (oi := { dst := some 63, op := Go.Op.call { callee := Go.Callee.value (Go.Operand.func 25), args := #[Go.Operand.tmp 62], argTypes := #[29] }, type := 29, pos := _, after := #[{ on := 6, ground := Go.Ground.data }, { on := 5, ground := Go.Ground.chain }, { on := 5, ground := Go.Ground.guard }], guard := some (5, false) }) (v := undef) rfl (by kernel_rfl) (by kernel_rfl) (by kernel_rfl) (fun _ _ _ h => h) (Or.inr ⟨by kernel_rfl, rfl⟩) (by assumption) ?_
    (try simp only [Act.put, List.setIfInBounds_toArray, List.set_cons_zero, List.set_cons_succ])
    refine wpAnyH_take (i := 8) (oi := { dst := some 64, op := Go.Op.call { callee := Go.Callee.value (Go.Operand.func 15), args := #[Go.Operand.tmp 63], argTypes := #[29] }, type := 24, pos := _, after := #[{ on := 7, ground := Go.Ground.data }, { on := 7, ground := Go.Ground.chain }, { on := 5, ground := Go.Ground.guard }], guard := some (5, false) }) (v := undef) rfl (by kernel_rfl) (by kernel_rfl) (by kernel_rfl) (fun _ _ _ h => h) (Or.inr ⟨by kernel_rfl, rfl⟩) (by assumption) ?_
    (try simp only [Act.put, List.setIfInBounds_toArray, List.set_cons_zero, List.set_cons_succ])
    refine wpAnyH_take (i := 9) (oi := { dst := some 65, op := Go.Op.load 24 (Go.Operand.tmp 3), type := 24, pos := _, after := #[{ on := 5, ground := Go.Ground.guard }], guard := some (5, false) }) (v := undef) rfl (by kernel_rfl) (by kernel_rfl) (by kernel_rfl) (fun _ _ _ h => h) (Or.inr ⟨by kernel_rfl, rfl⟩) (by assumption) ?_
    (try simp only [Act.put, List.setIfInBounds_toArray, List.set_cons_zero, List.set_cons_succ])
    refine wpAnyH_take (i := 10) (oi := { dst := some 66, op := Go.Op.call { callee := Go.Callee.value (Go.Operand.func 14), args := #[Go.Operand.tmp 64, Go.Operand.tmp 65], argTypes := #[24, 24] }, type := 4, pos := _, after := #[{ on := 8, ground := Go.Ground.data }, { on := 9, ground := Go.Ground.data }, { on := 8, ground := Go.Ground.chain }, { on := 5, ground := Go.Ground.guard }], guard := some (5, false) }) (v := undef) rfl (by kernel_rfl) (by kernel_rfl) (by kernel_rfl) (fun _ _ _ h => h) (Or.inr ⟨by kernel_rfl, rfl⟩) (by assumption) ?_
    (try simp only [Act.put, List.setIfInBounds_toArray, List.set_cons_zero, List.set_cons_succ])
    refine wpAnyH_take (i := 11) (oi := { dst := some 67, op := Go.Op.pick (Go.Operand.tmp 61) (Go.Operand.const (Go.Value.bool true)) (Go.Operand.tmp 66), type := 4, pos := _, after := #[{ on := 5, ground := Go.Ground.data }, { on := 10, ground := Go.Ground.data }, { on := 1, ground := Go.Ground.guard }], guard := some (1, true) }) (v := ?v35) rfl (by kernel_rfl) (by kernel_rfl) (by kernel_rfl) (fun _ _ _ h => h) (Or.inl ⟨by kernel_rfl, ?hy35⟩) (by assumption) ?_
    case hy35 => intro w hSw; (try dsimp only at hSw); first | (go_simp; done) | (go_simp; with_reducible rfl)
    (try simp only [Act.put, List.setIfInBounds_toArray, List.set_cons_zero, List.set_cons_succ])
    refine wpAnyH_take (i := 12) (oi := { dst := some 68, op := Go.Op.pick (Go.Operand.tmp 57) (Go.Operand.tmp 67) (Go.Operand.const (Go.Value.bool false)), type := 4, pos := _, after := #[{ on := 1, ground := Go.Ground.data }, { on := 11, ground := Go.Ground.data }], guard := none }) (v := ?v36) rfl (by kernel_rfl) (by kernel_rfl) (by kernel_rfl) (fun _ _ _ h => h) (Or.inl ⟨by kernel_rfl, ?hy36⟩) (by assumption) ?_
    case hy36 => intro w hSw; (try dsimp only at hSw); first | (go_simp; done) | (go_simp; with_reducible rfl)
    (try simp only [Act.put, List.setIfInBounds_toArray, List.set_cons_zero, List.set_cons_succ])
    refine wpAnyH_take (i := 13) (oi := { dst := some 6, op := Go.Op.assign (Go.Operand.tmp 68), type := 4, pos := _, after := #[{ on := 12, ground := Go.Ground.data }, { on := 10, ground := Go.Ground.chain }, { on := 0, ground := Go.Ground.phase }, { on := 1, ground := Go.Ground.phase }, { on := 2, ground := Go.Ground.phase }, { on := 3, ground := Go.Ground.phase }, { on := 4, ground := Go.Ground.phase }, { on := 5, ground := Go.Ground.phase }, { on := 6, ground := Go.Ground.phase }, { on := 7, ground := Go.Ground.phase }, { on := 8, ground := Go.Ground.phase }, { on := 9, ground := Go.Ground.phase }, { on := 10, ground := Go.Ground.phase }, { on := 11, ground := Go.Ground.phase }, { on := 12, ground := Go.Ground.phase }], guard := none }) (v := ?v37) rfl (by kernel_rfl) (by kernel_rfl) (by kernel_rfl) (fun _ _ _ h => h) (Or.inl ⟨by kernel_rfl, ?hy37⟩) (by assumption) ?_
    case hy37 => intro w hSw; (try dsimp only at hSw); first | (go_simp; done) | (go_simp; with_reducible rfl)
    (try simp only [Act.put, List.setIfInBounds_toArray, List.set_cons_zero, List.set_cons_succ])
    refine wpAnyH_done (by kernel_rfl) ?_ _
    clear hHeld
    have m0_12 := HM_12.out.c0
    have m1_12 := HM_12.out.c1
    have m2_12 := HM_12.out.c2
    have hl_12 := HM_12.out.lt
    have b0tb_12 := Btb_12.out.c0
    have b1tb_12 := Btb_12.out.c1
    have b2tb_12 := Btb_12.out.c2
    have bltb_12 := Btb_12.out.lt
    go_wp2
    go_ret
    exact ⟨rfl, HG_12.out⟩

set_option maxRecDepth 100000 in
set_option maxHeartbeats 4000000 in
theorem way_true (R0 C0 : Int) (a0 : Option Addr) (len0 cap0 : Nat) (zs0 : List Int) (a1 : Option Addr) (len1 cap1 : Nat) (zs1 : List Int) (a2 : Int) (w : World) (hA : ¬ 600 < len0) (hA1 : ¬ 600 < len1) (h0 : Seen w a0 len0 cap0 zs0) (h1 : Seen w a1 len1 cap1 zs1) (hR : rightB R0 C0 len0 = true) :
    Calls Try.prog 5 #[.agg #[.int .i64 R0, .int .i64 C0, .slice a0 len0 cap0], .slice a1 len1 cap1, .int .i64 a2] w fun e w' => e = .returned (.bool true) ∧ Below w.heap.size w w' := by

    have HG0 : Hid (Grew w (w.alloc (.cells #[.int .i64 R0, .int .i64 C0, .slice a0 len0 cap0] 24))) := Lib.hid ((Grew.refl w).alloc _)
    have HM0 := Lib.hid (Three.new w 24 (.int .i64 R0) (.int .i64 C0) (.slice a0 len0 cap0))

    have hz0 := h0.1
    have HZ0 := Lib.hid h0
    have HZ1 := Lib.hid h1
    have HR := Lib.hid hR
    clear h0 h1 hR
    go_enter Try.func5, Try.ntmps5
    have Z0 := Lib.hid (HZ0.out.grow HG0.out)
    have Y0 := Lib.hid (HZ1.out.grow HG0.out)
    go_wp2_with fail
    refine (few_any R0 C0 a0 len0 cap0 _).mono ?_
    rintro e w1_ ⟨rfl, g1⟩
    have Z_1 := Lib.hid (Z0.out.grow g1)
    have Y_1 := Lib.hid (Y0.out.grow g1)
    have HG_1 := Lib.hid (HG0.out.trans g1)
    have HM_1 := Lib.hid (HM0.out.grow g1)
    have m0_1 := HM_1.out.c0
    have m1_1 := HM_1.out.c1
    have m2_1 := HM_1.out.c2
    have hl_1 := HM_1.out.lt
    clear g1
    rw [decide_eq_true (by omega)]
    go_wp2_with fail
    refine (given_any R0 C0 a0 len0 cap0 _).mono ?_
    rintro e w2_ ⟨rfl, g2⟩
    have Z_2 := Lib.hid (Z_1.out.grow g2)
    have Y_2 := Lib.hid (Y_1.out.grow g2)
    have HG_2 := Lib.hid (HG_1.out.trans g2)
    have HM_2 := Lib.hid (HM_1.out.grow g2)
    clear m0_1 m1_1 m2_1 hl_1
    have m0_2 := HM_2.out.c0
    have m1_2 := HM_2.out.c1
    have m2_2 := HM_2.out.c2
    have hl_2 := HM_2.out.lt
    clear g2
    go_wp2_with fail
    refine (turn_all Z_2.out).mono ?_
    rintro e w3_ ⟨⟨s1, n1, c1, rfl, hs⟩, g3⟩
    have hq1 := mul_is_backB R0 C0 zs0 len1
    have hq2 := mul_is_back R0 C0 zs0 zs1 a2
    have hq3 := turn_right R0 C0 zs0
    rw [hz0, hs.1] at hq1
    rw [hz0] at hq2
    rw [hz0, hs.1] at hq3
    have HQ1 := Lib.hid hq1
    have HQ2 := Lib.hid hq2
    have HQ3 := Lib.hid hq3
    clear hq1 hq2 hq3
    have HQ4 : Hid (turnR (turnA R0 C0 len0 C0) (turnA R0 C0 len0 R0) (turnR R0 C0 zs0) = zs0) := Lib.hid (by have h := turn_twice (R := R0) (C := C0) (zs := zs0) (by rw [hz0]; exact HR.out); rw [hz0] at h; exact h)
    have T := Lib.hid hs
    have Z_3 := Lib.hid (Z_2.out.grow g3)
    have Y_3 := Lib.hid (Y_2.out.grow g3)
    have HG_3 := Lib.hid (HG_2.out.trans g3)
    have HM_3 := Lib.hid (HM_2.out.grow g3)
    clear m0_2 m1_2 m2_2 hl_2
    have m0_3 := HM_3.out.c0
    have m1_3 := HM_3.out.c1
    have m2_3 := HM_3.out.c2
    have hl_3 := HM_3.out.lt
    clear hs
    clear g3
    generalize htR : turnA R0 C0 len0 C0 = tR at *
    generalize htC : turnA R0 C0 len0 R0 = tC at *
    have HTR : Hid (tR = C0) := Lib.hid (by rw [← htR]; exact turnA_yes HR.out _)
    have HTC : Hid (tC = R0) := Lib.hid (by rw [← htC]; exact turnA_yes HR.out _)
    have HTA := Lib.hid htR
    have HTB := Lib.hid htC
    clear htR htC
    go_wp2_with fail
    have gA : Grew w3_ (w3_.alloc (.cells #[.int .i64 tR, .int .i64 tC, .slice s1 n1 c1] 29)) := (Grew.refl _).alloc _
    have Htb := Lib.hid (Three.new w3_ 29 (.int .i64 tR) (.int .i64 tC) (.slice s1 n1 c1))
    have Z_3a := Lib.hid (Z_3.out.grow gA)
    have Y_3a := Lib.hid (Y_3.out.grow gA)
    have T_3a := Lib.hid (T.out.grow gA)
    have HG_3a := Lib.hid (HG_3.out.trans gA)
    have HM_3a := Lib.hid (HM_3.out.grow gA)
    clear m0_3 m1_3 m2_3 hl_3
    clear gA
    generalize w3_.alloc (.cells #[.int .i64 tR, .int .i64 tC, .slice s1 n1 c1] 29) = w3a_ at *
    generalize w3_.heap.size = tb at *
    refine (given_any R0 C0 a0 len0 cap0 _).mono ?_
    rintro e w4_ ⟨rfl, g4⟩
    have Z_4 := Lib.hid (Z_3a.out.grow g4)
    have Y_4 := Lib.hid (Y_3a.out.grow g4)
    have T_4 := Lib.hid (T_3a.out.grow g4)
    have HG_4 := Lib.hid (HG_3a.out.trans g4)
    have HM_4 := Lib.hid (HM_3a.out.grow g4)
    have m0_4 := HM_4.out.c0
    have m1_4 := HM_4.out.c1
    have m2_4 := HM_4.out.c2
    have hl_4 := HM_4.out.lt
    have tb_4 := Lib.hid (Htb.out.grow g4)
    have b0tb_4 := tb_4.out.c0
    have b1tb_4 := tb_4.out.c1
    have b2tb_4 := tb_4.out.c2
    have bltb_4 := tb_4.out.lt
    clear g4
    go_wp2_with fail
    refine (back_all Z_4.out Y_4.out).mono ?_
    rintro e w5_ ⟨⟨s2, n2, c2, rfl, hs⟩, g5⟩
    have A := Lib.hid hs
    have Z_5 := Lib.hid (Z_4.out.grow g5)
    have Y_5 := Lib.hid (Y_4.out.grow g5)
    have T_5 := Lib.hid (T_4.out.grow g5)
    have HG_5 := Lib.hid (HG_4.out.trans g5)
    have HM_5 := Lib.hid (HM_4.out.grow g5)
    clear m0_4 m1_4 m2_4 hl_4
    have m0_5 := HM_5.out.c0
    have m1_5 := HM_5.out.c1
    have m2_5 := HM_5.out.c2
    have hl_5 := HM_5.out.lt
    have tb_5 := Lib.hid (tb_4.out.grow g5)
    clear b0tb_4 b1tb_4 b2tb_4 bltb_4
    have b0tb_5 := tb_5.out.c0
    have b1tb_5 := tb_5.out.c1
    have b2tb_5 := tb_5.out.c2
    have bltb_5 := tb_5.out.lt
    clear hs
    clear g5
    go_wp2_with fail
    refine (mul_all T_5.out Y_5.out).mono ?_
    rintro e w6_ ⟨⟨s3, n3, c3, rfl, hs⟩, g6⟩
    rw [HQ1.out]
    rw [HQ2.out] at hs
    have B := Lib.hid hs
    have Z_6 := Lib.hid (Z_5.out.grow g6)
    have Y_6 := Lib.hid (Y_5.out.grow g6)
    have T_6 := Lib.hid (T_5.out.grow g6)
    have A_6 := Lib.hid (A.out.grow g6)
    have HG_6 := Lib.hid (HG_5.out.trans g6)
    have HM_6 := Lib.hid (HM_5.out.grow g6)
    clear m0_5 m1_5 m2_5 hl_5
    have m0_6 := HM_6.out.c0
    have m1_6 := HM_6.out.c1
    have m2_6 := HM_6.out.c2
    have hl_6 := HM_6.out.lt
    have tb_6 := Lib.hid (tb_5.out.grow g6)
    clear b0tb_5 b1tb_5 b2tb_5 bltb_5
    have b0tb_6 := tb_6.out.c0
    have b1tb_6 := tb_6.out.c1
    have b2tb_6 := tb_6.out.c2
    have bltb_6 := tb_6.out.lt
    clear hs
    clear g6
    generalize backB R0 C0 len0 len1 = b1 at *
    have hbb1 : (b1 != b1) = false := bne_self_eq_false b1
    go_wp2_with fail
    have gD : Grew w6_ w6_.drew := Grew.drew' (Grew.refl _)
    have Z_6d := Lib.hid (Z_6.out.grow gD)
    have Y_6d := Lib.hid (Y_6.out.grow gD)
    have T_6d := Lib.hid (T_6.out.grow gD)
    have A_6d := Lib.hid (A_6.out.grow gD)
    have B_6d := Lib.hid (B.out.grow gD)
    have Btb_6d := Lib.hid (tb_6.out.grow gD)
    have HM_6d := Lib.hid (HM_6.out.grow gD)
    have HG_6d := Lib.hid (HG_6.out.trans gD)
    refine wp_region_held_drew (S := (fun W' => Grew w6_ W' ∧ W'.cell? ⟨tb, 0, none⟩ = some (.int .i64 tR) ∧ W'.cell? ⟨tb, 1, none⟩ = some (.int .i64 tC) ∧ W'.cell? ⟨tb, 2, none⟩ = some (.slice s1 n1 c1) ∧ W'.cell? ⟨w.heap.size, 0, none⟩ = some (.int .i64 R0) ∧ W'.cell? ⟨w.heap.size, 1, none⟩ = some (.int .i64 C0) ∧ W'.cell? ⟨w.heap.size, 2, none⟩ = some (.slice a0 len0 cap0))) (by kernel_rfl) ⟨Grew.drew' (Grew.refl _), tb_6.out.c0, tb_6.out.c1, tb_6.out.c2, HM_6.out.c0, HM_6.out.c1, HM_6.out.c2⟩ (fun hHeld => ?_)
    refine wpAnyH_take (i := 0) (oi := { dst := some 39, op := Go.Op.load 29 (Go.Operand.tmp 7), type := 29, pos := _, after := #[], guard := none }) (v := ?v38) rfl (by kernel_rfl) (by kernel_rfl) (by kernel_rfl) (fun _ _ _ h => h) (Or.inl ⟨by kernel_rfl, ?hy38⟩) (by assumption) ?_
    case hy38 => intro w hSw; (try dsimp only at hSw); first | (go_simp; done) | (go_simp; with_reducible rfl)
    (try simp only [Act.put, List.setIfInBounds_toArray, List.set_cons_zero, List.set_cons_succ])
    refine wpAnyH_take (i := 2) (oi := { dst := some 41, op := Go.Op.load 24 (Go.Operand.tmp 3), type := 24, pos := _, after := #[], guard := none }) (v := ?v39) rfl (by kernel_rfl) (by kernel_rfl) (by kernel_rfl) (fun _ _ _ h => h) (Or.inl ⟨by kernel_rfl, ?hy39⟩) (by assumption) ?_
    case hy39 => intro w hSw; (try dsimp only at hSw); first | (go_simp; done) | (go_simp; with_reducible rfl)
    (try simp only [Act.put, List.setIfInBounds_toArray, List.set_cons_zero, List.set_cons_succ])
    refine wpAnyH_ready (rs := [1]) (by kernel_rfl) (by simp) ?_
    refine AllReadyH.cons (o := { dst := some 40, op := Go.Op.call { callee := Go.Callee.value (Go.Operand.func 15), args := #[Go.Operand.tmp 39], argTypes := #[29] }, type := 24, pos := _, after := #[{ on := 0, ground := Go.Ground.data }], guard := none }) rfl (fun K hK => ?_) AllReadyH.nil
    go_simp
    (go_at_call 15; refine (back_any _ _ _ _ _ _).mono ?_; rintro e w7_ ⟨rfl, g7⟩; have Z_7 := Lib.hid (Z_6d.out.grow g7); have Y_7 := Lib.hid (Y_6d.out.grow g7); have T_7 := Lib.hid (T_6d.out.grow g7); have A_7 := Lib.hid (A_6d.out.grow g7); have B_7 := Lib.hid (B_6d.out.grow g7); have Btb_7 := Lib.hid (Btb_6d.out.grow g7); have HM_7 := Lib.hid (HM_6d.out.grow g7); have HG_7 := Lib.hid (HG_6d.out.trans g7))
    (try go_wp2_with fail)
    refine hK.out _ _ ?hS41 (fun hHeld => ?_)
    case hS41 => (try dsimp only); exact keep_h6 g7 (by assumption)
    clear hK K
    (try simp only [Act.put, List.setIfInBounds_toArray, List.set_cons_zero, List.set_cons_succ])
    refine wpAnyH_ready (rs := [3]) (by kernel_rfl) (by simp) ?_
    refine AllReadyH.cons (o := { dst := some 42, op := Go.Op.call { callee := Go.Callee.value (Go.Operand.func 26), args := #[Go.Operand.tmp 41], argTypes := #[24] }, type := 24, pos := _, after := #[{ on := 2, ground := Go.Ground.data }, { on := 1, ground := Go.Ground.chain }], guard := none }) rfl (fun K hK => ?_) AllReadyH.nil
    go_simp
    (go_at_call 26; refine (rturn_all Z_7.out).mono ?_; rintro e w8_ ⟨⟨s4, n4, c4, rfl, hs⟩, g8⟩; rw [HTA.out, HTB.out]; have U := Lib.hid hs; have Z_8 := Lib.hid (Z_7.out.grow g8); have Y_8 := Lib.hid (Y_7.out.grow g8); have T_8 := Lib.hid (T_7.out.grow g8); have A_8 := Lib.hid (A_7.out.grow g8); have B_8 := Lib.hid (B_7.out.grow g8); have Btb_8 := Lib.hid (Btb_7.out.grow g8); have HM_8 := Lib.hid (HM_7.out.grow g8); have HG_8 := Lib.hid (HG_7.out.trans g8); clear hs)
    (try go_wp2_with fail)
    refine hK.out _ _ ?hS43 (fun hHeld => ?_)
    case hS43 => (try dsimp only); exact keep_h6 g8 (by assumption)
    clear hK K
    (try simp only [Act.put, List.setIfInBounds_toArray, List.set_cons_zero, List.set_cons_succ])
    refine wpAnyH_ready (rs := [4]) (by kernel_rfl) (by simp) ?_
    refine AllReadyH.cons (o := { dst := some 43, op := Go.Op.call { callee := Go.Callee.value (Go.Operand.func 14), args := #[Go.Operand.tmp 40, Go.Operand.tmp 42], argTypes := #[24, 24] }, type := 4, pos := _, after := #[{ on := 1, ground := Go.Ground.data }, { on := 3, ground := Go.Ground.data }, { on := 3, ground := Go.Ground.chain }], guard := none }) rfl (fun K hK => ?_) AllReadyH.nil
    go_simp
    (go_at_call 14; refine (msame_seen T_8.out U.out).mono ?_; rintro e w9_ ⟨rfl, g9⟩; have Z_9 := Lib.hid (Z_8.out.grow g9); have Y_9 := Lib.hid (Y_8.out.grow g9); have T_9 := Lib.hid (T_8.out.grow g9); have A_9 := Lib.hid (A_8.out.grow g9); have B_9 := Lib.hid (B_8.out.grow g9); have U_9 := Lib.hid (U.out.grow g9); have Btb_9 := Lib.hid (Btb_8.out.grow g9); have HM_9 := Lib.hid (HM_8.out.grow g9); have HG_9 := Lib.hid (HG_8.out.trans g9))
    (try go_wp2_with fail)
    refine hK.out _ _ ?hS45 (fun hHeld => ?_)
    case hS45 => (try dsimp only); exact keep_h6 g9 (by assumption)
    clear hK K
    (try simp only [Act.put, List.setIfInBounds_toArray, List.set_cons_zero, List.set_cons_succ])
    refine wpAnyH_take (i := 5) (oi := { dst := some 44, op := Go.Op.unOp Go.UnOp.not 4 (Go.Operand.tmp 43), type := 4, pos := _, after := #[{ on := 4, ground := Go.Ground.data }], guard := none }) (v := ?v46) rfl (by kernel_rfl) (by kernel_rfl) (by kernel_rfl) (fun _ _ _ h => h) (Or.inl ⟨by kernel_rfl, ?hy46⟩) (by assumption) ?_
    case hy46 => intro w hSw; (try dsimp only at hSw); first | (go_simp; done) | (go_simp; with_reducible rfl)
    (try simp only [Act.put, List.setIfInBounds_toArray, List.set_cons_zero, List.set_cons_succ])
    refine wpAnyH_take (i := 6) (oi := { dst := some 45, op := Go.Op.move (Go.Operand.tmp 44), type := 4, pos := _, after := #[{ on := 5, ground := Go.Ground.data }, { on := 4, ground := Go.Ground.chain }], guard := none }) (v := ?v47) rfl (by kernel_rfl) (by kernel_rfl) (by kernel_rfl) (fun _ _ _ h => h) (Or.inl ⟨by kernel_rfl, ?hy47⟩) (by assumption) ?_
    case hy47 => intro w hSw; (try dsimp only at hSw); first | (go_simp; done) | (go_simp; with_reducible rfl)
    (try simp only [Act.put, List.setIfInBounds_toArray, List.set_cons_zero, List.set_cons_succ])
    refine wpAnyH_take (i := 7) (oi := { dst := some 46, op := Go.Op.move (Go.Operand.tmp 9), type := 4, pos := _, after := #[{ on := 6, ground := Go.Ground.guard }], guard := some (6, false) }) (v := ?v48) rfl (by kernel_rfl) (by kernel_rfl) (by kernel_rfl) (fun _ _ _ h => h) (Or.inl ⟨by kernel_rfl, ?hy48⟩) (by assumption) ?_
    case hy48 => intro w hSw; (try dsimp only at hSw); first | (go_simp; done) | (go_simp; with_reducible rfl)
    (try simp only [Act.put, List.setIfInBounds_toArray, List.set_cons_zero, List.set_cons_succ])
    refine wpAnyH_take (i := 8) (oi := { dst := some 47, op := Go.Op.move (Go.Operand.tmp 11), type := 4, pos := _, after := #[{ on := 6, ground := Go.Ground.guard }], guard := some (6, false) }) (v := ?v49) rfl (by kernel_rfl) (by kernel_rfl) (by kernel_rfl) (fun _ _ _ h => h) (Or.inl ⟨by kernel_rfl, ?hy49⟩) (by assumption) ?_
    case hy49 => intro w hSw; (try dsimp only at hSw); first | (go_simp; done) | (go_simp; with_reducible rfl)
    (try simp only [Act.put, List.setIfInBounds_toArray, List.set_cons_zero, List.set_cons_succ])
    refine wpAnyH_take (i := 9) (oi := { dst := some 48, op := Go.Op.binOp Go.BinOp.neq 4 (Go.Operand.tmp 46) (Go.Operand.tmp 47) 4, type := 4, pos := _, after := #[{ on := 7, ground := Go.Ground.data }, { on := 8, ground := Go.Ground.data }, { on := 6, ground := Go.Ground.guard }], guard := some (6, false) }) (v := ?v50) rfl (by kernel_rfl) (by kernel_rfl) (by kernel_rfl) (fun _ _ _ h => h) (Or.inl ⟨by kernel_rfl, ?hy50⟩) (by assumption) ?_
    case hy50 => intro w hSw; (try dsimp only at hSw); first | (go_simp; done) | (go_simp; with_reducible rfl)
    (try simp only [Act.put, List.setIfInBounds_toArray, List.set_cons_zero, List.set_cons_succ])
    refine wpAnyH_take (i := 10) (oi := { dst := some 49, op := Go.Op.pick (Go.Operand.tmp 45) (Go.Operand.const (Go.Value.bool true)) (Go.Operand.tmp 48), type := 4, pos := _, after := #[{ on := 6, ground := Go.Ground.data }, { on := 9, ground := Go.Ground.data }], guard := none }) (v := ?v51) rfl (by kernel_rfl) (by kernel_rfl) (by kernel_rfl) (fun _ _ _ h => h) (Or.inl ⟨by kernel_rfl, ?hy51⟩) (by assumption) ?_
    case hy51 => intro w hSw; (try dsimp only at hSw); first | (go_simp; done) | (go_simp; with_reducible rfl)
    (try simp only [Act.put, List.setIfInBounds_toArray, List.set_cons_zero, List.set_cons_succ])
    refine wpAnyH_take (i := 11) (oi := { dst := some 50, op := Go.Op.move (Go.Operand.tmp 49), type := 4, pos := _, after := #[{ on := 10, ground := Go.Ground.data }, { on := 6, ground := Go.Ground.chain }], guard := none }) (v := ?v52) rfl (by kernel_rfl) (by kernel_rfl) (by kernel_rfl) (fun _ _ _ h => h) (Or.inl ⟨by kernel_rfl, ?hy52⟩) (by assumption) ?_
    case hy52 => intro w hSw; (try dsimp only at hSw); first | (go_simp; done) | (go_simp; with_reducible rfl)
    (try simp only [Act.put, List.setIfInBounds_toArray, List.set_cons_zero, List.set_cons_succ])
    refine wpAnyH_take (i := 12) (oi := { dst := some 51, op := Go.Op.move (Go.Operand.tmp 8), type := 27, pos := _, after := #[{ on := 11, ground := Go.Ground.guard }], guard := some (11, false) }) (v := ?v53) rfl (by kernel_rfl) (by kernel_rfl) (by kernel_rfl) (fun _ _ _ h => h) (Or.inl ⟨by kernel_rfl, ?hy53⟩) (by assumption) ?_
    case hy53 => intro w hSw; (try dsimp only at hSw); first | (go_simp; done) | (go_simp; with_reducible rfl)
    (try simp only [Act.put, List.setIfInBounds_toArray, List.set_cons_zero, List.set_cons_succ])
    refine wpAnyH_take (i := 13) (oi := { dst := some 52, op := Go.Op.move (Go.Operand.tmp 10), type := 27, pos := _, after := #[{ on := 11, ground := Go.Ground.guard }], guard := some (11, false) }) (v := ?v54) rfl (by kernel_rfl) (by kernel_rfl) (by kernel_rfl) (fun _ _ _ h => h) (Or.inl ⟨by kernel_rfl, ?hy54⟩) (by assumption) ?_
    case hy54 => intro w hSw; (try dsimp only at hSw); first | (go_simp; done) | (go_simp; with_reducible rfl)
    (try simp only [Act.put, List.setIfInBounds_toArray, List.set_cons_zero, List.set_cons_succ])
    refine wpAnyH_ready (rs := [14]) (by kernel_rfl) (by simp) ?_
    refine AllReadyH.cons (o := { dst := some 53, op := Go.Op.call { callee := Go.Callee.value (Go.Operand.func 24), args := #[Go.Operand.tmp 51, Go.Operand.tmp 52], argTypes := #[22, 22] }, type := 4, pos := _, after := #[{ on := 12, ground := Go.Ground.data }, { on := 13, ground := Go.Ground.data }, { on := 11, ground := Go.Ground.chain }, { on := 11, ground := Go.Ground.guard }], guard := some (11, false) }) rfl (fun K hK => ?_) AllReadyH.nil
    go_simp
    (go_at_call 24; refine (same_seen A_9.out B_9.out).mono ?_; rintro e w10_ ⟨rfl, g10⟩; have Z_10 := Lib.hid (Z_9.out.grow g10); have Y_10 := Lib.hid (Y_9.out.grow g10); have T_10 := Lib.hid (T_9.out.grow g10); have A_10 := Lib.hid (A_9.out.grow g10); have B_10 := Lib.hid (B_9.out.grow g10); have U_10 := Lib.hid (U_9.out.grow g10); have Btb_10 := Lib.hid (Btb_9.out.grow g10); have HM_10 := Lib.hid (HM_9.out.grow g10); have HG_10 := Lib.hid (HG_9.out.trans g10))
    (try go_wp2_with fail)
    refine hK.out _ _ ?hS56 (fun hHeld => ?_)
    case hS56 => (try dsimp only); exact keep_h6 g10 (by assumption)
    clear hK K
    (try simp only [Act.put, List.setIfInBounds_toArray, List.set_cons_zero, List.set_cons_succ])
    refine wpAnyH_take (i := 15) (oi := { dst := some 54, op := Go.Op.unOp Go.UnOp.not 4 (Go.Operand.tmp 53), type := 4, pos := _, after := #[{ on := 14, ground := Go.Ground.data }, { on := 11, ground := Go.Ground.guard }], guard := some (11, false) }) (v := ?v57) rfl (by kernel_rfl) (by kernel_rfl) (by kernel_rfl) (fun _ _ _ h => h) (Or.inl ⟨by kernel_rfl, ?hy57⟩) (by assumption) ?_
    case hy57 => intro w hSw; (try dsimp only at hSw); first | (go_simp; done) | (go_simp; with_reducible rfl)
    (try simp only [Act.put, List.setIfInBounds_toArray, List.set_cons_zero, List.set_cons_succ])
    refine wpAnyH_take (i := 16) (oi := { dst := some 55, op := Go.Op.pick (Go.Operand.tmp 50) (Go.Operand.const (Go.Value.bool true)) (Go.Operand.tmp 54), type := 4, pos := _, after := #[{ on := 11, ground := Go.Ground.data }, { on := 15, ground := Go.Ground.data }], guard := none }) (v := ?v58) rfl (by kernel_rfl) (by kernel_rfl) (by kernel_rfl) (fun _ _ _ h => h) (Or.inl ⟨by kernel_rfl, ?hy58⟩) (by assumption) ?_
    case hy58 => intro w hSw; (try dsimp only at hSw); first | (go_simp; done) | (go_simp; with_reducible rfl)
    (try simp only [Act.put, List.setIfInBounds_toArray, List.set_cons_zero, List.set_cons_succ])
    refine wpAnyH_done (by kernel_rfl) ?_ _
    clear hHeld
    have m0_10 := HM_10.out.c0
    have m1_10 := HM_10.out.c1
    have m2_10 := HM_10.out.c2
    have hl_10 := HM_10.out.lt
    have b0tb_10 := Btb_10.out.c0
    have b1tb_10 := Btb_10.out.c1
    have b2tb_10 := Btb_10.out.c2
    have bltb_10 := Btb_10.out.lt
    go_wp2_with fail
    have gD : Grew w10_ w10_.drew := Grew.drew' (Grew.refl _)
    have Z_10d := Lib.hid (Z_10.out.grow gD)
    have Y_10d := Lib.hid (Y_10.out.grow gD)
    have T_10d := Lib.hid (T_10.out.grow gD)
    have A_10d := Lib.hid (A_10.out.grow gD)
    have B_10d := Lib.hid (B_10.out.grow gD)
    have U_10d := Lib.hid (U_10.out.grow gD)
    have Btb_10d := Lib.hid (Btb_10.out.grow gD)
    have HM_10d := Lib.hid (HM_10.out.grow gD)
    have HG_10d := Lib.hid (HG_10.out.trans gD)
    refine wp_region_held_drew (S := (fun W' => Grew w10_ W' ∧ W'.cell? ⟨tb, 0, none⟩ = some (.int .i64 tR) ∧ W'.cell? ⟨tb, 1, none⟩ = some (.int .i64 tC) ∧ W'.cell? ⟨tb, 2, none⟩ = some (.slice s1 n1 c1) ∧ W'.cell? ⟨w.heap.size, 0, none⟩ = some (.int .i64 R0) ∧ W'.cell? ⟨w.heap.size, 1, none⟩ = some (.int .i64 C0) ∧ W'.cell? ⟨w.heap.size, 2, none⟩ = some (.slice a0 len0 cap0))) (by kernel_rfl) ⟨Grew.drew' (Grew.refl _), Btb_10.out.c0, Btb_10.out.c1, Btb_10.out.c2, HM_10.out.c0, HM_10.out.c1, HM_10.out.c2⟩ (fun hHeld => ?_)
    refine wpAnyH_ready (rs := [0]) (by kernel_rfl) (by simp) ?_
    refine AllReadyH.cons (o := { dst := some 56, op := Go.Op.call { callee := Go.Callee.value (Go.Operand.func 9), args := #[], argTypes := #[] }, type := 4, pos := _, after := #[], guard := none }) rfl (fun K hK => ?_) AllReadyH.nil
    go_simp
    (go_at_call 9; refine (malive_any _).mono ?_; rintro e w11_ ⟨rfl, g11⟩; have Z_11 := Lib.hid (Z_10d.out.grow g11); have Y_11 := Lib.hid (Y_10d.out.grow g11); have T_11 := Lib.hid (T_10d.out.grow g11); have A_11 := Lib.hid (A_10d.out.grow g11); have B_11 := Lib.hid (B_10d.out.grow g11); have U_11 := Lib.hid (U_10d.out.grow g11); have Btb_11 := Lib.hid (Btb_10d.out.grow g11); have HM_11 := Lib.hid (HM_10d.out.grow g11); have HG_11 := Lib.hid (HG_10d.out.trans g11))
    (try go_wp2_with fail)
    refine hK.out _ _ ?hS60 (fun hHeld => ?_)
    case hS60 => (try dsimp only); exact keep_h6 g11 (by assumption)
    clear hK K
    (try simp only [Act.put, List.setIfInBounds_toArray, List.set_cons_zero, List.set_cons_succ])
    refine wpAnyH_take (i := 1) (oi := { dst := some 57, op := Go.Op.move (Go.Operand.tmp 56), type := 4, pos := _, after := #[{ on := 0, ground := Go.Ground.data }, { on := 0, ground := Go.Ground.chain }], guard := none }) (v := ?v61) rfl (by kernel_rfl) (by kernel_rfl) (by kernel_rfl) (fun _ _ _ h => h) (Or.inl ⟨by kernel_rfl, ?hy61⟩) (by assumption) ?_
    case hy61 => intro w hSw; (try dsimp only at hSw); first | (go_simp; done) | (go_simp; with_reducible rfl)
    (try simp only [Act.put, List.setIfInBounds_toArray, List.set_cons_zero, List.set_cons_succ])
    refine wpAnyH_take (i := 2) (oi := { dst := some 58, op := Go.Op.load 24 (Go.Operand.tmp 3), type := 24, pos := _, after := #[{ on := 1, ground := Go.Ground.guard }], guard := some (1, true) }) (v := ?v62) rfl (by kernel_rfl) (by kernel_rfl) (by kernel_rfl) (fun _ _ _ h => h) (Or.inl ⟨by kernel_rfl, ?hy62⟩) (by assumption) ?_
    case hy62 => intro w hSw; (try dsimp only at hSw); first | (go_simp; done) | (go_simp; with_reducible rfl)
    (try simp only [Act.put, List.setIfInBounds_toArray, List.set_cons_zero, List.set_cons_succ])
    refine wpAnyH_ready (rs := [3]) (by kernel_rfl) (by simp) ?_
    refine AllReadyH.cons (o := { dst := some 59, op := Go.Op.call { callee := Go.Callee.value (Go.Operand.func 12), args := #[Go.Operand.tmp 58], argTypes := #[24] }, type := 4, pos := _, after := #[{ on := 2, ground := Go.Ground.data }, { on := 1, ground := Go.Ground.chain }, { on := 1, ground := Go.Ground.guard }], guard := some (1, true) }) rfl (fun K hK => ?_) AllReadyH.nil
    go_simp
    (go_at_call 12; refine (rright_any R0 C0 a0 len0 cap0 _ (by omega)).mono ?_; rintro e w12_ ⟨rfl, g12⟩; rw [HR.out]; have Z_12 := Lib.hid (Z_11.out.grow g12); have Y_12 := Lib.hid (Y_11.out.grow g12); have T_12 := Lib.hid (T_11.out.grow g12); have A_12 := Lib.hid (A_11.out.grow g12); have B_12 := Lib.hid (B_11.out.grow g12); have U_12 := Lib.hid (U_11.out.grow g12); have Btb_12 := Lib.hid (Btb_11.out.grow g12); have HM_12 := Lib.hid (HM_11.out.grow g12); have HG_12 := Lib.hid (HG_11.out.trans g12))
    (try go_wp2_with fail)
    refine hK.out _ _ ?hS64 (fun hHeld => ?_)
    case hS64 => (try dsimp only); exact keep_h6 g12 (by assumption)
    clear hK K
    (try simp only [Act.put, List.setIfInBounds_toArray, List.set_cons_zero, List.set_cons_succ])
    refine wpAnyH_take (i := 4) (oi := { dst := some 60, op := Go.Op.unOp Go.UnOp.not 4 (Go.Operand.tmp 59), type := 4, pos := _, after := #[{ on := 3, ground := Go.Ground.data }, { on := 1, ground := Go.Ground.guard }], guard := some (1, true) }) (v := ?v65) rfl (by kernel_rfl) (by kernel_rfl) (by kernel_rfl) (fun _ _ _ h => h) (Or.inl ⟨by kernel_rfl, ?hy65⟩) (by assumption) ?_
    case hy65 => intro w hSw; (try dsimp only at hSw); first | (go_simp; done) | (go_simp; with_reducible rfl)
    (try simp only [Act.put, List.setIfInBounds_toArray, List.set_cons_zero, List.set_cons_succ])
    refine wpAnyH_take (i := 5) (oi := { dst := some 61, op := Go.Op.move (Go.Operand.tmp 60), type := 4, pos := _, after := #[{ on := 4, ground := Go.Ground.data }, { on := 3, ground := Go.Ground.chain }, { on := 1, ground := Go.Ground.guard }], guard := some (1, true) }) (v := ?v66) rfl (by kernel_rfl) (by kernel_rfl) (by kernel_rfl) (fun _ _ _ h => h) (Or.inl ⟨by kernel_rfl, ?hy66⟩) (by assumption) ?_
    case hy66 => intro w hSw; (try dsimp only at hSw); first | (go_simp; done) | (go_simp; with_reducible rfl)
    (try simp only [Act.put, List.setIfInBounds_toArray, List.set_cons_zero, List.set_cons_succ])
    refine wpAnyH_take (i := 6) (oi := { dst := some 62, op := Go.Op.load 29 (Go.Operand.tmp 7), type := 29, pos := _, after := #[{ on := 5, ground := Go.Ground.guard }], guard := some (5, false) }) (v := ?v67) rfl (by kernel_rfl) (by kernel_rfl) (by kernel_rfl) (fun _ _ _ h => h) (Or.inl ⟨by kernel_rfl, ?hy67⟩) (by assumption) ?_
    case hy67 => intro w hSw; (try dsimp only at hSw); first | (go_simp; done) | (go_simp; with_reducible rfl)
    (try simp only [Act.put, List.setIfInBounds_toArray, List.set_cons_zero, List.set_cons_succ])
    refine wpAnyH_take (i := 9) (oi := { dst := some 65, op := Go.Op.load 24 (Go.Operand.tmp 3), type := 24, pos := _, after := #[{ on := 5, ground := Go.Ground.guard }], guard := some (5, false) }) (v := ?v68) rfl (by kernel_rfl) (by kernel_rfl) (by kernel_rfl) (fun _ _ _ h => h) (Or.inl ⟨by kernel_rfl, ?hy68⟩) (by assumption) ?_
    case hy68 => intro w hSw; (try dsimp only at hSw); first | (go_simp; done) | (go_simp; with_reducible rfl)
    (try simp only [Act.put, List.setIfInBounds_toArray, List.set_cons_zero, List.set_cons_succ])
    refine wpAnyH_ready (rs := [7]) (by kernel_rfl) (by simp) ?_
    refine AllReadyH.cons (o := { dst := some 63, op := Go.Op.call { callee := Go.Callee.value (Go.Operand.func 25), args := #[Go.Operand.tmp 62], argTypes := #[29] }, type := 29, pos := _, after := #[{ on := 6, ground := Go.Ground.data }, { on := 5, ground := Go.Ground.chain }, { on := 5, ground := Go.Ground.guard }], guard := some (5, false) }) rfl (fun K hK => ?_) AllReadyH.nil
    go_simp
    (go_at_call 25; refine (turn_all T_12.out).mono ?_; rintro e w13_ ⟨⟨s5, n5, c5, rfl, hs⟩, g13⟩; rw [HQ4.out] at hs; rw [turnA_yes (by rw [HQ3.out]; exact HR.out), turnA_yes (by rw [HQ3.out]; exact HR.out), HTC.out, HTR.out]; have V := Lib.hid hs; have Z_13 := Lib.hid (Z_12.out.grow g13); have Y_13 := Lib.hid (Y_12.out.grow g13); have T_13 := Lib.hid (T_12.out.grow g13); have A_13 := Lib.hid (A_12.out.grow g13); have B_13 := Lib.hid (B_12.out.grow g13); have U_13 := Lib.hid (U_12.out.grow g13); have Btb_13 := Lib.hid (Btb_12.out.grow g13); have HM_13 := Lib.hid (HM_12.out.grow g13); have HG_13 := Lib.hid (HG_12.out.trans g13); clear hs)
    (try go_wp2_with fail)
    refine hK.out _ _ ?hS70 (fun hHeld => ?_)
    case hS70 => (try dsimp only); exact keep_h6 g13 (by assumption)
    clear hK K
    (try simp only [Act.put, List.setIfInBounds_toArray, List.set_cons_zero, List.set_cons_succ])
    refine wpAnyH_ready (rs := [8]) (by kernel_rfl) (by simp) ?_
    refine AllReadyH.cons (o := { dst := some 64, op := Go.Op.call { callee := Go.Callee.value (Go.Operand.func 15), args := #[Go.Operand.tmp 63], argTypes := #[29] }, type := 24, pos := _, after := #[{ on := 7, ground := Go.Ground.data }, { on := 7, ground := Go.Ground.chain }, { on := 5, ground := Go.Ground.guard }], guard := some (5, false) }) rfl (fun K hK => ?_) AllReadyH.nil
    go_simp
    (go_at_call 15; refine (back_any _ _ _ _ _ _).mono ?_; rintro e w14_ ⟨rfl, g14⟩; have Z_14 := Lib.hid (Z_13.out.grow g14); have Y_14 := Lib.hid (Y_13.out.grow g14); have T_14 := Lib.hid (T_13.out.grow g14); have A_14 := Lib.hid (A_13.out.grow g14); have B_14 := Lib.hid (B_13.out.grow g14); have U_14 := Lib.hid (U_13.out.grow g14); have V_14 := Lib.hid (V.out.grow g14); have Btb_14 := Lib.hid (Btb_13.out.grow g14); have HM_14 := Lib.hid (HM_13.out.grow g14); have HG_14 := Lib.hid (HG_13.out.trans g14))
    (try go_wp2_with fail)
    refine hK.out _ _ ?hS72 (fun hHeld => ?_)
    case hS72 => (try dsimp only); exact keep_h6 g14 (by assumption)
    clear hK K
    (try simp only [Act.put, List.setIfInBounds_toArray, List.set_cons_zero, List.set_cons_succ])
    refine wpAnyH_ready (rs := [10]) (by kernel_rfl) (by simp) ?_
    refine AllReadyH.cons (o := { dst := some 66, op := Go.Op.call { callee := Go.Callee.value (Go.Operand.func 14), args := #[Go.Operand.tmp 64, Go.Operand.tmp 65], argTypes := #[24, 24] }, type := 4, pos := _, after := #[{ on := 8, ground := Go.Ground.data }, { on := 9, ground := Go.Ground.data }, { on := 8, ground := Go.Ground.chain }, { on := 5, ground := Go.Ground.guard }], guard := some (5, false) }) rfl (fun K hK => ?_) AllReadyH.nil
    go_simp
    (go_at_call 14; refine (msame_seen V_14.out Z_14.out).mono ?_; rintro e w15_ ⟨rfl, g15⟩; have Z_15 := Lib.hid (Z_14.out.grow g15); have Y_15 := Lib.hid (Y_14.out.grow g15); have T_15 := Lib.hid (T_14.out.grow g15); have A_15 := Lib.hid (A_14.out.grow g15); have B_15 := Lib.hid (B_14.out.grow g15); have U_15 := Lib.hid (U_14.out.grow g15); have V_15 := Lib.hid (V_14.out.grow g15); have Btb_15 := Lib.hid (Btb_14.out.grow g15); have HM_15 := Lib.hid (HM_14.out.grow g15); have HG_15 := Lib.hid (HG_14.out.trans g15))
    (try go_wp2_with fail)
    refine hK.out _ _ ?hS74 (fun hHeld => ?_)
    case hS74 => (try dsimp only); exact keep_h6 g15 (by assumption)
    clear hK K
    (try simp only [Act.put, List.setIfInBounds_toArray, List.set_cons_zero, List.set_cons_succ])
    refine wpAnyH_take (i := 11) (oi := { dst := some 67, op := Go.Op.pick (Go.Operand.tmp 61) (Go.Operand.const (Go.Value.bool true)) (Go.Operand.tmp 66), type := 4, pos := _, after := #[{ on := 5, ground := Go.Ground.data }, { on := 10, ground := Go.Ground.data }, { on := 1, ground := Go.Ground.guard }], guard := some (1, true) }) (v := ?v75) rfl (by kernel_rfl) (by kernel_rfl) (by kernel_rfl) (fun _ _ _ h => h) (Or.inl ⟨by kernel_rfl, ?hy75⟩) (by assumption) ?_
    case hy75 => intro w hSw; (try dsimp only at hSw); first | (go_simp; done) | (go_simp; with_reducible rfl)
    (try simp only [Act.put, List.setIfInBounds_toArray, List.set_cons_zero, List.set_cons_succ])
    refine wpAnyH_take (i := 12) (oi := { dst := some 68, op := Go.Op.pick (Go.Operand.tmp 57) (Go.Operand.tmp 67) (Go.Operand.const (Go.Value.bool false)), type := 4, pos := _, after := #[{ on := 1, ground := Go.Ground.data }, { on := 11, ground := Go.Ground.data }], guard := none }) (v := ?v76) rfl (by kernel_rfl) (by kernel_rfl) (by kernel_rfl) (fun _ _ _ h => h) (Or.inl ⟨by kernel_rfl, ?hy76⟩) (by assumption) ?_
    case hy76 => intro w hSw; (try dsimp only at hSw); first | (go_simp; done) | (go_simp; with_reducible rfl)
    (try simp only [Act.put, List.setIfInBounds_toArray, List.set_cons_zero, List.set_cons_succ])
    refine wpAnyH_take (i := 13) (oi := { dst := some 6, op := Go.Op.assign (Go.Operand.tmp 68), type := 4, pos := _, after := #[{ on := 12, ground := Go.Ground.data }, { on := 10, ground := Go.Ground.chain }, { on := 0, ground := Go.Ground.phase }, { on := 1, ground := Go.Ground.phase }, { on := 2, ground := Go.Ground.phase }, { on := 3, ground := Go.Ground.phase }, { on := 4, ground := Go.Ground.phase }, { on := 5, ground := Go.Ground.phase }, { on := 6, ground := Go.Ground.phase }, { on := 7, ground := Go.Ground.phase }, { on := 8, ground := Go.Ground.phase }, { on := 9, ground := Go.Ground.phase }, { on := 10, ground := Go.Ground.phase }, { on := 11, ground := Go.Ground.phase }, { on := 12, ground := Go.Ground.phase }], guard := none }) (v := ?v77) rfl (by kernel_rfl) (by kernel_rfl) (by kernel_rfl) (fun _ _ _ h => h) (Or.inl ⟨by kernel_rfl, ?hy77⟩) (by assumption) ?_
    case hy77 => intro w hSw; (try dsimp only at hSw); first | (go_simp; done) | (go_simp; with_reducible rfl)
    (try simp only [Act.put, List.setIfInBounds_toArray, List.set_cons_zero, List.set_cons_succ])
    refine wpAnyH_done (by kernel_rfl) ?_ _
    clear hHeld
    have m0_15 := HM_15.out.c0
    have m1_15 := HM_15.out.c1
    have m2_15 := HM_15.out.c2
    have hl_15 := HM_15.out.lt
    have b0tb_15 := Btb_15.out.c0
    have b1tb_15 := Btb_15.out.c1
    have b2tb_15 := Btb_15.out.c2
    have bltb_15 := Btb_15.out.lt
    go_wp2
    go_ret
    exact ⟨rfl, HG_15.out⟩

set_option maxRecDepth 100000 in
set_option maxHeartbeats 4000000 in
theorem walk (R0 C0 : Int) (a0 : Option Addr) (len0 cap0 : Nat) (zs0 : List Int) (a1 : Option Addr) (len1 cap1 : Nat) (zs1 : List Int) (a2 : Int) (w : World) (w0 : CameM w R0 C0 a0 len0 cap0 zs0) (w1 : CameK .i64 w a1 len1 cap1 zs1) (w2 : (Lit.int .i64 a2).wf = true) :
    Calls Try.prog 5 #[.agg #[.int .i64 R0, .int .i64 C0, .slice a0 len0 cap0], .slice a1 len1 cap1, .int .i64 a2] w fun e w' => e = .returned (.bool true) ∧ Below w.heap.size w w' := by
  obtain ⟨wR0, wC0, hl0, hlc0, hcm0, hrd0, hnn0, hf0⟩ := w0

  obtain ⟨hl1, hlc1, hr1, hrd1, hnn1, hwf1⟩ := w1
  have hf1 : Fit zs1 := fun j hj => in64_wf (hwf1 j hj)
  have hcm1 : cap1 ≤ 9223372036854775807 := by omega
  clear hwf1

  have HG0 : Hid (Grew w (w.alloc (.cells #[.int .i64 R0, .int .i64 C0, .slice a0 len0 cap0] 24))) := Lib.hid ((Grew.refl w).alloc _)
  have HM0 := Lib.hid (Three.new w 24 (.int .i64 R0) (.int .i64 C0) (.slice a0 len0 cap0))

  by_cases hA : 600 < len0
  · skip
    go_enter Try.func5, Try.ntmps5
    go_wp2_with fail
    refine (few_any R0 C0 a0 len0 cap0 _).mono ?_
    rintro e w1_ ⟨rfl, g1⟩
    have HG_1 := Lib.hid (HG0.out.trans g1)
    have HM_1 := Lib.hid (HM0.out.grow g1)
    have m0_1 := HM_1.out.c0
    have m1_1 := HM_1.out.c1
    have m2_1 := HM_1.out.c2
    have hl_1 := HM_1.out.lt
    clear g1
    rw [decide_eq_false (by omega)]
    go_wp2_with fail
    refine (malive_any _).mono ?_
    rintro e w2_ ⟨rfl, g2⟩
    have HG_2 := Lib.hid (HG_1.out.trans g2)
    have HM_2 := Lib.hid (HM_1.out.grow g2)
    clear m0_1 m1_1 m2_1 hl_1
    have m0_2 := HM_2.out.c0
    have m1_2 := HM_2.out.c1
    have m2_2 := HM_2.out.c2
    have hl_2 := HM_2.out.lt
    clear g2
    go_wp2
    go_ret
    exact ⟨rfl, HG_2.out⟩

  by_cases hA1 : 600 < len1
  · skip
    go_enter Try.func5, Try.ntmps5
    go_wp2_with fail
    refine (few_any R0 C0 a0 len0 cap0 _).mono ?_
    rintro e w1_ ⟨rfl, g1⟩
    have HG_1 := Lib.hid (HG0.out.trans g1)
    have HM_1 := Lib.hid (HM0.out.grow g1)
    have m0_1 := HM_1.out.c0
    have m1_1 := HM_1.out.c1
    have m2_1 := HM_1.out.c2
    have hl_1 := HM_1.out.lt
    clear g1
    rw [decide_eq_true (by omega)]
    go_wp2_with fail
    refine (malive_any _).mono ?_
    rintro e w2_ ⟨rfl, g2⟩
    have HG_2 := Lib.hid (HG_1.out.trans g2)
    have HM_2 := Lib.hid (HM_1.out.grow g2)
    clear m0_1 m1_1 m2_1 hl_1
    have m0_2 := HM_2.out.c0
    have m1_2 := HM_2.out.c1
    have m2_2 := HM_2.out.c2
    have hl_2 := HM_2.out.lt
    clear g2
    go_wp2
    go_ret
    exact ⟨rfl, HG_2.out⟩

  · skip

    have HZ0 : Hid (Seen w a0 len0 cap0 zs0) := Lib.hid ⟨hl0, hlc0, hcm0, by omega, hrd0, hf0⟩
    clear hl0 hrd0 hf0

    have HZ1 : Hid (Seen w a1 len1 cap1 zs1) := Lib.hid ⟨hl1, hlc1, hcm1, by omega, hrd1, hf1⟩
    clear hl1 hrd1 hf1

    cases hR : rightB R0 C0 len0 with
    | false => exact way_false R0 C0 a0 len0 cap0 zs0 a1 len1 cap1 zs1 a2 w hA hA1 HZ0.out HZ1.out hR
    | true => exact way_true R0 C0 a0 len0 cap0 zs0 a1 len1 cap1 zs1 a2 w hA hA1 HZ0.out HZ1.out hR

set_option maxRecDepth 100000 in
theorem lifted (os : Os) (started : os.Started) (H : Type) (enc : TypeId × Value → H) :
    ReturnsInHanded {} Try.checked os 5 .any (Rows.matTurnsSpec.pre6 enc Try.prog Try.f5 Rows.matTurnsRow.domain false) (Rows.matTurnsSpec.post enc Try.prog Try.f5 false true false false) := by
  refine returnsInHanded_of_change_sized (C := Try.checked) own started (by kernel_rfl) Try.func5
    (ChangeSpec.witness6 (enc := enc) (C := Try.checked) false ⟨#[], #[.agg #[.int .i64 0, .int .i64 0, .slice none 0 0], .slice none 0 0, .int .i64 0], []⟩ 8 (by kernel_rfl) (by kernel_rfl) (by kernel_rfl) (by kernel_rfl)) ?_
  intro W base args ds gs before hval0 hW hcnd hsz0 _
  have hsz : (DataW.weightsEach Try.prog (Try.f5.params.toList ++ Rows.matTurnsSpec.plain.varTypes Try.prog) (ds ++ gs)).all (· ≤ reachBytes) = true := hsz0
  have hval : ∀ (j : Nat) t v, Try.f5.params[j]? = some t → args[j]? = some v → Value.okWide Try.prog W .any base t v := hval0
  have hW' := hW
  obtain ⟨p, q, hA0, hV, rfl, hfz, hnd⟩ := hW
  have hA : DataW.TrodAll enc Try.prog W 0 (fun _ => true) true Try.f5.params.toList args.toList ds p := hA0
  rw [Try.params5] at hA hval hsz
  obtain ⟨v0, vs0, d0, ds0, p0, q0, hargs, rfl, rfl, h0, r0⟩ := trodAll_cons hA
  obtain ⟨v1, vs1, d1, ds1, p1, q1, rfl, rfl, rfl, h1, r1⟩ := trodAll_cons r0
  obtain ⟨v2, vs2, d2, ds2, p2, q2, rfl, rfl, rfl, h2, r2⟩ := trodAll_cons r1
  obtain ⟨rfl, rfl, rfl⟩ := trodAll_nil r2
  obtain rfl : args = #[v0, v1, v2] := by cases args; simp_all
  obtain ⟨rfl, rfl⟩ := trodVars_none hV
  have k0 := h0
  have lt0 : ∀ x ∈ p0, x.block < W.heap.size := by obtain ⟨m, hm⟩ := k0; exact DataW.trod_lt m _ _ _ hm
  obtain ⟨c00, c10, c20, y00, y10, y20, m0, rfl, rfl, rfl, hy00, hy10, hy20⟩ := Joins.open_agg3 Try.underlying24 (by kernel_rfl) (by kernel_rfl) (hval 0 24 v0 rfl rfl) h0
  obtain ⟨R0, e00, rfl, wR0⟩ := DataW.trod_int Try.underlying3 hy00
  obtain ⟨C0, e10, rfl, wC0⟩ := DataW.trod_int Try.underlying3 hy10
  simp at e00 e10
  subst e00 e10
  obtain ⟨a0, len0, cap0, zs0, rfl, w0⟩ : ∃ a l c us, c20 = .slice a l c ∧ CameM W R0 C0 a l c us := by
    rcases open_ints Try.underlying22 Try.underlying2 (by kernel_rfl) hy20 with ⟨hcs, _⟩ | ⟨x, l, c, zs, hcs, _, hl, hm, hz, hx, hcell, hwz⟩
    · simp at hcs
      subst hcs
      exact ⟨none, 0, 0, [], rfl, cameM_none wR0 wC0⟩
    · simp at hcs
      subst hcs
      simp only [if_true] at hz
      exact ⟨some x, l, c, _, rfl, cameM_some wR0 wC0 hl hm hz hcell hwz⟩
  have k1 := h1
  have lt1 : ∀ x ∈ p1, x.block < W.heap.size := by obtain ⟨m, hm⟩ := k1; exact DataW.trod_lt m _ _ _ hm
  obtain ⟨a1, len1, cap1, rfl⟩ := okWide_slice Try.underlying22 (hval 1 22 v1 rfl rfl)
  obtain ⟨zs1, w1⟩ : ∃ us, CameK .i64 W a1 len1 cap1 us := by
    obtain ⟨fuel, hf⟩ := h1
    rcases open_ints Try.underlying22 Try.underlying2 (by kernel_rfl) hf with ⟨hcs, _⟩ | ⟨x, l, c, zs, hcs, _, hl, hm, hz, hx, hcell, hwz⟩
    · simp [Value.cells] at hcs
      obtain ⟨rfl, rfl, rfl⟩ := hcs
      exact ⟨[], cameK_none _ W⟩
    · simp [Value.cells] at hcs
      obtain ⟨rfl, rfl, rfl⟩ := hcs
      simp only [if_true] at hz
      have hd := congrArg Prod.fst hx
      have hreach : cap1 * 8 ≤ 140737488351232 := by
        have hs := sized_slice hsz (j := 1) (t := 22) (e := 2) rfl (congrArg some hd) Try.underlying22
        rw [show Try.prog.bytesOf 2 = 8 from by kernel_rfl] at hs
        simp only [lits, List.length_map, List.length_take, List.length_drop, reachBytes] at hs
        omega
      exact ⟨_, cameK_some hl hreach hz hcell hwz⟩
  obtain ⟨a2, rfl, rfl, rfl, w2⟩ := open_int Try.underlying3 (hval 2 3 v2 rfl rfl) h2
  clear hA0 hval0 hsz hsz0
  refine (walk R0 C0 a0 len0 cap0 zs0 a1 len1 cap1 zs1 a2 W w0 w1 w2).mono fun e W' ⟨he, bel⟩ => ?_
  subst he
  exact ⟨_, rfl, _, _, _, [], _, [], hW', trodAll_mk1 (shut_bool Try.underlying4 _), (trodAll_cons_mk (Below.trod laidOut (by kernel_rfl) (of_decide_eq_true (by kernel_rfl)) k0 bel lt0) (trodAll_cons_mk (Below.trod laidOut (by kernel_rfl) (of_decide_eq_true (by kernel_rfl)) k1 bel lt1) (trodAll_cons_mk (shut_int Try.underlying3 w2) trodAll_mk0))), rfl, bel.frame _, fun h => by cases h⟩

theorem over : Rows.matTurnsRow.holds Try.pinned (OpenSpec.ofChange Rows.matTurnsSpec) :=
  OpenClaim.holds_of_wide 5 Try.f5 rfl rfl rfl rfl rfl rfl rfl ⟨rfl, rfl, rfl, rfl, rfl⟩ rfl rfl rfl rfl rfl (by kernel_rfl) Try.func5 (by kernel_rfl)
    (of_decide_eq_true (by kernel_rfl)) (by unfold Func.isWrapper; first | (rw [if_pos (by decide +kernel)]; kernel_rfl) | (rw [if_neg (by decide +kernel)]; exact ⟨rfl, rfl⟩))
    (fun os started H enc _ => lifted os started H enc)

theorem proved : Rows.MatTurnsSaid := over
end Go.Proofs.Ytklledigcabllaa.matTurns
