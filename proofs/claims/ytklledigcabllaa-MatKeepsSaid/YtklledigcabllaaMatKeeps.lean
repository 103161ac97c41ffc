/-
  For all matrices and columns, sakialaw07.MatKeeps(m, x) returns true. No condition.
-/
import Derived.Test.YtklledigcabllaaRows
import Derived.Test.YtklledigcabllaaUz
import Derived.Lib.SmallJoins
import Derived.Deep.RegionHeld
import Derived.WalkKit
import Derived.ProofKit
import Derived.OpenShut
import Derived.ShutString
import Derived.ChangeOld
import Derived.Below
import Derived.SizedLaws
namespace Go.Proofs.Ytklledigcabllaa.matKeeps
open Go.ChangeShapes Go.WideShapes Go.ChangeAt Go.RowKit
open Go.Proofs.Ytklledigcabllaa
set_option linter.unusedVariables false

theorem own : ownKnob Try.prog.godebug = none := by kernel_rfl
theorem laidOut : laidOutB Try.prog = true := by kernel_rfl

set_option linter.unusedSimpArgs false

set_option maxRecDepth 100000 in
set_option maxHeartbeats 4000000 in
theorem way_false (R0 C0 : Int) (a0 : Option Addr) (len0 cap0 : Nat) (zs0 : List Int) (a1 : Option Addr) (len1 cap1 : Nat) (zs1 : List Int) (w : World) (hA : ¬ 600 < len0) (hA1 : ¬ 600 < len1) (h0 : Seen w a0 len0 cap0 zs0) (hnn0 : a0 = none → cap0 = 0) (h1 : Seen w a1 len1 cap1 zs1) (hnn1 : a1 = none → cap1 = 0) (hR : rightB R0 C0 len0 = false) :
    Calls Try.prog 7 #[.agg #[.int .i64 R0, .int .i64 C0, .slice a0 len0 cap0], .slice a1 len1 cap1] w fun e w' => e = .returned (.bool true) ∧ Below w.heap.size w w' := by

    have HG0 : Hid (Grew w (w.alloc (.cells #[.int .i64 R0, .int .i64 C0, .slice a0 len0 cap0] 24))) := Lib.hid ((Grew.refl w).alloc _)
    have HM0 := Lib.hid (Three.new w 24 (.int .i64 R0) (.int .i64 C0) (.slice a0 len0 cap0))

    have HZ0 := Lib.hid h0
    have HZ1 := Lib.hid h1
    have HR := Lib.hid hR
    clear h0 h1 hR
    go_enter Try.func7, Try.ntmps7
    have Z0 := Lib.hid (HZ0.out.grow HG0.out)
    have X0 := Lib.hid (HZ1.out.grow HG0.out)
    have HF0 := Lib.hid HZ0.out.fit
    have HF1 := Lib.hid HZ1.out.fit
    go_wp2_with fail
    refine (few_any R0 C0 a0 len0 cap0 _).mono ?_
    rintro e w1_ ⟨rfl, g1⟩
    have Z_1 := Lib.hid (Z0.out.grow g1)
    have X_1 := Lib.hid (X0.out.grow g1)
    have HG_1 := Lib.hid (HG0.out.trans g1)
    have HM_1 := Lib.hid (HM0.out.grow g1)
    have m0_1 := HM_1.out.c0
    have m1_1 := HM_1.out.c1
    have m2_1 := HM_1.out.c2
    have hl_1 := HM_1.out.lt
    clear g1
    rw [decide_eq_true (by omega)]
    have hsz1 := HM_1.out.lt
    go_wp2_with fail
    refine (rclone_all Z_1.out hnn0).mono ?_
    rintro e w2_ ⟨⟨s1, c1, rfl, hs⟩, g2⟩
    have HRB := Lib.hid (buf_block hs)
    have hsz2 := g2.size
    have O := Lib.hid hs
    have Z_2 := Lib.hid (Z_1.out.grow g2)
    have X_2 := Lib.hid (X_1.out.grow g2)
    have HG_2 := Lib.hid (HG_1.out.trans g2)
    have HM_2 := Lib.hid (HM_1.out.grow g2)
    clear m0_1 m1_1 m2_1 hl_1
    have m0_2 := HM_2.out.c0
    have m1_2 := HM_2.out.c1
    have m2_2 := HM_2.out.c2
    have hl_2 := HM_2.out.lt
    clear hs
    clear g2
    generalize w1_.heap.size = B1 at *
    go_wp2_with fail
    refine (rclone_all X_2.out hnn1).mono ?_
    rintro e w3_ ⟨⟨s2, c2, rfl, hs⟩, g3⟩
    have hsz3 := g3.size
    have D := Lib.hid hs
    have Z_3 := Lib.hid (Z_2.out.grow g3)
    have X_3 := Lib.hid (X_2.out.grow g3)
    have O_3 := Lib.hid (O.out.grow g3)
    have HG_3 := Lib.hid (HG_2.out.trans g3)
    have HM_3 := Lib.hid (HM_2.out.grow g3)
    clear m0_2 m1_2 m2_2 hl_2
    have m0_3 := HM_3.out.c0
    have m1_3 := HM_3.out.c1
    have m2_3 := HM_3.out.c2
    have hl_3 := HM_3.out.lt
    clear hs
    clear g3
    generalize w2_.heap.size = B2 at *
    go_wp2_with fail
    refine (of_no _ HR.out).mono ?_
    rintro e w4_ ⟨rfl, g4⟩
    have hsz4 := g4.size
    have Z_4 := Lib.hid (Z_3.out.grow g4)
    have X_4 := Lib.hid (X_3.out.grow g4)
    have O_4 := Lib.hid (O_3.out.grow g4)
    have D_4 := Lib.hid (D.out.grow g4)
    have HG_4 := Lib.hid (HG_3.out.trans g4)
    have HM_4 := Lib.hid (HM_3.out.grow g4)
    clear m0_3 m1_3 m2_3 hl_3
    have m0_4 := HM_4.out.c0
    have m1_4 := HM_4.out.c1
    have m2_4 := HM_4.out.c2
    have hl_4 := HM_4.out.lt
    clear g4
    go_wp2_with fail
    have gA : Grew w4_ (w4_.alloc (.cells #[.int .i64 0, .int .i64 0, .slice none 0 0] 29)) := (Grew.refl _).alloc _
    have Hyb := Lib.hid (Three.new w4_ 29 (.int .i64 0) (.int .i64 0) (.slice none 0 0))
    have Z_4a := Lib.hid (Z_4.out.grow gA)
    have X_4a := Lib.hid (X_4.out.grow gA)
    have O_4a := Lib.hid (O_4.out.grow gA)
    have D_4a := Lib.hid (D_4.out.grow gA)
    have HG_4a := Lib.hid (HG_4.out.trans gA)
    have HM_4a := Lib.hid (HM_4.out.grow gA)
    clear m0_4 m1_4 m2_4 hl_4
    have hsa := gA.size
    clear gA
    generalize w4_.alloc (.cells #[.int .i64 0, .int .i64 0, .slice none 0 0] 29) = w4a_ at *
    generalize w4_.heap.size = yb at *
    refine (mul_all (R := R0) (C := C0) (Buf.seen O_4a.out (by omega) HF0.out) (Buf.seen D_4a.out (by omega) HF1.out)).mono ?_
    rintro e w5_ ⟨⟨s3, n3, c3, rfl, hs⟩, g5⟩
    clear hs
    have hsz5 := g5.size
    have Z_5 := Lib.hid (Z_4a.out.grow g5)
    have X_5 := Lib.hid (X_4a.out.grow g5)
    have O_5 := Lib.hid (O_4a.out.grow g5)
    have D_5 := Lib.hid (D_4a.out.grow g5)
    have HG_5 := Lib.hid (HG_4a.out.trans g5)
    have HM_5 := Lib.hid (HM_4a.out.grow g5)
    have m0_5 := HM_5.out.c0
    have m1_5 := HM_5.out.c1
    have m2_5 := HM_5.out.c2
    have hl_5 := HM_5.out.lt
    have yb_5 := Lib.hid (Hyb.out.grow g5)
    have b0yb_5 := yb_5.out.c0
    have b1yb_5 := yb_5.out.c1
    have b2yb_5 := yb_5.out.c2
    have blyb_5 := yb_5.out.lt
    clear g5
    go_wp2_with fail
    refine (turn_no R0 C0 s1 len0 c1 _ HR.out).mono ?_
    rintro e w6_ ⟨rfl, g6⟩
    have hsz6 := g6.size
    have Z_6 := Lib.hid (Z_5.out.grow g6)
    have X_6 := Lib.hid (X_5.out.grow g6)
    have O_6 := Lib.hid (O_5.out.grow g6)
    have D_6 := Lib.hid (D_5.out.grow g6)
    have HG_6 := Lib.hid (HG_5.out.trans g6)
    have HM_6 := Lib.hid (HM_5.out.grow g6)
    clear m0_5 m1_5 m2_5 hl_5
    have m0_6 := HM_6.out.c0
    have m1_6 := HM_6.out.c1
    have m2_6 := HM_6.out.c2
    have hl_6 := HM_6.out.lt
    have yb_6 := Lib.hid (yb_5.out.grow g6)
    clear b0yb_5 b1yb_5 b2yb_5 blyb_5
    have b0yb_6 := yb_6.out.c0
    have b1yb_6 := yb_6.out.c1
    have b2yb_6 := yb_6.out.c2
    have blyb_6 := yb_6.out.lt
    clear g6
    go_wp2_with fail
    have gA : Grew w6_ (w6_.alloc (.cells #[.int .i64 0, .int .i64 0, .slice none 0 0] 29)) := (Grew.refl _).alloc _
    have Htb := Lib.hid (Three.new w6_ 29 (.int .i64 0) (.int .i64 0) (.slice none 0 0))
    have Z_6a := Lib.hid (Z_6.out.grow gA)
    have X_6a := Lib.hid (X_6.out.grow gA)
    have O_6a := Lib.hid (O_6.out.grow gA)
    have D_6a := Lib.hid (D_6.out.grow gA)
    have Byb_6a := Lib.hid (yb_6.out.grow gA)
    clear b0yb_6 b1yb_6 b2yb_6 blyb_6
    have HG_6a := Lib.hid (HG_6.out.trans gA)
    have HM_6a := Lib.hid (HM_6.out.grow gA)
    clear m0_6 m1_6 m2_6 hl_6
    have hsb := gA.size
    clear gA
    generalize w6_.alloc (.cells #[.int .i64 0, .int .i64 0, .slice none 0 0] 29) = w6a_ at *
    generalize w6_.heap.size = tb at *
    refine (same_seen (Buf.seen O_6a.out (by omega) HF0.out) Z_6a.out).mono ?_
    rintro e w7_ ⟨rfl, g7⟩
    have Z_7 := Lib.hid (Z_6a.out.grow g7)
    have X_7 := Lib.hid (X_6a.out.grow g7)
    have O_7 := Lib.hid (O_6a.out.grow g7)
    have D_7 := Lib.hid (D_6a.out.grow g7)
    have HG_7 := Lib.hid (HG_6a.out.trans g7)
    have HM_7 := Lib.hid (HM_6a.out.grow g7)
    have m0_7 := HM_7.out.c0
    have m1_7 := HM_7.out.c1
    have m2_7 := HM_7.out.c2
    have hl_7 := HM_7.out.lt
    have yb_7 := Lib.hid (Byb_6a.out.grow g7)
    have b0yb_7 := yb_7.out.c0
    have b1yb_7 := yb_7.out.c1
    have b2yb_7 := yb_7.out.c2
    have blyb_7 := yb_7.out.lt
    have tb_7 := Lib.hid (Htb.out.grow g7)
    have b0tb_7 := tb_7.out.c0
    have b1tb_7 := tb_7.out.c1
    have b2tb_7 := tb_7.out.c2
    have bltb_7 := tb_7.out.lt
    clear g7
    go_wp2_with fail
    refine (same_seen (Buf.seen D_7.out (by omega) HF1.out) X_7.out).mono ?_
    rintro e w8_ ⟨rfl, g8⟩
    have Z_8 := Lib.hid (Z_7.out.grow g8)
    have X_8 := Lib.hid (X_7.out.grow g8)
    have O_8 := Lib.hid (O_7.out.grow g8)
    have D_8 := Lib.hid (D_7.out.grow g8)
    have HG_8 := Lib.hid (HG_7.out.trans g8)
    have HM_8 := Lib.hid (HM_7.out.grow g8)
    clear m0_7 m1_7 m2_7 hl_7
    have m0_8 := HM_8.out.c0
    have m1_8 := HM_8.out.c1
    have m2_8 := HM_8.out.c2
    have hl_8 := HM_8.out.lt
    have yb_8 := Lib.hid (yb_7.out.grow g8)
    clear b0yb_7 b1yb_7 b2yb_7 blyb_7
    have b0yb_8 := yb_8.out.c0
    have b1yb_8 := yb_8.out.c1
    have b2yb_8 := yb_8.out.c2
    have blyb_8 := yb_8.out.lt
    have tb_8 := Lib.hid (tb_7.out.grow g8)
    clear b0tb_7 b1tb_7 b2tb_7 bltb_7
    have b0tb_8 := tb_8.out.c0
    have b1tb_8 := tb_8.out.c1
    have b2tb_8 := tb_8.out.c2
    have bltb_8 := tb_8.out.lt
    clear g8
    go_wp2_with fail
    refine (rright_any R0 C0 a0 len0 cap0 _ (by omega)).mono ?_
    rintro e w9_ ⟨rfl, g9⟩
    have Z_9 := Lib.hid (Z_8.out.grow g9)
    have X_9 := Lib.hid (X_8.out.grow g9)
    have O_9 := Lib.hid (O_8.out.grow g9)
    have D_9 := Lib.hid (D_8.out.grow g9)
    have HG_9 := Lib.hid (HG_8.out.trans g9)
    have HM_9 := Lib.hid (HM_8.out.grow g9)
    clear m0_8 m1_8 m2_8 hl_8
    have m0_9 := HM_9.out.c0
    have m1_9 := HM_9.out.c1
    have m2_9 := HM_9.out.c2
    have hl_9 := HM_9.out.lt
    have yb_9 := Lib.hid (yb_8.out.grow g9)
    clear b0yb_8 b1yb_8 b2yb_8 blyb_8
    have b0yb_9 := yb_9.out.c0
    have b1yb_9 := yb_9.out.c1
    have b2yb_9 := yb_9.out.c2
    have blyb_9 := yb_9.out.lt
    have tb_9 := Lib.hid (tb_8.out.grow g9)
    clear b0tb_8 b1tb_8 b2tb_8 bltb_8
    have b0tb_9 := tb_9.out.c0
    have b1tb_9 := tb_9.out.c1
    have b2tb_9 := tb_9.out.c2
    have bltb_9 := tb_9.out.lt
    clear g9
    rw [HR.out]
    go_wp2_with fail
    have hyb2 : B2 ≤ yb := by omega
    have htb2 : B2 ≤ tb := by omega
    have hV : B2 ≤ w9_.heap.size := by have := tb_9.out.lt; omega
    clear m0_9 m1_9 m2_9 hl_9
    clear b0yb_9 b1yb_9 b2yb_9 blyb_9
    clear b0tb_9 b1tb_9 b2tb_9 bltb_9
    go_loopw [68] (fun i wr => ∃ (k : Nat) (us : List Int), k ≤ len0 ∧ i = .int .i64 (k : Int) ∧ Hid (Buf B1 wr s1 len0 c1 us) ∧ Hid (w9_.grownBy wr (Value.slice s1 len0 c1).ownBlock)) (fun i _ => len0 - (intOf i).toNat)
    case atStart => exact ⟨0, zs0, Nat.zero_le _, by simp, Lib.hid O_9.out, Lib.hid (grown_refl _ _)⟩
    case round =>
      obtain ⟨k, us, hk, rfl, HB, HGr⟩ := hrel
      by_cases hlt : k < len0
      · obtain ⟨g, ex, _, hgl, hcell, hfro⟩ := HB.out.at hlt
        subst ex
        generalize el us k = u at *
        go_wp2
        go_roundw
        case rel => exact ⟨k + 1, _, by omega, by go_num, Lib.hid (HB.out.set k _), Lib.hid (grownBy_trans HGr.out (grownBy_setCell1 wr ⟨g, k, none⟩ _))⟩
        case measure => simp [intOf]; omega
      · obtain rfl : len0 = k := by omega
        have hbe := below_of_grown HGr.out (fun g hg => (HRB.out g hg).1) (show B1 ≤ w9_.heap.size by omega)
        have hgw : Grew w wr := Grew.trans_below HG_9.out hbe (by omega)
        have HGW := Lib.hid hgw
        have ZW := Lib.hid (HZ0.out.grow hgw)
        have HMW := Lib.hid (HM_9.out.below hbe hsz1)
        have BYW := Lib.hid (yb_9.out.grown HGr.out (fun e => by have := HRB.out _ e.symm; omega))
        have BTW := Lib.hid (tb_9.out.grown HGr.out (fun e => by have := HRB.out _ e.symm; omega))
        have hz0 := HZ0.out.1
        clear hbe hgw
        have HTN : Hid (turnR R0 C0 zs0 = []) := Lib.hid (turnR_no (by rw [hz0]; exact HR.out))
        have m0 := HMW.out.c0
        have m1 := HMW.out.c1
        have m2 := HMW.out.c2
        go_wp2_with fail
        clear m0 m1 m2
        have gD : Grew wr wr.drew := Grew.drew' (Grew.refl _)
        have Z_9d := Lib.hid (ZW.out.grow gD)
        have Byb_9d := Lib.hid (BYW.out.grow gD)
        have Btb_9d := Lib.hid (BTW.out.grow gD)
        have HM_9d := Lib.hid (HMW.out.grow gD)
        have HG_9d := Lib.hid (HGW.out.trans gD)
        refine wp_region_held_drew (S := (fun W' => Grew wr W' ∧ W'.cell? ⟨yb, 0, none⟩ = some (.int .i64 0) ∧ W'.cell? ⟨yb, 1, none⟩ = some (.int .i64 0) ∧ W'.cell? ⟨yb, 2, none⟩ = some (.slice none 0 0) ∧ W'.cell? ⟨tb, 0, none⟩ = some (.int .i64 0) ∧ W'.cell? ⟨tb, 1, none⟩ = some (.int .i64 0) ∧ W'.cell? ⟨tb, 2, none⟩ = some (.slice none 0 0) ∧ W'.cell? ⟨w.heap.size, 0, none⟩ = some (.int .i64 R0) ∧ W'.cell? ⟨w.heap.size, 1, none⟩ = some (.int .i64 C0) ∧ W'.cell? ⟨w.heap.size, 2, none⟩ = some (.slice a0 len0 cap0))) (by kernel_rfl) ⟨Grew.drew' (Grew.refl _), BYW.out.c0, BYW.out.c1, BYW.out.c2, BTW.out.c0, BTW.out.c1, BTW.out.c2, HMW.out.c0, HMW.out.c1, HMW.out.c2⟩ (fun hHeld => ?_)
        refine wpAnyH_ready (rs := [0]) (by kernel_rfl) (by simp) ?_
        refine AllReadyH.cons (o := { dst := some 78, op := Go.Op.call { callee := Go.Callee.value (Go.Operand.func 9), args := #[], argTypes := #[] }, type := 4, pos := _, after := #[], guard := none }) rfl (fun K hK => ?_) AllReadyH.nil
        go_simp
        (go_at_call 9; refine (malive_any _).mono ?_; rintro e w10_ ⟨rfl, g10⟩; have Z_10 := Lib.hid (Z_9d.out.grow g10); have Byb_10 := Lib.hid (Byb_9d.out.grow g10); have Btb_10 := Lib.hid (Btb_9d.out.grow g10); have HM_10 := Lib.hid (HM_9d.out.grow g10); have HG_10 := Lib.hid (HG_9d.out.trans g10))
        (try go_wp2_with fail)
        refine hK.out _ _ ?hS2 (fun hHeld => ?_)
        case hS2 => (try dsimp only); exact keep_h9 g10 (by assumption)
        clear hK K
        (try simp only [Act.put, List.setIfInBounds_toArray, List.set_cons_zero, List.set_cons_succ])
        refine wpAnyH_take (i := 1) (oi := { dst := some 79, op := Go.Op.move (Go.Operand.tmp 78), type := 4, pos := _, after := #[{ on := 0, ground := Go.Ground.data }, { on := 0, ground := Go.Ground.chain }], guard := none }) (v := ?v3) rfl (by kernel_rfl) (by kernel_rfl) (by kernel_rfl) (fun _ _ _ h => h) (Or.inl ⟨by kernel_rfl, ?hy3⟩) (by assumption) ?_
        case hy3 => intro w hSw; (try dsimp only at hSw); first | (go_simp; done) | (go_simp; with_reducible rfl)
        (try simp only [Act.put, List.setIfInBounds_toArray, List.set_cons_zero, List.set_cons_succ])
        refine wpAnyH_take (i := 2) (oi := { dst := some 80, op := Go.Op.move (Go.Operand.tmp 8), type := 4, pos := _, after := #[{ on := 1, ground := Go.Ground.guard }], guard := some (1, true) }) (v := ?v4) rfl (by kernel_rfl) (by kernel_rfl) (by kernel_rfl) (fun _ _ _ h => h) (Or.inl ⟨by kernel_rfl, ?hy4⟩) (by assumption) ?_
        case hy4 => intro w hSw; (try dsimp only at hSw); first | (go_simp; done) | (go_simp; with_reducible rfl)
        (try simp only [Act.put, List.setIfInBounds_toArray, List.set_cons_zero, List.set_cons_succ])
        refine wpAnyH_take (i := 3) (oi := { dst := some 81, op := Go.Op.unOp Go.UnOp.not 4 (Go.Operand.tmp 80), type := 4, pos := _, after := #[{ on := 2, ground := Go.Ground.data }, { on := 1, ground := Go.Ground.guard }], guard := some (1, true) }) (v := ?v5) rfl (by kernel_rfl) (by kernel_rfl) (by kernel_rfl) (fun _ _ _ h => h) (Or.inl ⟨by kernel_rfl, ?hy5⟩) (by assumption) ?_
        case hy5 => intro w hSw; (try dsimp only at hSw); first | (go_simp; done) | (go_simp; with_reducible rfl)
        (try simp only [Act.put, List.setIfInBounds_toArray, List.set_cons_zero, List.set_cons_succ])
        refine wpAnyH_take (i := 4) (oi := { dst := some 82, op := Go.Op.move (Go.Operand.tmp 81), type := 4, pos := _, after := #[{ on := 3, ground := Go.Ground.data }, { on := 1, ground := Go.Ground.chain }, { on := 1, ground := Go.Ground.guard }], guard := some (1, true) }) (v := ?v6) rfl (by kernel_rfl) (by kernel_rfl) (by kernel_rfl) (fun _ _ _ h => h) (Or.inl ⟨by kernel_rfl, ?hy6⟩) (by assumption) ?_
        case hy6 => intro w hSw; (try dsimp only at hSw); first | (go_simp; done) | (go_simp; with_reducible rfl)
        (try simp only [Act.put, List.setIfInBounds_toArray, List.set_cons_zero, List.set_cons_succ])
        refine wpAnyH_take (i := 5) (oi := { dst := some 83, op := Go.Op.fieldAddr 29 (Go.Operand.tmp 7) 2, type := 0, pos := _, after := #[{ on := 4, ground := Go.Ground.guard }], guard := some (4, false) }) (v := undef) rfl (by kernel_rfl) (by kernel_rfl) (by kernel_rfl) (fun _ _ _ h => h) (Or.inr ⟨by kernel_rfl, rfl⟩) (by assumption) ?_
        (try simp only [Act.put, List.setIfInBounds_toArray, List.set_cons_zero, List.set_cons_succ])
        refine wpAnyH_take (i := 6) (oi := { dst := some 84, op := Go.Op.load 27 (Go.Operand.tmp 83), type := 27, pos := _, after := #[{ on := 5, ground := Go.Ground.data }, { on := 4, ground := Go.Ground.guard }], guard := some (4, false) }) (v := undef) rfl (by kernel_rfl) (by kernel_rfl) (by kernel_rfl) (fun _ _ _ h => h) (Or.inr ⟨by kernel_rfl, rfl⟩) (by assumption) ?_
        (try simp only [Act.put, List.setIfInBounds_toArray, List.set_cons_zero, List.set_cons_succ])
        refine wpAnyH_take (i := 7) (oi := { dst := some 85, op := Go.Op.fieldAddr 24 (Go.Operand.tmp 2) 2, type := 0, pos := _, after := #[{ on := 4, ground := Go.Ground.guard }], guard := some (4, false) }) (v := undef) rfl (by kernel_rfl) (by kernel_rfl) (by kernel_rfl) (fun _ _ _ h => h) (Or.inr ⟨by kernel_rfl, rfl⟩) (by assumption) ?_
        (try simp only [Act.put, List.setIfInBounds_toArray, List.set_cons_zero, List.set_cons_succ])
        refine wpAnyH_take (i := 8) (oi := { dst := some 86, op := Go.Op.load 22 (Go.Operand.tmp 85), type := 22, pos := _, after := #[{ on := 7, ground := Go.Ground.data }, { on := 4, ground := Go.Ground.guard }], guard := some (4, false) }) (v := undef) rfl (by kernel_rfl) (by kernel_rfl) (by kernel_rfl) (fun _ _ _ h => h) (Or.inr ⟨by kernel_rfl, rfl⟩) (by assumption) ?_
        (try simp only [Act.put, List.setIfInBounds_toArray, List.set_cons_zero, List.set_cons_succ])
        refine wpAnyH_take (i := 9) (oi := { dst := some 87, op := Go.Op.call { callee := Go.Callee.value (Go.Operand.func 24), args := #[Go.Operand.tmp 84, Go.Operand.tmp 86], argTypes := #[22, 22] }, type := 4, pos := _, after := #[{ on := 6, ground := Go.Ground.data }, { on := 8, ground := Go.Ground.data }, { on := 4, ground := Go.Ground.chain }, { on := 4, ground := Go.Ground.guard }], guard := some (4, false) }) (v := undef) rfl (by kernel_rfl) (by kernel_rfl) (by kernel_rfl) (fun _ _ _ h => h) (Or.inr ⟨by kernel_rfl, rfl⟩) (by assumption) ?_
        (try simp only [Act.put, List.setIfInBounds_toArray, List.set_cons_zero, List.set_cons_succ])
        refine wpAnyH_take (i := 10) (oi := { dst := some 88, op := Go.Op.pick (Go.Operand.tmp 82) (Go.Operand.const (Go.Value.bool true)) (Go.Operand.tmp 87), type := 4, pos := _, after := #[{ on := 4, ground := Go.Ground.data }, { on := 9, ground := Go.Ground.data }, { on := 1, ground := Go.Ground.guard }], guard := some (1, true) }) (v := ?v12) rfl (by kernel_rfl) (by kernel_rfl) (by kernel_rfl) (fun _ _ _ h => h) (Or.inl ⟨by kernel_rfl, ?hy12⟩) (by assumption) ?_
        case hy12 => intro w hSw; (try dsimp only at hSw); first | (go_simp; done) | (go_simp; with_reducible rfl)
        (try simp only [Act.put, List.setIfInBounds_toArray, List.set_cons_zero, List.set_cons_succ])
        refine wpAnyH_take (i := 11) (oi := { dst := some 89, op := Go.Op.pick (Go.Operand.tmp 79) (Go.Operand.tmp 88) (Go.Operand.const (Go.Value.bool false)), type := 4, pos := _, after := #[{ on := 1, ground := Go.Ground.data }, { on := 10, ground := Go.Ground.data }], guard := none }) (v := ?v13) rfl (by kernel_rfl) (by kernel_rfl) (by kernel_rfl) (fun _ _ _ h => h) (Or.inl ⟨by kernel_rfl, ?hy13⟩) (by assumption) ?_
        case hy13 => intro w hSw; (try dsimp only at hSw); first | (go_simp; done) | (go_simp; with_reducible rfl)
        (try simp only [Act.put, List.setIfInBounds_toArray, List.set_cons_zero, List.set_cons_succ])
        refine wpAnyH_take (i := 12) (oi := { dst := some 90, op := Go.Op.move (Go.Operand.tmp 89), type := 4, pos := _, after := #[{ on := 11, ground := Go.Ground.data }, { on := 9, ground := Go.Ground.chain }], guard := none }) (v := ?v14) rfl (by kernel_rfl) (by kernel_rfl) (by kernel_rfl) (fun _ _ _ h => h) (Or.inl ⟨by kernel_rfl, ?hy14⟩) (by assumption) ?_
        case hy14 => intro w hSw; (try dsimp only at hSw); first | (go_simp; done) | (go_simp; with_reducible rfl)
        (try simp only [Act.put, List.setIfInBounds_toArray, List.set_cons_zero, List.set_cons_succ])
        refine wpAnyH_take (i := 13) (oi := { dst := some 91, op := Go.Op.load 29 (Go.Operand.tmp 9), type := 29, pos := _, after := #[{ on := 12, ground := Go.Ground.guard }], guard := some (12, true) }) (v := ?v15) rfl (by kernel_rfl) (by kernel_rfl) (by kernel_rfl) (fun _ _ _ h => h) (Or.inl ⟨by kernel_rfl, ?hy15⟩) (by assumption) ?_
        case hy15 => intro w hSw; (try dsimp only at hSw); first | (go_simp; done) | (go_simp; with_reducible rfl)
        (try simp only [Act.put, List.setIfInBounds_toArray, List.set_cons_zero, List.set_cons_succ])
        refine wpAnyH_take (i := 15) (oi := { dst := some 93, op := Go.Op.load 24 (Go.Operand.tmp 2), type := 24, pos := _, after := #[{ on := 12, ground := Go.Ground.guard }], guard := some (12, true) }) (v := ?v16) rfl (by kernel_rfl) (by kernel_rfl) (by kernel_rfl) (fun _ _ _ h => h) (Or.inl ⟨by kernel_rfl, ?hy16⟩) (by assumption) ?_
        case hy16 => intro w hSw; (try dsimp only at hSw); first | (go_simp; done) | (go_simp; with_reducible rfl)
        (try simp only [Act.put, List.setIfInBounds_toArray, List.set_cons_zero, List.set_cons_succ])
        refine wpAnyH_ready (rs := [14]) (by kernel_rfl) (by simp) ?_
        refine AllReadyH.cons (o := { dst := some 92, op := Go.Op.call { callee := Go.Callee.value (Go.Operand.func 15), args := #[Go.Operand.tmp 91], argTypes := #[29] }, type := 24, pos := _, after := #[{ on := 13, ground := Go.Ground.data }, { on := 12, ground := Go.Ground.chain }, { on := 12, ground := Go.Ground.guard }], guard := some (12, true) }) rfl (fun K hK => ?_) AllReadyH.nil
        go_simp
        (go_at_call 15; refine (back_any _ _ _ _ _ _).mono ?_; rintro e w11_ ⟨rfl, g11⟩; have Z_11 := Lib.hid (Z_10.out.grow g11); have Byb_11 := Lib.hid (Byb_10.out.grow g11); have Btb_11 := Lib.hid (Btb_10.out.grow g11); have HM_11 := Lib.hid (HM_10.out.grow g11); have HG_11 := Lib.hid (HG_10.out.trans g11))
        (try go_wp2_with fail)
        refine hK.out _ _ ?hS18 (fun hHeld => ?_)
        case hS18 => (try dsimp only); exact keep_h9 g11 (by assumption)
        clear hK K
        (try simp only [Act.put, List.setIfInBounds_toArray, List.set_cons_zero, List.set_cons_succ])
        refine wpAnyH_ready (rs := [16]) (by kernel_rfl) (by simp) ?_
        refine AllReadyH.cons (o := { dst := some 94, op := Go.Op.call { callee := Go.Callee.value (Go.Operand.func 26), args := #[Go.Operand.tmp 93], argTypes := #[24] }, type := 24, pos := _, after := #[{ on := 15, ground := Go.Ground.data }, { on := 14, ground := Go.Ground.chain }, { on := 12, ground := Go.Ground.guard }], guard := some (12, true) }) rfl (fun K hK => ?_) AllReadyH.nil
        go_simp
        (go_at_call 26; refine (rturn_all (R := R0) (C := C0) Z_11.out).mono ?_; rintro e w12_ ⟨⟨s9, n9, c9, rfl, hs⟩, g12⟩; rw [turnA_no HR.out, turnA_no HR.out]; rw [HTN.out] at hs; have U := Lib.hid hs; have Z_12 := Lib.hid (Z_11.out.grow g12); have Byb_12 := Lib.hid (Byb_11.out.grow g12); have Btb_12 := Lib.hid (Btb_11.out.grow g12); have HM_12 := Lib.hid (HM_11.out.grow g12); have HG_12 := Lib.hid (HG_11.out.trans g12); clear hs)
        (try go_wp2_with fail)
        refine hK.out _ _ ?hS20 (fun hHeld => ?_)
        case hS20 => (try dsimp only); exact keep_h9 g12 (by assumption)
        clear hK K
        (try simp only [Act.put, List.setIfInBounds_toArray, List.set_cons_zero, List.set_cons_succ])
        refine wpAnyH_ready (rs := [17]) (by kernel_rfl) (by simp) ?_
        refine AllReadyH.cons (o := { dst := some 95, op := Go.Op.call { callee := Go.Callee.value (Go.Operand.func 14), args := #[Go.Operand.tmp 92, Go.Operand.tmp 94], argTypes := #[24, 24] }, type := 4, pos := _, after := #[{ on := 14, ground := Go.Ground.data }, { on := 16, ground := Go.Ground.data }, { on := 16, ground := Go.Ground.chain }, { on := 12, ground := Go.Ground.guard }], guard := some (12, true) }) rfl (fun K hK => ?_) AllReadyH.nil
        go_simp
        (go_at_call 14; refine (msame_seen Seen.none U.out).mono ?_; rintro e w13_ ⟨rfl, g13⟩; have Z_13 := Lib.hid (Z_12.out.grow g13); have U_13 := Lib.hid (U.out.grow g13); have Byb_13 := Lib.hid (Byb_12.out.grow g13); have Btb_13 := Lib.hid (Btb_12.out.grow g13); have HM_13 := Lib.hid (HM_12.out.grow g13); have HG_13 := Lib.hid (HG_12.out.trans g13))
        (try go_wp2_with fail)
        refine hK.out _ _ ?hS22 (fun hHeld => ?_)
        case hS22 => (try dsimp only); exact keep_h9 g13 (by assumption)
        clear hK K
        (try simp only [Act.put, List.setIfInBounds_toArray, List.set_cons_zero, List.set_cons_succ])
        refine wpAnyH_take (i := 18) (oi := { dst := some 96, op := Go.Op.pick (Go.Operand.tmp 90) (Go.Operand.tmp 95) (Go.Operand.const (Go.Value.bool false)), type := 4, pos := _, after := #[{ on := 12, ground := Go.Ground.data }, { on := 17, ground := Go.Ground.data }], guard := none }) (v := ?v23) rfl (by kernel_rfl) (by kernel_rfl) (by kernel_rfl) (fun _ _ _ h => h) (Or.inl ⟨by kernel_rfl, ?hy23⟩) (by assumption) ?_
        case hy23 => intro w hSw; (try dsimp only at hSw); first | (go_simp; done) | (go_simp; with_reducible rfl)
        (try simp only [Act.put, List.setIfInBounds_toArray, List.set_cons_zero, List.set_cons_succ])
        refine wpAnyH_take (i := 19) (oi := { dst := some 4, op := Go.Op.assign (Go.Operand.tmp 96), type := 4, pos := _, after := #[{ on := 18, ground := Go.Ground.data }, { on := 17, ground := Go.Ground.chain }, { on := 0, ground := Go.Ground.phase }, { on := 1, ground := Go.Ground.phase }, { on := 2, ground := Go.Ground.phase }, { on := 3, ground := Go.Ground.phase }, { on := 4, ground := Go.Ground.phase }, { on := 5, ground := Go.Ground.phase }, { on := 6, ground := Go.Ground.phase }, { on := 7, ground := Go.Ground.phase }, { on := 8, ground := Go.Ground.phase }, { on := 9, ground := Go.Ground.phase }, { on := 10, ground := Go.Ground.phase }, { on := 11, ground := Go.Ground.phase }, { on := 12, ground := Go.Ground.phase }, { on := 13, ground := Go.Ground.phase }, { on := 14, ground := Go.Ground.phase }, { on := 15, ground := Go.Ground.phase }, { on := 16, ground := Go.Ground.phase }, { on := 17, ground := Go.Ground.phase }, { on := 18, ground := Go.Ground.phase }], guard := none }) (v := ?v24) rfl (by kernel_rfl) (by kernel_rfl) (by kernel_rfl) (fun _ _ _ h => h) (Or.inl ⟨by kernel_rfl, ?hy24⟩) (by assumption) ?_
        case hy24 => intro w hSw; (try dsimp only at hSw); first | (go_simp; done) | (go_simp; with_reducible rfl)
        (try simp only [Act.put, List.setIfInBounds_toArray, List.set_cons_zero, List.set_cons_succ])
        refine wpAnyH_done (by kernel_rfl) ?_ _
        clear hHeld
        have m0_13 := HM_13.out.c0
        have m1_13 := HM_13.out.c1
        have m2_13 := HM_13.out.c2
        have hl_13 := HM_13.out.lt
        have b0yb_13 := Byb_13.out.c0
        have b1yb_13 := Byb_13.out.c1
        have b2yb_13 := Byb_13.out.c2
        have blyb_13 := Byb_13.out.lt
        have b0tb_13 := Btb_13.out.c0
        have b1tb_13 := Btb_13.out.c1
        have b2tb_13 := Btb_13.out.c2
        have bltb_13 := Btb_13.out.lt
        go_wp2
        go_ret
        exact ⟨rfl, HG_13.out⟩

set_option maxRecDepth 100000 in
set_option maxHeartbeats 4000000 in
theorem way_true (R0 C0 : Int) (a0 : Option Addr) (len0 cap0 : Nat) (zs0 : List Int) (a1 : Option Addr) (len1 cap1 : Nat) (zs1 : List Int) (w : World) (hA : ¬ 600 < len0) (hA1 : ¬ 600 < len1) (h0 : Seen w a0 len0 cap0 zs0) (hnn0 : a0 = none → cap0 = 0) (h1 : Seen w a1 len1 cap1 zs1) (hnn1 : a1 = none → cap1 = 0) (hR : rightB R0 C0 len0 = true) :
    Calls Try.prog 7 #[.agg #[.int .i64 R0, .int .i64 C0, .slice a0 len0 cap0], .slice a1 len1 cap1] w fun e w' => e = .returned (.bool true) ∧ Below w.heap.size w w' := by

    have HG0 : Hid (Grew w (w.alloc (.cells #[.int .i64 R0, .int .i64 C0, .slice a0 len0 cap0] 24))) := Lib.hid ((Grew.refl w).alloc _)
    have HM0 := Lib.hid (Three.new w 24 (.int .i64 R0) (.int .i64 C0) (.slice a0 len0 cap0))

    have HZ0 := Lib.hid h0
    have HZ1 := Lib.hid h1
    have HR := Lib.hid hR
    clear h0 h1 hR
    go_enter Try.func7, Try.ntmps7
    have Z0 := Lib.hid (HZ0.out.grow HG0.out)
    have X0 := Lib.hid (HZ1.out.grow HG0.out)
    have HF0 := Lib.hid HZ0.out.fit
    have HF1 := Lib.hid HZ1.out.fit
    go_wp2_with fail
    refine (few_any R0 C0 a0 len0 cap0 _).mono ?_
    rintro e w1_ ⟨rfl, g1⟩
    have Z_1 := Lib.hid (Z0.out.grow g1)
    have X_1 := Lib.hid (X0.out.grow g1)
    have HG_1 := Lib.hid (HG0.out.trans g1)
    have HM_1 := Lib.hid (HM0.out.grow g1)
    have m0_1 := HM_1.out.c0
    have m1_1 := HM_1.out.c1
    have m2_1 := HM_1.out.c2
    have hl_1 := HM_1.out.lt
    clear g1
    rw [decide_eq_true (by omega)]
    have hsz1 := HM_1.out.lt
    go_wp2_with fail
    refine (rclone_all Z_1.out hnn0).mono ?_
    rintro e w2_ ⟨⟨s1, c1, rfl, hs⟩, g2⟩
    have HRB := Lib.hid (buf_block hs)
    have hsz2 := g2.size
    have O := Lib.hid hs
    have Z_2 := Lib.hid (Z_1.out.grow g2)
    have X_2 := Lib.hid (X_1.out.grow g2)
    have HG_2 := Lib.hid (HG_1.out.trans g2)
    have HM_2 := Lib.hid (HM_1.out.grow g2)
    clear m0_1 m1_1 m2_1 hl_1
    have m0_2 := HM_2.out.c0
    have m1_2 := HM_2.out.c1
    have m2_2 := HM_2.out.c2
    have hl_2 := HM_2.out.lt
    clear hs
    clear g2
    generalize w1_.heap.size = B1 at *
    go_wp2_with fail
    refine (rclone_all X_2.out hnn1).mono ?_
    rintro e w3_ ⟨⟨s2, c2, rfl, hs⟩, g3⟩
    have hsz3 := g3.size
    have D := Lib.hid hs
    have Z_3 := Lib.hid (Z_2.out.grow g3)
    have X_3 := Lib.hid (X_2.out.grow g3)
    have O_3 := Lib.hid (O.out.grow g3)
    have HG_3 := Lib.hid (HG_2.out.trans g3)
    have HM_3 := Lib.hid (HM_2.out.grow g3)
    clear m0_2 m1_2 m2_2 hl_2
    have m0_3 := HM_3.out.c0
    have m1_3 := HM_3.out.c1
    have m2_3 := HM_3.out.c2
    have hl_3 := HM_3.out.lt
    clear hs
    clear g3
    generalize w2_.heap.size = B2 at *
    go_wp2_with fail
    refine (of_seen (Buf.seen O_3.out (by omega) HF0.out) HR.out).mono ?_
    rintro e w4_ ⟨⟨g1_, rfl, hs⟩, g4⟩
    have hsz4 := g4.size
    replace hs := hs.mono hsz3
    have A := Lib.hid hs
    have Z_4 := Lib.hid (Z_3.out.grow g4)
    have X_4 := Lib.hid (X_3.out.grow g4)
    have O_4 := Lib.hid (O_3.out.grow g4)
    have D_4 := Lib.hid (D.out.grow g4)
    have HG_4 := Lib.hid (HG_3.out.trans g4)
    have HM_4 := Lib.hid (HM_3.out.grow g4)
    clear m0_3 m1_3 m2_3 hl_3
    have m0_4 := HM_4.out.c0
    have m1_4 := HM_4.out.c1
    have m2_4 := HM_4.out.c2
    have hl_4 := HM_4.out.lt
    clear hs
    clear g4
    go_wp2_with fail
    have gA : Grew w4_ (w4_.alloc (.cells #[.int .i64 R0, .int .i64 C0, .slice (some ⟨g1_, 0, none⟩) len0 len0] 29)) := (Grew.refl _).alloc _
    have Hyb := Lib.hid (Three.new w4_ 29 (.int .i64 R0) (.int .i64 C0) (.slice (some ⟨g1_, 0, none⟩) len0 len0))
    have Z_4a := Lib.hid (Z_4.out.grow gA)
    have X_4a := Lib.hid (X_4.out.grow gA)
    have O_4a := Lib.hid (O_4.out.grow gA)
    have D_4a := Lib.hid (D_4.out.grow gA)
    have A_4a := Lib.hid (A.out.grow gA)
    have HG_4a := Lib.hid (HG_4.out.trans gA)
    have HM_4a := Lib.hid (HM_4.out.grow gA)
    clear m0_4 m1_4 m2_4 hl_4
    have hsa := gA.size
    clear gA
    generalize w4_.alloc (.cells #[.int .i64 R0, .int .i64 C0, .slice (some ⟨g1_, 0, none⟩) len0 len0] 29) = w4a_ at *
    generalize w4_.heap.size = yb at *
    refine (mul_all (R := R0) (C := C0) (Buf.seen O_4a.out (by omega) HF0.out) (Buf.seen D_4a.out (by omega) HF1.out)).mono ?_
    rintro e w5_ ⟨⟨s3, n3, c3, rfl, hs⟩, g5⟩
    clear hs
    have hsz5 := g5.size
    have Z_5 := Lib.hid (Z_4a.out.grow g5)
    have X_5 := Lib.hid (X_4a.out.grow g5)
    have O_5 := Lib.hid (O_4a.out.grow g5)
    have D_5 := Lib.hid (D_4a.out.grow g5)
    have A_5 := Lib.hid (A_4a.out.grow g5)
    have HG_5 := Lib.hid (HG_4a.out.trans g5)
    have HM_5 := Lib.hid (HM_4a.out.grow g5)
    have m0_5 := HM_5.out.c0
    have m1_5 := HM_5.out.c1
    have m2_5 := HM_5.out.c2
    have hl_5 := HM_5.out.lt
    have yb_5 := Lib.hid (Hyb.out.grow g5)
    have b0yb_5 := yb_5.out.c0
    have b1yb_5 := yb_5.out.c1
    have b2yb_5 := yb_5.out.c2
    have blyb_5 := yb_5.out.lt
    clear g5
    go_wp2_with fail
    refine (turn_seen (R := R0) (C := C0) (Buf.seen O_5.out (by omega) HF0.out) HR.out).mono ?_
    rintro e w6_ ⟨⟨g2_, rfl, hs⟩, g6⟩
    have hsz6 := g6.size
    replace hs := hs.mono (B' := B2) (by omega)
    have T := Lib.hid hs
    have Z_6 := Lib.hid (Z_5.out.grow g6)
    have X_6 := Lib.hid (X_5.out.grow g6)
    have O_6 := Lib.hid (O_5.out.grow g6)
    have D_6 := Lib.hid (D_5.out.grow g6)
    have A_6 := Lib.hid (A_5.out.grow g6)
    have HG_6 := Lib.hid (HG_5.out.trans g6)
    have HM_6 := Lib.hid (HM_5.out.grow g6)
    clear m0_5 m1_5 m2_5 hl_5
    have m0_6 := HM_6.out.c0
    have m1_6 := HM_6.out.c1
    have m2_6 := HM_6.out.c2
    have hl_6 := HM_6.out.lt
    have yb_6 := Lib.hid (yb_5.out.grow g6)
    clear b0yb_5 b1yb_5 b2yb_5 blyb_5
    have b0yb_6 := yb_6.out.c0
    have b1yb_6 := yb_6.out.c1
    have b2yb_6 := yb_6.out.c2
    have blyb_6 := yb_6.out.lt
    clear hs
    clear g6
    go_wp2_with fail
    have gA : Grew w6_ (w6_.alloc (.cells #[.int .i64 C0, .int .i64 R0, .slice (some ⟨g2_, 0, none⟩) len0 len0] 29)) := (Grew.refl _).alloc _
    have Htb := Lib.hid (Three.new w6_ 29 (.int .i64 C0) (.int .i64 R0) (.slice (some ⟨g2_, 0, none⟩) len0 len0))
    have Z_6a := Lib.hid (Z_6.out.grow gA)
    have X_6a := Lib.hid (X_6.out.grow gA)
    have O_6a := Lib.hid (O_6.out.grow gA)
    have D_6a := Lib.hid (D_6.out.grow gA)
    have A_6a := Lib.hid (A_6.out.grow gA)
    have T_6a := Lib.hid (T.out.grow gA)
    have Byb_6a := Lib.hid (yb_6.out.grow gA)
    clear b0yb_6 b1yb_6 b2yb_6 blyb_6
    have HG_6a := Lib.hid (HG_6.out.trans gA)
    have HM_6a := Lib.hid (HM_6.out.grow gA)
    clear m0_6 m1_6 m2_6 hl_6
    have hsb := gA.size
    clear gA
    generalize w6_.alloc (.cells #[.int .i64 C0, .int .i64 R0, .slice (some ⟨g2_, 0, none⟩) len0 len0] 29) = w6a_ at *
    generalize w6_.heap.size = tb at *
    refine (same_seen (Buf.seen O_6a.out (by omega) HF0.out) Z_6a.out).mono ?_
    rintro e w7_ ⟨rfl, g7⟩
    have Z_7 := Lib.hid (Z_6a.out.grow g7)
    have X_7 := Lib.hid (X_6a.out.grow g7)
    have O_7 := Lib.hid (O_6a.out.grow g7)
    have D_7 := Lib.hid (D_6a.out.grow g7)
    have A_7 := Lib.hid (A_6a.out.grow g7)
    have T_7 := Lib.hid (T_6a.out.grow g7)
    have HG_7 := Lib.hid (HG_6a.out.trans g7)
    have HM_7 := Lib.hid (HM_6a.out.grow g7)
    have m0_7 := HM_7.out.c0
    have m1_7 := HM_7.out.c1
    have m2_7 := HM_7.out.c2
    have hl_7 := HM_7.out.lt
    have yb_7 := Lib.hid (Byb_6a.out.grow g7)
    have b0yb_7 := yb_7.out.c0
    have b1yb_7 := yb_7.out.c1
    have b2yb_7 := yb_7.out.c2
    have blyb_7 := yb_7.out.lt
    have tb_7 := Lib.hid (Htb.out.grow g7)
    have b0tb_7 := tb_7.out.c0
    have b1tb_7 := tb_7.out.c1
    have b2tb_7 := tb_7.out.c2
    have bltb_7 := tb_7.out.lt
    clear g7
    go_wp2_with fail
    refine (same_seen (Buf.seen D_7.out (by omega) HF1.out) X_7.out).mono ?_
    rintro e w8_ ⟨rfl, g8⟩
    have Z_8 := Lib.hid (Z_7.out.grow g8)
    have X_8 := Lib.hid (X_7.out.grow g8)
    have O_8 := Lib.hid (O_7.out.grow g8)
    have D_8 := Lib.hid (D_7.out.grow g8)
    have A_8 := Lib.hid (A_7.out.grow g8)
    have T_8 := Lib.hid (T_7.out.grow g8)
    have HG_8 := Lib.hid (HG_7.out.trans g8)
    have HM_8 := Lib.hid (HM_7.out.grow g8)
    clear m0_7 m1_7 m2_7 hl_7
    have m0_8 := HM_8.out.c0
    have m1_8 := HM_8.out.c1
    have m2_8 := HM_8.out.c2
    have hl_8 := HM_8.out.lt
    have yb_8 := Lib.hid (yb_7.out.grow g8)
    clear b0yb_7 b1yb_7 b2yb_7 blyb_7
    have b0yb_8 := yb_8.out.c0
    have b1yb_8 := yb_8.out.c1
    have b2yb_8 := yb_8.out.c2
    have blyb_8 := yb_8.out.lt
    have tb_8 := Lib.hid (tb_7.out.grow g8)
    clear b0tb_7 b1tb_7 b2tb_7 bltb_7
    have b0tb_8 := tb_8.out.c0
    have b1tb_8 := tb_8.out.c1
    have b2tb_8 := tb_8.out.c2
    have bltb_8 := tb_8.out.lt
    clear g8
    go_wp2_with fail
    refine (rright_any R0 C0 a0 len0 cap0 _ (by omega)).mono ?_
    rintro e w9_ ⟨rfl, g9⟩
    have Z_9 := Lib.hid (Z_8.out.grow g9)
    have X_9 := Lib.hid (X_8.out.grow g9)
    have O_9 := Lib.hid (O_8.out.grow g9)
    have D_9 := Lib.hid (D_8.out.grow g9)
    have A_9 := Lib.hid (A_8.out.grow g9)
    have T_9 := Lib.hid (T_8.out.grow g9)
    have HG_9 := Lib.hid (HG_8.out.trans g9)
    have HM_9 := Lib.hid (HM_8.out.grow g9)
    clear m0_8 m1_8 m2_8 hl_8
    have m0_9 := HM_9.out.c0
    have m1_9 := HM_9.out.c1
    have m2_9 := HM_9.out.c2
    have hl_9 := HM_9.out.lt
    have yb_9 := Lib.hid (yb_8.out.grow g9)
    clear b0yb_8 b1yb_8 b2yb_8 blyb_8
    have b0yb_9 := yb_9.out.c0
    have b1yb_9 := yb_9.out.c1
    have b2yb_9 := yb_9.out.c2
    have blyb_9 := yb_9.out.lt
    have tb_9 := Lib.hid (tb_8.out.grow g9)
    clear b0tb_8 b1tb_8 b2tb_8 bltb_8
    have b0tb_9 := tb_9.out.c0
    have b1tb_9 := tb_9.out.c1
    have b2tb_9 := tb_9.out.c2
    have bltb_9 := tb_9.out.lt
    clear g9
    rw [HR.out]
    go_wp2_with fail
    have hyb2 : B2 ≤ yb := by omega
    have htb2 : B2 ≤ tb := by omega
    have hV : B2 ≤ w9_.heap.size := by have := tb_9.out.lt; omega
    clear m0_9 m1_9 m2_9 hl_9
    clear b0yb_9 b1yb_9 b2yb_9 blyb_9
    clear b0tb_9 b1tb_9 b2tb_9 bltb_9
    go_loopw [68] (fun i wr => ∃ (k : Nat) (us : List Int), k ≤ len0 ∧ i = .int .i64 (k : Int) ∧ Hid (Buf B1 wr s1 len0 c1 us) ∧ Hid (w9_.grownBy wr (Value.slice s1 len0 c1).ownBlock)) (fun i _ => len0 - (intOf i).toNat)
    case atStart => exact ⟨0, zs0, Nat.zero_le _, by simp, Lib.hid O_9.out, Lib.hid (grown_refl _ _)⟩
    case round =>
      obtain ⟨k, us, hk, rfl, HB, HGr⟩ := hrel
      by_cases hlt : k < len0
      · obtain ⟨g, ex, _, hgl, hcell, hfro⟩ := HB.out.at hlt
        subst ex
        generalize el us k = u at *
        go_wp2
        go_roundw
        case rel => exact ⟨k + 1, _, by omega, by go_num, Lib.hid (HB.out.set k _), Lib.hid (grownBy_trans HGr.out (grownBy_setCell1 wr ⟨g, k, none⟩ _))⟩
        case measure => simp [intOf]; omega
      · obtain rfl : len0 = k := by omega
        have hbe := below_of_grown HGr.out (fun g hg => (HRB.out g hg).1) (show B1 ≤ w9_.heap.size by omega)
        have hgw : Grew w wr := Grew.trans_below HG_9.out hbe (by omega)
        have HGW := Lib.hid hgw
        have ZW := Lib.hid (HZ0.out.grow hgw)
        have HMW := Lib.hid (HM_9.out.below hbe hsz1)
        have BYW := Lib.hid (yb_9.out.grown HGr.out (fun e => by have := HRB.out _ e.symm; omega))
        have BTW := Lib.hid (tb_9.out.grown HGr.out (fun e => by have := HRB.out _ e.symm; omega))
        have hz0 := HZ0.out.1
        clear hbe hgw
        have AW := Lib.hid ((Buf.asideR A_9.out HGr.out (fun g hg => (HRB.out g hg).2)).seen (by omega) HF0.out)
        have TW := Lib.hid ((Buf.asideR T_9.out HGr.out (fun g hg => (HRB.out g hg).2)).seen (by omega) (turnR_fit (R := R0) (C := C0) HF0.out))
        have m0 := HMW.out.c0
        have m1 := HMW.out.c1
        have m2 := HMW.out.c2
        go_wp2_with fail
        clear m0 m1 m2
        have gD : Grew wr wr.drew := Grew.drew' (Grew.refl _)
        have Z_9d := Lib.hid (ZW.out.grow gD)
        have A_9d := Lib.hid (AW.out.grow gD)
        have T_9d := Lib.hid (TW.out.grow gD)
        have Byb_9d := Lib.hid (BYW.out.grow gD)
        have Btb_9d := Lib.hid (BTW.out.grow gD)
        have HM_9d := Lib.hid (HMW.out.grow gD)
        have HG_9d := Lib.hid (HGW.out.trans gD)
        refine wp_region_held_drew (S := (fun W' => Grew wr W' ∧ W'.cell? ⟨yb, 0, none⟩ = some (.int .i64 R0) ∧ W'.cell? ⟨yb, 1, none⟩ = some (.int .i64 C0) ∧ W'.cell? ⟨yb, 2, none⟩ = some (.slice (some ⟨g1_, 0, none⟩) len0 len0) ∧ W'.cell? ⟨tb, 0, none⟩ = some (.int .i64 C0) ∧ W'.cell? ⟨tb, 1, none⟩ = some (.int .i64 R0) ∧ W'.cell? ⟨tb, 2, none⟩ = some (.slice (some ⟨g2_, 0, none⟩) len0 len0) ∧ W'.cell? ⟨w.heap.size, 0, none⟩ = some (.int .i64 R0) ∧ W'.cell? ⟨w.heap.size, 1, none⟩ = some (.int .i64 C0) ∧ W'.cell? ⟨w.heap.size, 2, none⟩ = some (.slice a0 len0 cap0))) (by kernel_rfl) ⟨Grew.drew' (Grew.refl _), BYW.out.c0, BYW.out.c1, BYW.out.c2, BTW.out.c0, BTW.out.c1, BTW.out.c2, HMW.out.c0, HMW.out.c1, HMW.out.c2⟩ (fun hHeld => ?_)
        refine wpAnyH_ready (rs := [0]) (by kernel_rfl) (by simp) ?_
        refine AllReadyH.cons (o := { dst := some 78, op := Go.Op.call { callee := Go.Callee.value (Go.Operand.func 9), args := #[], argTypes := #[] }, type := 4, pos := _, after := #[], guard := none }) rfl (fun K hK => ?_) AllReadyH.nil
        go_simp
        (go_at_call 9; refine (malive_any _).mono ?_; rintro e w10_ ⟨rfl, g10⟩; have Z_10 := Lib.hid (Z_9d.out.grow g10); have A_10 := Lib.hid (A_9d.out.grow g10); have T_10 := Lib.hid (T_9d.out.grow g10); have Byb_10 := Lib.hid (Byb_9d.out.grow g10); have Btb_10 := Lib.hid (Btb_9d.out.grow g10); have HM_10 := Lib.hid (HM_9d.out.grow g10); have HG_10 := Lib.hid (HG_9d.out.trans g10))
        (try go_wp2_with fail)
        refine hK.out _ _ ?hS26 (fun hHeld => ?_)
        case hS26 => (try dsimp only); exact keep_h9 g10 (by assumption)
        clear hK K
        (try simp only [Act.put, List.setIfInBounds_toArray, List.set_cons_zero, List.set_cons_succ])
        refine wpAnyH_take (i := 1) (oi := { dst := some 79, op := Go.Op.move (Go.Operand.tmp 78), type := 4, pos := _, after := #[{ on := 0, ground := Go.Ground.data }, { on := 0, ground := Go.Ground.chain }], guard := none }) (v := ?v27) rfl (by kernel_rfl) (by kernel_rfl) (by kernel_rfl) (fun _ _ _ h => h) (Or.inl ⟨by kernel_rfl, ?hy27⟩) (by assumption) ?_
        case hy27 => intro w hSw; (try dsimp only at hSw); first | (go_simp; done) | (go_simp; with_reducible rfl)
        (try simp only [Act.put, List.setIfInBounds_toArray, List.set_cons_zero, List.set_cons_succ])
        refine wpAnyH_take (i := 2) (oi := { dst := some 80, op := Go.Op.move (Go.Operand.tmp 8), type := 4, pos := _, after := #[{ on := 1, ground := Go.Ground.guard }], guard := some (1, true) }) (v := ?v28) rfl (by kernel_rfl) (by kernel_rfl) (by kernel_rfl) (fun _ _ _ h => h) (Or.inl ⟨by kernel_rfl, ?hy28⟩) (by assumption) ?_
        case hy28 => intro w hSw; (try dsimp only at hSw); first | (go_simp; done) | (go_simp; with_reducible rfl)
        (try simp only [Act.put, List.setIfInBounds_toArray, List.set_cons_zero, List.set_cons_succ])
        refine wpAnyH_take (i := 3) (oi := { dst := some 81, op := Go.Op.unOp Go.UnOp.not 4 (Go.Operand.tmp 80), type := 4, pos := _, after := #[{ on := 2, ground := Go.Ground.data }, { on := 1, ground := Go.Ground.guard }], guard := some (1, true) }) (v := ?v29) rfl (by kernel_rfl) (by kernel_rfl) (by kernel_rfl) (fun _ _ _ h => h) (Or.inl ⟨by kernel_rfl, ?hy29⟩) (by assumption) ?_
        case hy29 => intro w hSw; (try dsimp only at hSw); first | (go_simp; done) | (go_simp; with_reducible rfl)
        (try simp only [Act.put, List.setIfInBounds_toArray, List.set_cons_zero, List.set_cons_succ])
        refine wpAnyH_take (i := 4) (oi := { dst := some 82, op := Go.Op.move (Go.Operand.tmp 81), type := 4, pos := _, after := #[{ on := 3, ground := Go.Ground.data }, { on := 1, ground := Go.Ground.chain }, { on := 1, ground := Go.Ground.guard }], guard := some (1, true) }) (v := ?v30) rfl (by kernel_rfl) (by kernel_rfl) (by kernel_rfl) (fun _ _ _ h => h) (Or.inl ⟨by kernel_rfl, ?hy30⟩) (by assumption) ?_
        case hy30 => intro w hSw; (try dsimp only at hSw); first | (go_simp; done) | (go_simp; with_reducible rfl)
        (try simp only [Act.put, List.setIfInBounds_toArray, List.set_cons_zero, List.set_cons_succ])
        refine wpAnyH_take (i := 5) (oi := { dst := some 83, op := Go.Op.fieldAddr 29 (Go.Operand.tmp 7) 2, type := 0, pos := _, after := #[{ on := 4, ground := Go.Ground.guard }], guard := some (4, false) }) (v := ?v31) rfl (by kernel_rfl) (by kernel_rfl) (by kernel_rfl) (fun _ _ _ h => h) (Or.inl ⟨by kernel_rfl, ?hy31⟩) (by assumption) ?_
        case hy31 => intro w hSw; (try dsimp only at hSw); first | (go_simp; done) | (go_simp; with_reducible rfl)
        (try simp only [Act.put, List.setIfInBounds_toArray, List.set_cons_zero, List.set_cons_succ])
        refine wpAnyH_take (i := 6) (oi := { dst := some 84, op := Go.Op.load 27 (Go.Operand.tmp 83), type := 27, pos := _, after := #[{ on := 5, ground := Go.Ground.data }, { on := 4, ground := Go.Ground.guard }], guard := some (4, false) }) (v := ?v32) rfl (by kernel_rfl) (by kernel_rfl) (by kernel_rfl) (fun _ _ _ h => h) (Or.inl ⟨by kernel_rfl, ?hy32⟩) (by assumption) ?_
        case hy32 => intro w hSw; (try dsimp only at hSw); first | (go_simp; done) | (go_simp; with_reducible rfl)
        (try simp only [Act.put, List.setIfInBounds_toArray, List.set_cons_zero, List.set_cons_succ])
        refine wpAnyH_take (i := 7) (oi := { dst := some 85, op := Go.Op.fieldAddr 24 (Go.Operand.tmp 2) 2, type := 0, pos := _, after := #[{ on := 4, ground := Go.Ground.guard }], guard := some (4, false) }) (v := ?v33) rfl (by kernel_rfl) (by kernel_rfl) (by kernel_rfl) (fun _ _ _ h => h) (Or.inl ⟨by kernel_rfl, ?hy33⟩) (by assumption) ?_
        case hy33 => intro w hSw; (try dsimp only at hSw); first | (go_simp; done) | (go_simp; with_reducible rfl)
        (try simp only [Act.put, List.setIfInBounds_toArray, List.set_cons_zero, List.set_cons_succ])
        refine wpAnyH_take (i := 8) (oi := { dst := some 86, op := Go.Op.load 22 (Go.Operand.tmp 85), type := 22, pos := _, after := #[{ on := 7, ground := Go.Ground.data }, { on := 4, ground := Go.Ground.guard }], guard := some (4, false) }) (v := ?v34) rfl (by kernel_rfl) (by kernel_rfl) (by kernel_rfl) (fun _ _ _ h => h) (Or.inl ⟨by kernel_rfl, ?hy34⟩) (by assumption) ?_
        case hy34 => intro w hSw; (try dsimp only at hSw); first | (go_simp; done) | (go_simp; with_reducible rfl)
        (try simp only [Act.put, List.setIfInBounds_toArray, List.set_cons_zero, List.set_cons_succ])
        refine wpAnyH_ready (rs := [9]) (by kernel_rfl) (by simp) ?_
        refine AllReadyH.cons (o := { dst := some 87, op := Go.Op.call { callee := Go.Callee.value (Go.Operand.func 24), args := #[Go.Operand.tmp 84, Go.Operand.tmp 86], argTypes := #[22, 22] }, type := 4, pos := _, after := #[{ on := 6, ground := Go.Ground.data }, { on := 8, ground := Go.Ground.data }, { on := 4, ground := Go.Ground.chain }, { on := 4, ground := Go.Ground.guard }], guard := some (4, false) }) rfl (fun K hK => ?_) AllReadyH.nil
        go_simp
        (go_at_call 24; refine (same_seen A_10.out Z_10.out).mono ?_; rintro e w11_ ⟨rfl, g11⟩; have Z_11 := Lib.hid (Z_10.out.grow g11); have A_11 := Lib.hid (A_10.out.grow g11); have T_11 := Lib.hid (T_10.out.grow g11); have Byb_11 := Lib.hid (Byb_10.out.grow g11); have Btb_11 := Lib.hid (Btb_10.out.grow g11); have HM_11 := Lib.hid (HM_10.out.grow g11); have HG_11 := Lib.hid (HG_10.out.trans g11))
        (try go_wp2_with fail)
        refine hK.out _ _ ?hS36 (fun hHeld => ?_)
        case hS36 => (try dsimp only); exact keep_h9 g11 (by assumption)
        clear hK K
        (try simp only [Act.put, List.setIfInBounds_toArray, List.set_cons_zero, List.set_cons_succ])
        refine wpAnyH_take (i := 10) (oi := { dst := some 88, op := Go.Op.pick (Go.Operand.tmp 82) (Go.Operand.const (Go.Value.bool true)) (Go.Operand.tmp 87), type := 4, pos := _, after := #[{ on := 4, ground := Go.Ground.data }, { on := 9, ground := Go.Ground.data }, { on := 1, ground := Go.Ground.guard }], guard := some (1, true) }) (v := ?v37) rfl (by kernel_rfl) (by kernel_rfl) (by kernel_rfl) (fun _ _ _ h => h) (Or.inl ⟨by kernel_rfl, ?hy37⟩) (by assumption) ?_
        case hy37 => intro w hSw; (try dsimp only at hSw); first | (go_simp; done) | (go_simp; with_reducible rfl)
        (try simp only [Act.put, List.setIfInBounds_toArray, List.set_cons_zero, List.set_cons_succ])
        refine wpAnyH_take (i := 11) (oi := { dst := some 89, op := Go.Op.pick (Go.Operand.tmp 79) (Go.Operand.tmp 88) (Go.Operand.const (Go.Value.bool false)), type := 4, pos := _, after := #[{ on := 1, ground := Go.Ground.data }, { on := 10, ground := Go.Ground.data }], guard := none }) (v := ?v38) rfl (by kernel_rfl) (by kernel_rfl) (by kernel_rfl) (fun _ _ _ h => h) (Or.inl ⟨by kernel_rfl, ?hy38⟩) (by assumption) ?_
        case hy38 => intro w hSw; (try dsimp only at hSw); first | (go_simp; done) | (go_simp; with_reducible rfl)
        (try simp only [Act.put, List.setIfInBounds_toArray, List.set_cons_zero, List.set_cons_succ])
        refine wpAnyH_take (i := 12) (oi := { dst := some 90, op := Go.Op.move (Go.Operand.tmp 89), type := 4, pos := _, after := #[{ on := 11, ground := Go.Ground.data }, { on := 9, ground := Go.Ground.chain }], guard := none }) (v := ?v39) rfl (by kernel_rfl) (by kernel_rfl) (by kernel_rfl) (fun _ _ _ h => h) (Or.inl ⟨by kernel_rfl, ?hy39⟩) (by assumption) ?_
        case hy39 => intro w hSw; (try dsimp only at hSw); first | (go_simp; done) | (go_simp; with_reducible rfl)
        (try simp only [Act.put, List.setIfInBounds_toArray, List.set_cons_zero, List.set_cons_succ])
        refine wpAnyH_take (i := 13) (oi := { dst := some 91, op := Go.Op.load 29 (Go.Operand.tmp 9), type := 29, pos := _, after := #[{ on := 12, ground := Go.Ground.guard }], guard := some (12, true) }) (v := ?v40) rfl (by kernel_rfl) (by kernel_rfl) (by kernel_rfl) (fun _ _ _ h => h) (Or.inl ⟨by kernel_rfl, ?hy40⟩) (by assumption) ?_
        case hy40 => intro w hSw; (try dsimp only at hSw); first | (go_simp; done) | (go_simp; with_reducible rfl)
        (try simp only [Act.put, List.setIfInBounds_toArray, List.set_cons_zero, List.set_cons_succ])
        refine wpAnyH_take (i := 15) (oi := { dst := some 93, op := Go.Op.load 24 (Go.Operand.tmp 2), type := 24, pos := _, after := #[{ on := 12, ground := Go.Ground.guard }], guard := some (12, true) }) (v := ?v41) rfl (by kernel_rfl) (by kernel_rfl) (by kernel_rfl) (fun _ _ _ h => h) (Or.inl ⟨by kernel_rfl, ?hy41⟩) (by assumption) ?_
        case hy41 => intro w hSw; (try dsimp only at hSw); first | (go_simp; done) | (go_simp; with_reducible rfl)
        (try simp only [Act.put, List.setIfInBounds_toArray, List.set_cons_zero, List.set_cons_succ])
        refine wpAnyH_ready (rs := [14]) (by kernel_rfl) (by simp) ?_
        refine AllReadyH.cons (o := { dst := some 92, op := Go.Op.call { callee := Go.Callee.value (Go.Operand.func 15), args := #[Go.Operand.tmp 91], argTypes := #[29] }, type := 24, pos := _, after := #[{ on := 13, ground := Go.Ground.data }, { on := 12, ground := Go.Ground.chain }, { on := 12, ground := Go.Ground.guard }], guard := some (12, true) }) rfl (fun K hK => ?_) AllReadyH.nil
        go_simp
        (go_at_call 15; refine (back_any _ _ _ _ _ _).mono ?_; rintro e w12_ ⟨rfl, g12⟩; have Z_12 := Lib.hid (Z_11.out.grow g12); have A_12 := Lib.hid (A_11.out.grow g12); have T_12 := Lib.hid (T_11.out.grow g12); have Byb_12 := Lib.hid (Byb_11.out.grow g12); have Btb_12 := Lib.hid (Btb_11.out.grow g12); have HM_12 := Lib.hid (HM_11.out.grow g12); have HG_12 := Lib.hid (HG_11.out.trans g12))
        (try go_wp2_with fail)
        refine hK.out _ _ ?hS43 (fun hHeld => ?_)
        case hS43 => (try dsimp only); exact keep_h9 g12 (by assumption)
        clear hK K
        (try simp only [Act.put, List.setIfInBounds_toArray, List.set_cons_zero, List.set_cons_succ])
        refine wpAnyH_ready (rs := [16]) (by kernel_rfl) (by simp) ?_
        refine AllReadyH.cons (o := { dst := some 94, op := Go.Op.call { callee := Go.Callee.value (Go.Operand.func 26), args := #[Go.Operand.tmp 93], argTypes := #[24] }, type := 24, pos := _, after := #[{ on := 15, ground := Go.Ground.data }, { on := 14, ground := Go.Ground.chain }, { on := 12, ground := Go.Ground.guard }], guard := some (12, true) }) rfl (fun K hK => ?_) AllReadyH.nil
        go_simp
        (go_at_call 26; refine (rturn_all (R := R0) (C := C0) Z_12.out).mono ?_; rintro e w13_ ⟨⟨s9, n9, c9, rfl, hs⟩, g13⟩; rw [turnA_yes HR.out, turnA_yes HR.out]; have U := Lib.hid hs; have Z_13 := Lib.hid (Z_12.out.grow g13); have A_13 := Lib.hid (A_12.out.grow g13); have T_13 := Lib.hid (T_12.out.grow g13); have Byb_13 := Lib.hid (Byb_12.out.grow g13); have Btb_13 := Lib.hid (Btb_12.out.grow g13); have HM_13 := Lib.hid (HM_12.out.grow g13); have HG_13 := Lib.hid (HG_12.out.trans g13); clear hs)
        (try go_wp2_with fail)
        refine hK.out _ _ ?hS45 (fun hHeld => ?_)
        case hS45 => (try dsimp only); exact keep_h9 g13 (by assumption)
        clear hK K
        (try simp only [Act.put, List.setIfInBounds_toArray, List.set_cons_zero, List.set_cons_succ])
        refine wpAnyH_ready (rs := [17]) (by kernel_rfl) (by simp) ?_
        refine AllReadyH.cons (o := { dst := some 95, op := Go.Op.call { callee := Go.Callee.value (Go.Operand.func 14), args := #[Go.Operand.tmp 92, Go.Operand.tmp 94], argTypes := #[24, 24] }, type := 4, pos := _, after := #[{ on := 14, ground := Go.Ground.data }, { on := 16, ground := Go.Ground.data }, { on := 16, ground := Go.Ground.chain }, { on := 12, ground := Go.Ground.guard }], guard := some (12, true) }) rfl (fun K hK => ?_) AllReadyH.nil
        go_simp
        (go_at_call 14; refine (msame_seen T_13.out U.out).mono ?_; rintro e w14_ ⟨rfl, g14⟩; have Z_14 := Lib.hid (Z_13.out.grow g14); have A_14 := Lib.hid (A_13.out.grow g14); have T_14 := Lib.hid (T_13.out.grow g14); have U_14 := Lib.hid (U.out.grow g14); have Byb_14 := Lib.hid (Byb_13.out.grow g14); have Btb_14 := Lib.hid (Btb_13.out.grow g14); have HM_14 := Lib.hid (HM_13.out.grow g14); have HG_14 := Lib.hid (HG_13.out.trans g14))
        (try go_wp2_with fail)
        refine hK.out _ _ ?hS47 (fun hHeld => ?_)
        case hS47 => (try dsimp only); exact keep_h9 g14 (by assumption)
        clear hK K
        (try simp only [Act.put, List.setIfInBounds_toArray, List.set_cons_zero, List.set_cons_succ])
        refine wpAnyH_take (i := 18) (oi := { dst := some 96, op := Go.Op.pick (Go.Operand.tmp 90) (Go.Operand.tmp 95) (Go.Operand.const (Go.Value.bool false)), type := 4, pos := _, after := #[{ on := 12, ground := Go.Ground.data }, { on := 17, ground := Go.Ground.data }], guard := none }) (v := ?v48) rfl (by kernel_rfl) (by kernel_rfl) (by kernel_rfl) (fun _ _ _ h => h) (Or.inl ⟨by kernel_rfl, ?hy48⟩) (by assumption) ?_
        case hy48 => intro w hSw; (try dsimp only at hSw); first | (go_simp; done) | (go_simp; with_reducible rfl)
        (try simp only [Act.put, List.setIfInBounds_toArray, List.set_cons_zero, List.set_cons_succ])
        refine wpAnyH_take (i := 19) (oi := { dst := some 4, op := Go.Op.assign (Go.Operand.tmp 96), type := 4, pos := _, after := #[{ on := 18, ground := Go.Ground.data }, { on := 17, ground := Go.Ground.chain }, { on := 0, ground := Go.Ground.phase }, { on := 1, ground := Go.Ground.phase }, { on := 2, ground := Go.Ground.phase }, { on := 3, ground := Go.Ground.phase }, { on := 4, ground := Go.Ground.phase }, { on := 5, ground := Go.Ground.phase }, { on := 6, ground := Go.Ground.phase }, { on := 7, ground := Go.Ground.phase }, { on := 8, ground := Go.Ground.phase }, { on := 9, ground := Go.Ground.phase }, { on := 10, ground := Go.Ground.phase }, { on := 11, ground := Go.Ground.phase }, { on := 12, ground := Go.Ground.phase }, { on := 13, ground := Go.Ground.phase }, { on := 14, ground := Go.Ground.phase }, { on := 15, ground := Go.Ground.phase }, { on := 16, ground := Go.Ground.phase }, { on := 17, ground := Go.Ground.phase }, { on := 18, ground := Go.Ground.phase }], guard := none }) (v := ?v49) rfl (by kernel_rfl) (by kernel_rfl) (by kernel_rfl) (fun _ _ _ h => h) (Or.inl ⟨by kernel_rfl, ?hy49⟩) (by assumption) ?_
        case hy49 => intro w hSw; (try dsimp only at hSw); first | (go_simp; done) | (go_simp; with_reducible rfl)
        (try simp only [Act.put, List.setIfInBounds_toArray, List.set_cons_zero, List.set_cons_succ])
        refine wpAnyH_done (by kernel_rfl) ?_ _
        clear hHeld
        have m0_14 := HM_14.out.c0
        have m1_14 := HM_14.out.c1
        have m2_14 := HM_14.out.c2
        have hl_14 := HM_14.out.lt
        have b0yb_14 := Byb_14.out.c0
        have b1yb_14 := Byb_14.out.c1
        have b2yb_14 := Byb_14.out.c2
        have blyb_14 := Byb_14.out.lt
        have b0tb_14 := Btb_14.out.c0
        have b1tb_14 := Btb_14.out.c1
        have b2tb_14 := Btb_14.out.c2
        have bltb_14 := Btb_14.out.lt
        go_wp2
        go_ret
        exact ⟨rfl, HG_14.out⟩

set_option maxRecDepth 100000 in
set_option maxHeartbeats 4000000 in
theorem walk (R0 C0 : Int) (a0 : Option Addr) (len0 cap0 : Nat) (zs0 : List Int) (a1 : Option Addr) (len1 cap1 : Nat) (zs1 : List Int) (w : World) (w0 : CameM w R0 C0 a0 len0 cap0 zs0) (w1 : CameK .i64 w a1 len1 cap1 zs1) :
    Calls Try.prog 7 #[.agg #[.int .i64 R0, .int .i64 C0, .slice a0 len0 cap0], .slice a1 len1 cap1] w fun e w' => e = .returned (.bool true) ∧ Below w.heap.size w w' := by
  obtain ⟨wR0, wC0, hl0, hlc0, hcm0, hrd0, hnn0, hf0⟩ := w0

  obtain ⟨hl1, hlc1, hr1, hrd1, hnn1, hwf1⟩ := w1
  have hf1 : Fit zs1 := fun j hj => in64_wf (hwf1 j hj)
  have hcm1 : cap1 ≤ 9223372036854775807 := by omega
  clear hwf1

  have HG0 : Hid (Grew w (w.alloc (.cells #[.int .i64 R0, .int .i64 C0, .slice a0 len0 cap0] 24))) := Lib.hid ((Grew.refl w).alloc _)
  have HM0 := Lib.hid (Three.new w 24 (.int .i64 R0) (.int .i64 C0) (.slice a0 len0 cap0))

  by_cases hA : 600 < len0
  · skip
    go_enter Try.func7, Try.ntmps7
    go_wp2_with fail
    refine (few_any R0 C0 a0 len0 cap0 _).mono ?_
    rintro e w1_ ⟨rfl, g1⟩
    have HG_1 := Lib.hid (HG0.out.trans g1)
    have HM_1 := Lib.hid (HM0.out.grow g1)
    have m0_1 := HM_1.out.c0
    have m1_1 := HM_1.out.c1
    have m2_1 := HM_1.out.c2
    have hl_1 := HM_1.out.lt
    clear g1
    rw [decide_eq_false (by omega)]
    go_wp2_with fail
    refine (malive_any _).mono ?_
    rintro e w2_ ⟨rfl, g2⟩
    have HG_2 := Lib.hid (HG_1.out.trans g2)
    have HM_2 := Lib.hid (HM_1.out.grow g2)
    clear m0_1 m1_1 m2_1 hl_1
    have m0_2 := HM_2.out.c0
    have m1_2 := HM_2.out.c1
    have m2_2 := HM_2.out.c2
    have hl_2 := HM_2.out.lt
    clear g2
    go_wp2
    go_ret
    exact ⟨rfl, HG_2.out⟩

  by_cases hA1 : 600 < len1
  · skip
    go_enter Try.func7, Try.ntmps7
    go_wp2_with fail
    refine (few_any R0 C0 a0 len0 cap0 _).mono ?_
    rintro e w1_ ⟨rfl, g1⟩
    have HG_1 := Lib.hid (HG0.out.trans g1)
    have HM_1 := Lib.hid (HM0.out.grow g1)
    have m0_1 := HM_1.out.c0
    have m1_1 := HM_1.out.c1
    have m2_1 := HM_1.out.c2
    have hl_1 := HM_1.out.lt
    clear g1
    rw [decide_eq_true (by omega)]
    go_wp2_with fail
    refine (malive_any _).mono ?_
    rintro e w2_ ⟨rfl, g2⟩
    have HG_2 := Lib.hid (HG_1.out.trans g2)
    have HM_2 := Lib.hid (HM_1.out.grow g2)
    clear m0_1 m1_1 m2_1 hl_1
    have m0_2 := HM_2.out.c0
    have m1_2 := HM_2.out.c1
    have m2_2 := HM_2.out.c2
    have hl_2 := HM_2.out.lt
    clear g2
    go_wp2
    go_ret
    exact ⟨rfl, HG_2.out⟩

  · skip

    have HZ0 : Hid (Seen w a0 len0 cap0 zs0) := Lib.hid ⟨hl0, hlc0, hcm0, by omega, hrd0, hf0⟩
    clear hl0 hrd0 hf0

    have HZ1 : Hid (Seen w a1 len1 cap1 zs1) := Lib.hid ⟨hl1, hlc1, hcm1, by omega, hrd1, hf1⟩
    clear hl1 hrd1 hf1

    cases hR : rightB R0 C0 len0 with
    | false => exact way_false R0 C0 a0 len0 cap0 zs0 a1 len1 cap1 zs1 w hA hA1 HZ0.out hnn0 HZ1.out hnn1 hR
    | true => exact way_true R0 C0 a0 len0 cap0 zs0 a1 len1 cap1 zs1 w hA hA1 HZ0.out hnn0 HZ1.out hnn1 hR

set_option maxRecDepth 100000 in
theorem lifted (os : Os) (started : os.Started) (H : Type) (enc : TypeId × Value → H) :
    ReturnsInHanded {} Try.checked os 7 .any (Rows.matKeepsSpec.pre6 enc Try.prog Try.f7 Rows.matKeepsRow.domain false) (Rows.matKeepsSpec.post enc Try.prog Try.f7 false true false false) := by
  refine returnsInHanded_of_change_sized (C := Try.checked) own started (by kernel_rfl) Try.func7
    (ChangeSpec.witness6 (enc := enc) (C := Try.checked) false ⟨#[], #[.agg #[.int .i64 0, .int .i64 0, .slice none 0 0], .slice none 0 0], []⟩ 8 (by kernel_rfl) (by kernel_rfl) (by kernel_rfl) (by kernel_rfl)) ?_
  intro W base args ds gs before hval0 hW hcnd hsz0 _
  have hsz : (DataW.weightsEach Try.prog (Try.f7.params.toList ++ Rows.matKeepsSpec.plain.varTypes Try.prog) (ds ++ gs)).all (· ≤ reachBytes) = true := hsz0
  have hval : ∀ (j : Nat) t v, Try.f7.params[j]? = some t → args[j]? = some v → Value.okWide Try.prog W .any base t v := hval0
  have hW' := hW
  obtain ⟨p, q, hA0, hV, rfl, hfz, hnd⟩ := hW
  have hA : DataW.TrodAll enc Try.prog W 0 (fun _ => true) true Try.f7.params.toList args.toList ds p := hA0
  rw [Try.params7] at hA hval hsz
  obtain ⟨v0, vs0, d0, ds0, p0, q0, hargs, rfl, rfl, h0, r0⟩ := trodAll_cons hA
  obtain ⟨v1, vs1, d1, ds1, p1, q1, rfl, rfl, rfl, h1, r1⟩ := trodAll_cons r0
  obtain ⟨rfl, rfl, rfl⟩ := trodAll_nil r1
  obtain rfl : args = #[v0, v1] := by cases args; simp_all
  obtain ⟨rfl, rfl⟩ := trodVars_none hV
  have k0 := h0
  have lt0 : ∀ x ∈ p0, x.block < W.heap.size := by obtain ⟨m, hm⟩ := k0; exact DataW.trod_lt m _ _ _ hm
  obtain ⟨c00, c10, c20, y00, y10, y20, m0, rfl, rfl, rfl, hy00, hy10, hy20⟩ := Joins.open_agg3 Try.underlying24 (by kernel_rfl) (by kernel_rfl) (hval 0 24 v0 rfl rfl) h0
  obtain ⟨R0, e00, rfl, wR0⟩ := DataW.trod_int Try.underlying3 hy00
  obtain ⟨C0, e10, rfl, wC0⟩ := DataW.trod_int Try.underlying3 hy10
  simp at e00 e10
  subst e00 e10
  obtain ⟨a0, len0, cap0, zs0, rfl, w0⟩ : ∃ a l c us, c20 = .slice a l c ∧ CameM W R0 C0 a l c us := by
    rcases open_ints Try.underlying22 Try.underlying2 (by kernel_rfl) hy20 with ⟨hcs, _⟩ | ⟨x, l, c, zs, hcs, _, hl, hm, hz, hx, hcell, hwz⟩
    · simp at hcs
      subst hcs
      exact ⟨none, 0, 0, [], rfl, cameM_none wR0 wC0⟩
    · simp at hcs
      subst hcs
      simp only [if_true] at hz
      exact ⟨some x, l, c, _, rfl, cameM_some wR0 wC0 hl hm hz hcell hwz⟩
  have k1 := h1
  have lt1 : ∀ x ∈ p1, x.block < W.heap.size := by obtain ⟨m, hm⟩ := k1; exact DataW.trod_lt m _ _ _ hm
  obtain ⟨a1, len1, cap1, rfl⟩ := okWide_slice Try.underlying22 (hval 1 22 v1 rfl rfl)
  obtain ⟨zs1, w1⟩ : ∃ us, CameK .i64 W a1 len1 cap1 us := by
    obtain ⟨fuel, hf⟩ := h1
    rcases open_ints Try.underlying22 Try.underlying2 (by kernel_rfl) hf with ⟨hcs, _⟩ | ⟨x, l, c, zs, hcs, _, hl, hm, hz, hx, hcell, hwz⟩
    · simp [Value.cells] at hcs
      obtain ⟨rfl, rfl, rfl⟩ := hcs
      exact ⟨[], cameK_none _ W⟩
    · simp [Value.cells] at hcs
      obtain ⟨rfl, rfl, rfl⟩ := hcs
      simp only [if_true] at hz
      have hd := congrArg Prod.fst hx
      have hreach : cap1 * 8 ≤ 140737488351232 := by
        have hs := sized_slice hsz (j := 1) (t := 22) (e := 2) rfl (congrArg some hd) Try.underlying22
        rw [show Try.prog.bytesOf 2 = 8 from by kernel_rfl] at hs
        simp only [lits, List.length_map, List.length_take, List.length_drop, reachBytes] at hs
        omega
      exact ⟨_, cameK_some hl hreach hz hcell hwz⟩
  clear hA0 hval0 hsz hsz0
  refine (walk R0 C0 a0 len0 cap0 zs0 a1 len1 cap1 zs1 W w0 w1).mono fun e W' ⟨he, bel⟩ => ?_
  subst he
  exact ⟨_, rfl, _, _, _, [], _, [], hW', trodAll_mk1 (shut_bool Try.underlying4 _), (trodAll_cons_mk (Below.trod laidOut (by kernel_rfl) (of_decide_eq_true (by kernel_rfl)) k0 bel lt0) (trodAll_cons_mk (Below.trod laidOut (by kernel_rfl) (of_decide_eq_true (by kernel_rfl)) k1 bel lt1) trodAll_mk0)), rfl, bel.frame _, fun h => by cases h⟩

theorem over : Rows.matKeepsRow.holds Try.pinned (OpenSpec.ofChange Rows.matKeepsSpec) :=
  OpenClaim.holds_of_wide 7 Try.f7 rfl rfl rfl rfl rfl rfl rfl ⟨rfl, rfl, rfl, rfl, rfl⟩ rfl rfl rfl rfl rfl (by kernel_rfl) Try.func7 (by kernel_rfl)
    (of_decide_eq_true (by kernel_rfl)) (by unfold Func.isWrapper; first | (rw [if_pos (by decide +kernel)]; kernel_rfl) | (rw [if_neg (by decide +kernel)]; exact ⟨rfl, rfl⟩))
    (fun os started H enc _ => lifted os started H enc)

theorem proved : Rows.MatKeepsSaid := over
end Go.Proofs.Ytklledigcabllaa.matKeeps
