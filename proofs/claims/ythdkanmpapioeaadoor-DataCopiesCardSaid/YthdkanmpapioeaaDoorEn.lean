/- SameAll and Clone of the reference, Clone of package data. Condition: at most 100 examples, each list of at most 1000 numbers. -/
import Derived.Test.YthdkanmpapioeaaDoorEd
import Derived.Test.YthdkanmpapioeaaDoorOe
import Derived.Deep.AppendLies
import Derived.OrdersHeld
import Derived.Deep.RegionHeld
import Derived.Maps.AppendAt
namespace Go.Proofs.YthdkanmpapioeaaDoor
open Go.RowKit
attribute [local go_sem] Oper.semAt_some

theorem kc1 {W W' : World} {r : Option Nat} {a : Addr} {x : Value} (hg : W.grownBy W' r) (h : W.cell? a = some x) (hne : some a.block ≠ r) : W'.cell? a = some x := (hg.cell_far a (World.block_lt_of_cell? W a h) hne).trans h
theorem kcs2 {V W W' : World} {a b : Addr} {x y : Value} (k : Grew W W') (h : Grew V W ∧ W.cell? a = some x ∧ W.cell? b = some y) : Grew V W' ∧ W'.cell? a = some x ∧ W'.cell? b = some y :=
  ⟨h.1.trans k, kc1 (k.by' none) h.2.1 (fun e => by cases e), kc1 (k.by' none) h.2.2 (fun e => by cases e)⟩
theorem kcs4 {V W W' : World} {a b c d : Addr} {x y z u : Value} (k : Grew W W') (h : Grew V W ∧ W.cell? a = some x ∧ W.cell? b = some y ∧ W.cell? c = some z ∧ W.cell? d = some u) : Grew V W' ∧ W'.cell? a = some x ∧ W'.cell? b = some y ∧ W'.cell? c = some z ∧ W'.cell? d = some u :=
  ⟨h.1.trans k, kc1 (k.by' none) h.2.1 (fun e => by cases e), kc1 (k.by' none) h.2.2.1 (fun e => by cases e), kc1 (k.by' none) h.2.2.2.1 (fun e => by cases e), kc1 (k.by' none) h.2.2.2.2 (fun e => by cases e)⟩

set_option maxRecDepth 100000 in
set_option maxHeartbeats 4000000 in
theorem rsameAll_any {n m : Nat} (a a' : Option Addr) (c c' : Nat) (xs ys : List Ex) (w : World) (hn : xs.length = n) (hm : ys.length = m) (hx : SmE xs) (hy : SmE ys) (rx : RdE w.heap.size w a xs) (ry : RdE w.heap.size w a' ys) :
    Calls Tryd.prog 21 #[.slice a n c, .slice a' m c'] w fun e w' => e = .returned (.bool (decide (xs = ys))) ∧ Grew w w' := by
  have hn1 := hx.1
  have hm1 := hy.1
  rw [hn] at hn1
  rw [hm] at hm1
  have HN := Lib.hid hn
  have HM := Lib.hid hm
  have HSX := Lib.hid hx
  have HSY := Lib.hid hy
  have HX := Lib.hid rx
  have HY := Lib.hid ry
  clear hn hm hx hy rx ry
  by_cases hlen : n = m
  · subst hlen
    go_enter Tryd.func21, Tryd.ntmps21
    go_wp2
    go_loopw [5] (fun i wr => ∃ k : Nat, k ≤ n ∧ i = .int .i64 k ∧ Hid (Grew w wr) ∧ Hid (∀ j, j < k → ex xs j = ex ys j)) (fun i _ => n - (intOf i).toNat)
    case atStart => exact ⟨0, Nat.zero_le _, rfl, Lib.hid (Grew.refl _), Lib.hid (fun j hj => by omega)⟩
    case round =>
      obtain ⟨k, hk, rfl, HG, HE⟩ := hrel
      by_cases hlt : k < n
      · obtain ⟨b, off, xa, xc, ya, yc, rfl, hb, c0, c1, r1, r2, _⟩ := (HX.out.grow HG.out).at (k := k) (by rw [HN.out]; exact hlt)
        obtain ⟨b', off', za, zc, va, vc, rfl, hb', d0, d1, r3, r4, _⟩ := (HY.out.grow HG.out).at (k := k) (by rw [HM.out]; exact hlt)
        obtain ⟨s1, s2⟩ := HSX.out.2 k (by rw [HN.out]; exact hlt)
        obtain ⟨s3, s4⟩ := HSY.out.2 k (by rw [HM.out]; exact hlt)
        have R1 := Lib.hid r1
        have R2 := Lib.hid r2
        have R3 := Lib.hid r3
        have R4 := Lib.hid r4
        have HS := Lib.hid (fun W' (g : Grew wr W') => rsameE_any (ex xs k) (ex ys k) xa ya za va xc yc zc vc W' (Nat.le_trans s1 (by decide)) (Nat.le_trans s2 (by decide)) (Nat.le_trans s3 (by decide)) (Nat.le_trans s4 (by decide)) (r1.grow g) (r2.grow g) (r3.grow g) (r4.grow g))
        clear r1 r2 r3 r4
        by_cases he : ex xs k = ex ys k
        · have HE2 : Hid (∀ j, j < k + 1 → ex xs j = ex ys j) := Lib.hid (fun j hj => by
            by_cases e : j = k
            · subst e; exact he
            · exact HE.out j (by omega))
          have HD : Hid (decide (ex xs k = ex ys k) = true) := Lib.hid (decide_eq_true he)
          clear he
          unfold lx at c0 d0
          unfold ly at c1 d1
          go_wp2_with fail
          refine wp_region_held_drew (S := (fun W' => Grew wr W' ∧ W'.cell? ⟨b, off + k * 2, none⟩ = some (.slice xa (ex xs k).1.length xc) ∧ W'.cell? ⟨b, off + k * 2 + 1, none⟩ = some (.slice ya (ex xs k).2.length yc) ∧ W'.cell? ⟨b', off' + k * 2, none⟩ = some (.slice za (ex ys k).1.length zc) ∧ W'.cell? ⟨b', off' + k * 2 + 1, none⟩ = some (.slice va (ex ys k).2.length vc))) (by kernel_rfl) ⟨Grew.drew' (Grew.refl _), c0, c1, d0, d1⟩ (fun hHeld => ?_)
          refine wpAnyH_take (i := 0) (oi := { dst := some 17, op := Go.Op.move (Go.Operand.tmp 0), type := 26, pos := _, after := #[], guard := none }) (v := ?v1) rfl (by kernel_rfl) (by kernel_rfl) (by kernel_rfl) (fun _ _ _ h => h) (Or.inl ⟨by kernel_rfl, ?hy1⟩) (by assumption) ?_
          case hy1 => intro w hSw; (try dsimp only at hSw); first | (go_simp; done) | (go_simp; with_reducible rfl)
          (try simp only [Act.put, List.setIfInBounds_toArray, List.set_cons_zero, List.set_cons_succ])
          refine wpAnyH_take (i := 1) (oi := { dst := some 18, op := Go.Op.move (Go.Operand.tmp 5), type := 3, pos := _, after := #[], guard := none }) (v := ?v2) rfl (by kernel_rfl) (by kernel_rfl) (by kernel_rfl) (fun _ _ _ h => h) (Or.inl ⟨by kernel_rfl, ?hy2⟩) (by assumption) ?_
          case hy2 => intro w hSw; (try dsimp only at hSw); first | (go_simp; done) | (go_simp; with_reducible rfl)
          (try simp only [Act.put, List.setIfInBounds_toArray, List.set_cons_zero, List.set_cons_succ])
          refine wpAnyH_take (i := 2) (oi := { dst := some 19, op := Go.Op.indexAddr 26 (Go.Operand.tmp 17) (Go.Operand.tmp 18), type := 0, pos := _, after := #[{ on := 0, ground := Go.Ground.data }, { on := 1, ground := Go.Ground.data }], guard := none }) (v := ?v3) rfl (by kernel_rfl) (by kernel_rfl) (by kernel_rfl) (fun _ _ _ h => h) (Or.inl ⟨by kernel_rfl, ?hy3⟩) (by assumption) ?_
          case hy3 => intro w hSw; (try dsimp only at hSw); first | (go_simp; done) | (go_simp; with_reducible rfl)
          (try simp only [Act.put, List.setIfInBounds_toArray, List.set_cons_zero, List.set_cons_succ])
          refine wpAnyH_take (i := 3) (oi := { dst := some 20, op := Go.Op.load 24 (Go.Operand.tmp 19), type := 24, pos := _, after := #[{ on := 2, ground := Go.Ground.data }], guard := none }) (v := ?v4) rfl (by kernel_rfl) (by kernel_rfl) (by kernel_rfl) (fun _ _ _ h => h) (Or.inl ⟨by kernel_rfl, ?hy4⟩) (by assumption) ?_
          case hy4 => intro w hSw; (try dsimp only at hSw); first | (go_simp; done) | (go_simp; with_reducible rfl)
          (try simp only [Act.put, List.setIfInBounds_toArray, List.set_cons_zero, List.set_cons_succ])
          refine wpAnyH_take (i := 4) (oi := { dst := some 21, op := Go.Op.move (Go.Operand.tmp 1), type := 26, pos := _, after := #[], guard := none }) (v := ?v5) rfl (by kernel_rfl) (by kernel_rfl) (by kernel_rfl) (fun _ _ _ h => h) (Or.inl ⟨by kernel_rfl, ?hy5⟩) (by assumption) ?_
          case hy5 => intro w hSw; (try dsimp only at hSw); first | (go_simp; done) | (go_simp; with_reducible rfl)
          (try simp only [Act.put, List.setIfInBounds_toArray, List.set_cons_zero, List.set_cons_succ])
          refine wpAnyH_take (i := 5) (oi := { dst := some 22, op := Go.Op.move (Go.Operand.tmp 5), type := 3, pos := _, after := #[], guard := none }) (v := ?v6) rfl (by kernel_rfl) (by kernel_rfl) (by kernel_rfl) (fun _ _ _ h => h) (Or.inl ⟨by kernel_rfl, ?hy6⟩) (by assumption) ?_
          case hy6 => intro w hSw; (try dsimp only at hSw); first | (go_simp; done) | (go_simp; with_reducible rfl)
          (try simp only [Act.put, List.setIfInBounds_toArray, List.set_cons_zero, List.set_cons_succ])
          refine wpAnyH_take (i := 6) (oi := { dst := some 23, op := Go.Op.indexAddr 26 (Go.Operand.tmp 21) (Go.Operand.tmp 22), type := 0, pos := _, after := #[{ on := 4, ground := Go.Ground.data }, { on := 5, ground := Go.Ground.data }], guard := none }) (v := ?v7) rfl (by kernel_rfl) (by kernel_rfl) (by kernel_rfl) (fun _ _ _ h => h) (Or.inl ⟨by kernel_rfl, ?hy7⟩) (by assumption) ?_
          case hy7 => intro w hSw; (try dsimp only at hSw); first | (go_simp; done) | (go_simp; with_reducible rfl)
          (try simp only [Act.put, List.setIfInBounds_toArray, List.set_cons_zero, List.set_cons_succ])
          refine wpAnyH_take (i := 7) (oi := { dst := some 24, op := Go.Op.load 24 (Go.Operand.tmp 23), type := 24, pos := _, after := #[{ on := 6, ground := Go.Ground.data }], guard := none }) (v := ?v8) rfl (by kernel_rfl) (by kernel_rfl) (by kernel_rfl) (fun _ _ _ h => h) (Or.inl ⟨by kernel_rfl, ?hy8⟩) (by assumption) ?_
          case hy8 => intro w hSw; (try dsimp only at hSw); first | (go_simp; done) | (go_simp; with_reducible rfl)
          (try simp only [Act.put, List.setIfInBounds_toArray, List.set_cons_zero, List.set_cons_succ])
          refine wpAnyH_ready (rs := [8]) (by kernel_rfl) (by simp) ?_
          refine AllReadyH.cons (o := { dst := some 25, op := Go.Op.call { callee := Go.Callee.value (Go.Operand.func 14), args := #[Go.Operand.tmp 20, Go.Operand.tmp 24], argTypes := #[24, 24] }, type := 4, pos := _, after := #[{ on := 3, ground := Go.Ground.data }, { on := 7, ground := Go.Ground.data }], guard := none }) rfl (fun K hK => ?_) AllReadyH.nil
          go_simp
          (go_at_call 14; refine (HS.out _ (Grew.drew' (Grew.refl wr))).mono ?_; rintro u w5 ⟨rfl, g5⟩; have HG5 := Lib.hid (HG.out.trans ((Grew.drew' (Grew.refl wr)).trans g5)))
          (try go_wp2_with fail)
          refine hK.out _ _ ?hS10 (fun hHeld => ?_)
          case hS10 => (try dsimp only); exact kcs4 g5 (by assumption)
          clear hK K
          (try simp only [Act.put, List.setIfInBounds_toArray, List.set_cons_zero, List.set_cons_succ])
          refine wpAnyH_take (i := 9) (oi := { dst := some 26, op := Go.Op.unOp Go.UnOp.not 4 (Go.Operand.tmp 25), type := 4, pos := _, after := #[{ on := 8, ground := Go.Ground.data }], guard := none }) (v := ?v11) rfl (by kernel_rfl) (by kernel_rfl) (by kernel_rfl) (fun _ _ _ h => h) (Or.inl ⟨by kernel_rfl, ?hy11⟩) (by assumption) ?_
          case hy11 => intro w hSw; (try dsimp only at hSw); first | (go_simp; done) | (go_simp; with_reducible rfl)
          (try simp only [Act.put, List.setIfInBounds_toArray, List.set_cons_zero, List.set_cons_succ])
          refine wpAnyH_done (by kernel_rfl) ?_ _
          rw [HD.out]
          go_wp2
          go_roundw
          case rel => exact ⟨k + 1, by omega, by go_num, HG5, HE2⟩
          case measure => simp [intOf]; omega
        · have HF : Hid (decide (xs = ys) = false) := Lib.hid (decide_eq_false (fun e => he (by rw [e])))
          have HD : Hid (decide (ex xs k = ex ys k) = false) := Lib.hid (decide_eq_false he)
          clear he
          unfold lx at c0 d0
          unfold ly at c1 d1
          go_wp2_with fail
          refine wp_region_held_drew (S := (fun W' => Grew wr W' ∧ W'.cell? ⟨b, off + k * 2, none⟩ = some (.slice xa (ex xs k).1.length xc) ∧ W'.cell? ⟨b, off + k * 2 + 1, none⟩ = some (.slice ya (ex xs k).2.length yc) ∧ W'.cell? ⟨b', off' + k * 2, none⟩ = some (.slice za (ex ys k).1.length zc) ∧ W'.cell? ⟨b', off' + k * 2 + 1, none⟩ = some (.slice va (ex ys k).2.length vc))) (by kernel_rfl) ⟨Grew.drew' (Grew.refl _), c0, c1, d0, d1⟩ (fun hHeld => ?_)
          refine wpAnyH_take (i := 0) (oi := { dst := some 17, op := Go.Op.move (Go.Operand.tmp 0), type := 26, pos := _, after := #[], guard := none }) (v := ?v12) rfl (by kernel_rfl) (by kernel_rfl) (by kernel_rfl) (fun _ _ _ h => h) (Or.inl ⟨by kernel_rfl, ?hy12⟩) (by assumption) ?_
          case hy12 => intro w hSw; (try dsimp only at hSw); first | (go_simp; done) | (go_simp; with_reducible rfl)
          (try simp only [Act.put, List.setIfInBounds_toArray, List.set_cons_zero, List.set_cons_succ])
          refine wpAnyH_take (i := 1) (oi := { dst := some 18, op := Go.Op.move (Go.Operand.tmp 5), type := 3, pos := _, after := #[], guard := none }) (v := ?v13) rfl (by kernel_rfl) (by kernel_rfl) (by kernel_rfl) (fun _ _ _ h => h) (Or.inl ⟨by kernel_rfl, ?hy13⟩) (by assumption) ?_
          case hy13 => intro w hSw; (try dsimp only at hSw); first | (go_simp; done) | (go_simp; with_reducible rfl)
          (try simp only [Act.put, List.setIfInBounds_toArray, List.set_cons_zero, List.set_cons_succ])
          refine wpAnyH_take (i := 2) (oi := { dst := some 19, op := Go.Op.indexAddr 26 (Go.Operand.tmp 17) (Go.Operand.tmp 18), type := 0, pos := _, after := #[{ on := 0, ground := Go.Ground.data }, { on := 1, ground := Go.Ground.data }], guard := none }) (v := ?v14) rfl (by kernel_rfl) (by kernel_rfl) (by kernel_rfl) (fun _ _ _ h => h) (Or.inl ⟨by kernel_rfl, ?hy14⟩) (by assumption) ?_
          case hy14 => intro w hSw; (try dsimp only at hSw); first | (go_simp; done) | (go_simp; with_reducible rfl)
          (try simp only [Act.put, List.setIfInBounds_toArray, List.set_cons_zero, List.set_cons_succ])
          refine wpAnyH_take (i := 3) (oi := { dst := some 20, op := Go.Op.load 24 (Go.Operand.tmp 19), type := 24, pos := _, after := #[{ on := 2, ground := Go.Ground.data }], guard := none }) (v := ?v15) rfl (by kernel_rfl) (by kernel_rfl) (by kernel_rfl) (fun _ _ _ h => h) (Or.inl ⟨by kernel_rfl, ?hy15⟩) (by assumption) ?_
          case hy15 => intro w hSw; (try dsimp only at hSw); first | (go_simp; done) | (go_simp; with_reducible rfl)
          (try simp only [Act.put, List.setIfInBounds_toArray, List.set_cons_zero, List.set_cons_succ])
          refine wpAnyH_take (i := 4) (oi := { dst := some 21, op := Go.Op.move (Go.Operand.tmp 1), type := 26, pos := _, after := #[], guard := none }) (v := ?v16) rfl (by kernel_rfl) (by kernel_rfl) (by kernel_rfl) (fun _ _ _ h => h) (Or.inl ⟨by kernel_rfl, ?hy16⟩) (by assumption) ?_
          case hy16 => intro w hSw; (try dsimp only at hSw); first | (go_simp; done) | (go_simp; with_reducible rfl)
          (try simp only [Act.put, List.setIfInBounds_toArray, List.set_cons_zero, List.set_cons_succ])
          refine wpAnyH_take (i := 5) (oi := { dst := some 22, op := Go.Op.move (Go.Operand.tmp 5), type := 3, pos := _, after := #[], guard := none }) (v := ?v17) rfl (by kernel_rfl) (by kernel_rfl) (by kernel_rfl) (fun _ _ _ h => h) (Or.inl ⟨by kernel_rfl, ?hy17⟩) (by assumption) ?_
          case hy17 => intro w hSw; (try dsimp only at hSw); first | (go_simp; done) | (go_simp; with_reducible rfl)
          (try simp only [Act.put, List.setIfInBounds_toArray, List.set_cons_zero, List.set_cons_succ])
          refine wpAnyH_take (i := 6) (oi := { dst := some 23, op := Go.Op.indexAddr 26 (Go.Operand.tmp 21) (Go.Operand.tmp 22), type := 0, pos := _, after := #[{ on := 4, ground := Go.Ground.data }, { on := 5, ground := Go.Ground.data }], guard := none }) (v := ?v18) rfl (by kernel_rfl) (by kernel_rfl) (by kernel_rfl) (fun _ _ _ h => h) (Or.inl ⟨by kernel_rfl, ?hy18⟩) (by assumption) ?_
          case hy18 => intro w hSw; (try dsimp only at hSw); first | (go_simp; done) | (go_simp; with_reducible rfl)
          (try simp only [Act.put, List.setIfInBounds_toArray, List.set_cons_zero, List.set_cons_succ])
          refine wpAnyH_take (i := 7) (oi := { dst := some 24, op := Go.Op.load 24 (Go.Operand.tmp 23), type := 24, pos := _, after := #[{ on := 6, ground := Go.Ground.data }], guard := none }) (v := ?v19) rfl (by kernel_rfl) (by kernel_rfl) (by kernel_rfl) (fun _ _ _ h => h) (Or.inl ⟨by kernel_rfl, ?hy19⟩) (by assumption) ?_
          case hy19 => intro w hSw; (try dsimp only at hSw); first | (go_simp; done) | (go_simp; with_reducible rfl)
          (try simp only [Act.put, List.setIfInBounds_toArray, List.set_cons_zero, List.set_cons_succ])
          refine wpAnyH_ready (rs := [8]) (by kernel_rfl) (by simp) ?_
          refine AllReadyH.cons (o := { dst := some 25, op := Go.Op.call { callee := Go.Callee.value (Go.Operand.func 14), args := #[Go.Operand.tmp 20, Go.Operand.tmp 24], argTypes := #[24, 24] }, type := 4, pos := _, after := #[{ on := 3, ground := Go.Ground.data }, { on := 7, ground := Go.Ground.data }], guard := none }) rfl (fun K hK => ?_) AllReadyH.nil
          go_simp
          (go_at_call 14; refine (HS.out _ (Grew.drew' (Grew.refl wr))).mono ?_; rintro u w5 ⟨rfl, g5⟩; have HG5 := Lib.hid (HG.out.trans ((Grew.drew' (Grew.refl wr)).trans g5)))
          (try go_wp2_with fail)
          refine hK.out _ _ ?hS21 (fun hHeld => ?_)
          case hS21 => (try dsimp only); exact kcs4 g5 (by assumption)
          clear hK K
          (try simp only [Act.put, List.setIfInBounds_toArray, List.set_cons_zero, List.set_cons_succ])
          refine wpAnyH_take (i := 9) (oi := { dst := some 26, op := Go.Op.unOp Go.UnOp.not 4 (Go.Operand.tmp 25), type := 4, pos := _, after := #[{ on := 8, ground := Go.Ground.data }], guard := none }) (v := ?v22) rfl (by kernel_rfl) (by kernel_rfl) (by kernel_rfl) (fun _ _ _ h => h) (Or.inl ⟨by kernel_rfl, ?hy22⟩) (by assumption) ?_
          case hy22 => intro w hSw; (try dsimp only at hSw); first | (go_simp; done) | (go_simp; with_reducible rfl)
          (try simp only [Act.put, List.setIfInBounds_toArray, List.set_cons_zero, List.set_cons_succ])
          refine wpAnyH_done (by kernel_rfl) ?_ _
          rw [HD.out]
          go_wp2
          go_ret
          exact ⟨ret_bool HF.out.symm, HG5.out⟩
      · have HF : Hid (xs = ys) := Lib.hid (ex_ext (HN.out.trans HM.out.symm) (fun j hj => HE.out j (by rw [HN.out] at hj; omega)))
        go_wp2
        go_ret
        exact ⟨ret_bool (decide_eq_true HF.out).symm, HG.out⟩
  · have hne : ((n : Int) != (m : Int)) = true := bne_iff_ne.2 (by omega)
    have HF : Hid (decide (xs = ys) = false) := Lib.hid (decide_eq_false (fun e => hlen (by rw [← HN.out, ← HM.out, e])))
    clear hlen
    go_enter Tryd.func21, Tryd.ntmps21
    go_wp2
    go_ret
    exact ⟨ret_bool HF.out.symm, Grew.refl _⟩
end Go.Proofs.YthdkanmpapioeaaDoor
