/-
  For every uint16 n and every uint8 k, sakialaw04.PartSizes(n, k) returns true. No condition.
-/
import Derived.Test.YtfnffpogbkefaaaRows
import Derived.Test.YtfnffpogbkefaaaPf
import Derived.Test.YtfnffpogbkefaaaPh
import Derived.Test.YtfnffpogbkefaaaWf
import Derived.WalkKit
import Derived.ProofKit
import Derived.OpenShut
import Derived.ShutString
import Derived.ChangeOld
import Derived.Below
namespace Go.Proofs.Ytfnffpogbkefaaa.partSizes
open Go.ChangeShapes Go.WideShapes Go.ChangeAt Go.RowKit
open Go.Proofs.Ytfnffpogbkefaaa
set_option linter.unusedVariables false

theorem own : ownKnob Try.prog.godebug = none := by kernel_rfl
theorem laidOut : laidOutB Try.prog = true := by kernel_rfl

set_option maxHeartbeats 2000000 in
theorem walk (a0 : Int) (a1 : Int) (w : World) (w0 : (Lit.int .u16 a0).wf = true) (w1 : (Lit.int .u8 a1).wf = true) :
    Calls Try.prog 7 #[.int .u16 a0, .int .u8 a1] w fun e w' => e = .returned (.bool true) ∧ Below w.heap.size w w' := by
  have h0 := u16_wf w0
  have h1 := u8_in w1
  clear w0 w1
  obtain ⟨A, hA⟩ : ∃ A : Nat, a0 % 500 = A := ⟨(a0 % 500).toNat, by omega⟩
  obtain ⟨B, hB⟩ : ∃ B : Nat, 1 + a1 = B := ⟨(1 + a1).toNat, by omega⟩
  have hA5 : A < 500 := by omega
  have hB0 : 0 < B := by omega
  have hB2 : B ≤ 256 := by omega
  go_enter Try.func7, Try.ntmps7
  go_wp2_with fail
  refine (even_some A B _ (by omega) hB0 (by omega)).mono ?_
  rintro e W1 ⟨rfl, hb1, g1⟩
  have HB1 := Lib.hid hb1
  have HG1 := Lib.hid g1
  clear hb1 g1 h0 h1
  obtain ⟨q, hq⟩ : ∃ q : Nat, A / B = q := ⟨_, rfl⟩
  have hqI : (A : Int) / (B : Int) = (q : Int) := by rw [quo_nat, hq]
  have hq5 : q ≤ 500 := by have := Nat.div_le_self A B; omega
  have HQ := Lib.hid hq
  clear hq
  go_wp2
  go_loopw [25] (fun x wr => ∃ i : Nat, i ≤ B ∧ x = .int .i64 i ∧ Hid (Grew W1 wr)) (fun x _ => B - (intOf x).toNat)
  case atStart => exact ⟨0, Nat.zero_le _, rfl, Lib.hid (Grew.refl _)⟩
  case round =>
    obtain ⟨i, hi, rfl, HG⟩ := hrel
    by_cases hlt : i < B
    · obtain ⟨hc1, hc2, _⟩ := (HB1.out.grow HG.out).at hlt
      rw [evenV_at hlt] at hc1 hc2
      have HO : Hid (∀ x : Int, (stV A B i : Int) ≤ x → x < (stV A B (i + 1) : Nat) → ofV x (evenV A B) = i) := Lib.hid (fun x => ofV_even hlt)
      have hle := stV_le (n := A) (k := B) (i := i + 1) (by omega) hB0
      by_cases hi0 : i = 0
      · subst hi0
        rcases size_cases (i := 0) HQ.out with ⟨hs, hm⟩ | ⟨hs, hm⟩
        · skip
          clear hm
          obtain ⟨lo, hlo⟩ : ∃ x, stV A B 0 = x := ⟨_, rfl⟩
          rw [hlo] at hs hc1 HO
          obtain ⟨hi, hhi⟩ : ∃ x, stV A B (0 + 1) = x := ⟨_, rfl⟩
          rw [hhi] at hs hc2 HO hle
          clear hlo hhi
          have HS : Hid (max (lo : Int) (hi : Int) - lo = (q : Int) + 1) := Lib.hid (by omega)
          have HS2 := Lib.hid hs
          have hlh : (hi : Int) - lo < 9223372036854775808 := by omega
          clear hs
          go_wp2_with fail
          have hr1 : (wr.alloc (.cells #[.int .i64 (lo : Int), .int .i64 (hi : Int)] 39)).cell? ⟨wr.heap.size, 0, none⟩ = some (.int .i64 (lo : Int)) := by unfold World.cell?; rw [(MapKept.heap_alloc wr _).1]; rfl
          have hr2 : (wr.alloc (.cells #[.int .i64 (lo : Int), .int .i64 (hi : Int)] 39)).cell? ⟨wr.heap.size, 1, none⟩ = some (.int .i64 (hi : Int)) := by unfold World.cell?; rw [(MapKept.heap_alloc wr _).1]; rfl
          have hT : (A : Int).tdiv (B : Int) = (q : Int) := by rw [Int.tdiv_eq_ediv_of_nonneg (by omega)]; exact hqI
          have hne1 : (((q : Int) + 1) != (q : Int)) = true := bne_iff_ne.2 (by omega)
          have hBz : ¬ B = 0 := by omega
          have hBz2 : ¬ (B : Int) = 0 := by omega
          have hwq : IntKind.i64.wrap (q : Int) = q := IntWalk.i64_in _ (by omega)
          have hwq1 : IntKind.i64.wrap ((q : Int) + 1) = q + 1 := IntWalk.i64_in _ (by omega)
          have gR : Grew wr (wr.alloc (.cells #[.int .i64 (lo : Int), .int .i64 (hi : Int)] 39)) := (Grew.refl _).alloc _
          have HG0 : Hid (Grew W1 (wr.alloc (.cells #[.int .i64 (lo : Int), .int .i64 (hi : Int)] 39))) := Lib.hid (HG.out.trans gR)
          clear gR hc1 hc2
          generalize wr.alloc (.cells #[.int .i64 (lo : Int), .int .i64 (hi : Int)] 39) = W0 at *
          generalize wr.heap.size = g at hr1 hr2 ⊢
          refine wp_region_held_drew (S := (fun W' => Grew W0 W' ∧ W'.cell? ⟨g, 0, none⟩ = some (.int .i64 (lo : Int)) ∧ W'.cell? ⟨g, 1, none⟩ = some (.int .i64 (hi : Int)))) (by kernel_rfl) ⟨Below.drew (Below.refl _ _), hr1, hr2⟩ (fun hHeld => ?_)
          refine wpAnyH_take (i := 0) (oi := { dst := some 30, op := Go.Op.load 39 (Go.Operand.tmp 9), type := 39, pos := "law.go:89", after := #[], guard := none }) (v := ?v1) rfl (by kernel_rfl) (by kernel_rfl) (by kernel_rfl) (fun _ _ _ h => h) (Or.inl ⟨by rfl, ?hy⟩) (by assumption) ?_
          case hy => intro w hSw; (try dsimp only at hSw); first | (go_simp; done) | (go_simp; with_reducible rfl)
          (try simp only [Act.put, List.setIfInBounds_toArray, List.set_cons_zero, List.set_cons_succ])
          refine wpAnyH_take (i := 2) (oi := { dst := some 32, op := Go.Op.move (Go.Operand.tmp 5), type := 3, pos := "law.go:89", after := #[], guard := none }) (v := ?v2) rfl (by kernel_rfl) (by kernel_rfl) (by kernel_rfl) (fun _ _ _ h => h) (Or.inl ⟨by rfl, ?hy⟩) (by assumption) ?_
          case hy => intro w hSw; (try dsimp only at hSw); first | (go_simp; done) | (go_simp; with_reducible rfl)
          (try simp only [Act.put, List.setIfInBounds_toArray, List.set_cons_zero, List.set_cons_succ])
          refine wpAnyH_take (i := 3) (oi := { dst := some 33, op := Go.Op.move (Go.Operand.tmp 6), type := 3, pos := "law.go:89", after := #[], guard := none }) (v := ?v3) rfl (by kernel_rfl) (by kernel_rfl) (by kernel_rfl) (fun _ _ _ h => h) (Or.inl ⟨by rfl, ?hy⟩) (by assumption) ?_
          case hy => intro w hSw; (try dsimp only at hSw); first | (go_simp; done) | (go_simp; with_reducible rfl)
          (try simp only [Act.put, List.setIfInBounds_toArray, List.set_cons_zero, List.set_cons_succ])
          refine wpAnyH_take (i := 4) (oi := { dst := some 34, op := Go.Op.binOp Go.BinOp.quo 3 (Go.Operand.tmp 32) (Go.Operand.tmp 33) 3, type := 3, pos := "law.go:89", after := #[{ on := 2, ground := Go.Ground.data }, { on := 3, ground := Go.Ground.data }], guard := none }) (v := ?v4) rfl (by kernel_rfl) (by kernel_rfl) (by kernel_rfl) (fun _ _ _ h => h) (Or.inl ⟨by rfl, ?hy⟩) (by assumption) ?_
          case hy => intro w hSw; (try dsimp only at hSw); first | (go_simp; done) | (go_simp; with_reducible rfl)
          (try simp only [Act.put, List.setIfInBounds_toArray, List.set_cons_zero, List.set_cons_succ])
          refine wpAnyH_ready (rs := [1]) (by kernel_rfl) (by simp) ?_
          refine AllReadyH.cons (o := { dst := some 31, op := Go.Op.call { callee := Go.Callee.value (Go.Operand.func 21), args := #[Go.Operand.tmp 30], argTypes := #[39] }, type := 3, pos := "law.go:89", after := #[{ on := 0, ground := Go.Ground.data }], guard := none }) rfl (fun K hK => ?_) AllReadyH.nil
          go_simp
          (go_at_call 21; refine (size_any (lo : Int) (hi : Int) _ (by omega)).mono ?_; rintro e w1 ⟨rfl, g1⟩; rw [HS.out])
          (try go_wp2_with fail)
          refine hK.out _ _ ?hS (fun hHeld => ?_)
          case hS => (try dsimp only); (apply keep_two <;> assumption)
          clear hK K
          (try simp only [Act.put, List.setIfInBounds_toArray, List.set_cons_zero, List.set_cons_succ])
          refine wpAnyH_take (i := 5) (oi := { dst := some 35, op := Go.Op.binOp Go.BinOp.neq 3 (Go.Operand.tmp 31) (Go.Operand.tmp 34) 3, type := 4, pos := "law.go:89", after := #[{ on := 1, ground := Go.Ground.data }, { on := 4, ground := Go.Ground.data }], guard := none }) (v := ?v5) rfl (by kernel_rfl) (by kernel_rfl) (by kernel_rfl) (fun _ _ _ h => h) (Or.inl ⟨by rfl, ?hy⟩) (by assumption) ?_
          case hy => intro w hSw; (try dsimp only at hSw); first | (go_simp; done) | (go_simp; with_reducible rfl)
          (try simp only [Act.put, List.setIfInBounds_toArray, List.set_cons_zero, List.set_cons_succ])
          refine wpAnyH_take (i := 6) (oi := { dst := some 36, op := Go.Op.move (Go.Operand.tmp 35), type := 4, pos := "law.go:89", after := #[{ on := 5, ground := Go.Ground.data }, { on := 1, ground := Go.Ground.chain }], guard := none }) (v := ?v6) rfl (by kernel_rfl) (by kernel_rfl) (by kernel_rfl) (fun _ _ _ h => h) (Or.inl ⟨by rfl, ?hy⟩) (by assumption) ?_
          case hy => intro w hSw; (try dsimp only at hSw); first | (go_simp; done) | (go_simp; with_reducible rfl)
          (try simp only [Act.put, List.setIfInBounds_toArray, List.set_cons_zero, List.set_cons_succ])
          refine wpAnyH_take (i := 7) (oi := { dst := some 37, op := Go.Op.load 39 (Go.Operand.tmp 9), type := 39, pos := "law.go:89", after := #[{ on := 6, ground := Go.Ground.guard }], guard := some (6, true) }) (v := ?v7) rfl (by kernel_rfl) (by kernel_rfl) (by kernel_rfl) (fun _ _ _ h => h) (Or.inl ⟨by rfl, ?hy⟩) (by assumption) ?_
          case hy => intro w hSw; (try dsimp only at hSw); first | (go_simp; done) | (go_simp; with_reducible rfl)
          (try simp only [Act.put, List.setIfInBounds_toArray, List.set_cons_zero, List.set_cons_succ])
          refine wpAnyH_take (i := 9) (oi := { dst := some 39, op := Go.Op.move (Go.Operand.tmp 5), type := 3, pos := "law.go:89", after := #[{ on := 6, ground := Go.Ground.guard }], guard := some (6, true) }) (v := ?v8) rfl (by kernel_rfl) (by kernel_rfl) (by kernel_rfl) (fun _ _ _ h => h) (Or.inl ⟨by rfl, ?hy⟩) (by assumption) ?_
          case hy => intro w hSw; (try dsimp only at hSw); first | (go_simp; done) | (go_simp; with_reducible rfl)
          (try simp only [Act.put, List.setIfInBounds_toArray, List.set_cons_zero, List.set_cons_succ])
          refine wpAnyH_take (i := 10) (oi := { dst := some 40, op := Go.Op.move (Go.Operand.tmp 6), type := 3, pos := "law.go:89", after := #[{ on := 6, ground := Go.Ground.guard }], guard := some (6, true) }) (v := ?v9) rfl (by kernel_rfl) (by kernel_rfl) (by kernel_rfl) (fun _ _ _ h => h) (Or.inl ⟨by rfl, ?hy⟩) (by assumption) ?_
          case hy => intro w hSw; (try dsimp only at hSw); first | (go_simp; done) | (go_simp; with_reducible rfl)
          (try simp only [Act.put, List.setIfInBounds_toArray, List.set_cons_zero, List.set_cons_succ])
          refine wpAnyH_take (i := 11) (oi := { dst := some 41, op := Go.Op.binOp Go.BinOp.quo 3 (Go.Operand.tmp 39) (Go.Operand.tmp 40) 3, type := 3, pos := "law.go:89", after := #[{ on := 9, ground := Go.Ground.data }, { on := 10, ground := Go.Ground.data }, { on := 6, ground := Go.Ground.guard }], guard := some (6, true) }) (v := ?v10) rfl (by kernel_rfl) (by kernel_rfl) (by kernel_rfl) (fun _ _ _ h => h) (Or.inl ⟨by rfl, ?hy⟩) (by assumption) ?_
          case hy => intro w hSw; (try dsimp only at hSw); first | (go_simp; done) | (go_simp; with_reducible rfl)
          (try simp only [Act.put, List.setIfInBounds_toArray, List.set_cons_zero, List.set_cons_succ])
          refine wpAnyH_take (i := 12) (oi := { dst := some 42, op := Go.Op.binOp Go.BinOp.add 3 (Go.Operand.tmp 41) (Go.Operand.const (Go.Value.int Go.IntKind.i64 1)) 3, type := 3, pos := "law.go:89", after := #[{ on := 11, ground := Go.Ground.data }, { on := 6, ground := Go.Ground.guard }], guard := some (6, true) }) (v := ?v11) rfl (by kernel_rfl) (by kernel_rfl) (by kernel_rfl) (fun _ _ _ h => h) (Or.inl ⟨by rfl, ?hy⟩) (by assumption) ?_
          case hy => intro w hSw; (try dsimp only at hSw); first | (go_simp; done) | (go_simp; with_reducible rfl)
          (try simp only [Act.put, List.setIfInBounds_toArray, List.set_cons_zero, List.set_cons_succ])
          refine wpAnyH_ready (rs := [8]) (by kernel_rfl) (by simp) ?_
          refine AllReadyH.cons (o := { dst := some 38, op := Go.Op.call { callee := Go.Callee.value (Go.Operand.func 21), args := #[Go.Operand.tmp 37], argTypes := #[39] }, type := 3, pos := "law.go:89", after := #[{ on := 7, ground := Go.Ground.data }, { on := 6, ground := Go.Ground.chain }, { on := 6, ground := Go.Ground.guard }], guard := some (6, true) }) rfl (fun K hK => ?_) AllReadyH.nil
          go_simp
          (go_at_call 21; refine (size_any (lo : Int) (hi : Int) _ (by omega)).mono ?_; rintro e w1 ⟨rfl, g1⟩; rw [HS.out])
          (try go_wp2_with fail)
          refine hK.out _ _ ?hS (fun hHeld => ?_)
          case hS => (try dsimp only); (apply keep_two <;> assumption)
          clear hK K
          (try simp only [Act.put, List.setIfInBounds_toArray, List.set_cons_zero, List.set_cons_succ])
          refine wpAnyH_take (i := 13) (oi := { dst := some 43, op := Go.Op.binOp Go.BinOp.neq 3 (Go.Operand.tmp 38) (Go.Operand.tmp 42) 3, type := 4, pos := "law.go:89", after := #[{ on := 8, ground := Go.Ground.data }, { on := 12, ground := Go.Ground.data }, { on := 6, ground := Go.Ground.guard }], guard := some (6, true) }) (v := ?v12) rfl (by kernel_rfl) (by kernel_rfl) (by kernel_rfl) (fun _ _ _ h => h) (Or.inl ⟨by rfl, ?hy⟩) (by assumption) ?_
          case hy => intro w hSw; (try dsimp only at hSw); first | (go_simp; done) | (go_simp; with_reducible rfl)
          (try simp only [Act.put, List.setIfInBounds_toArray, List.set_cons_zero, List.set_cons_succ])
          refine wpAnyH_take (i := 14) (oi := { dst := some 44, op := Go.Op.pick (Go.Operand.tmp 36) (Go.Operand.tmp 43) (Go.Operand.const (Go.Value.bool false)), type := 4, pos := "law.go:89", after := #[{ on := 6, ground := Go.Ground.data }, { on := 13, ground := Go.Ground.data }], guard := none }) (v := ?v13) rfl (by kernel_rfl) (by kernel_rfl) (by kernel_rfl) (fun _ _ _ h => h) (Or.inl ⟨by rfl, ?hy⟩) (by assumption) ?_
          case hy => intro w hSw; (try dsimp only at hSw); first | (go_simp; done) | (go_simp; with_reducible rfl)
          (try simp only [Act.put, List.setIfInBounds_toArray, List.set_cons_zero, List.set_cons_succ])
          refine wpAnyH_take (i := 15) (oi := { dst := some 45, op := Go.Op.move (Go.Operand.tmp 44), type := 4, pos := "law.go:89", after := #[{ on := 14, ground := Go.Ground.data }, { on := 8, ground := Go.Ground.chain }], guard := none }) (v := ?v14) rfl (by kernel_rfl) (by kernel_rfl) (by kernel_rfl) (fun _ _ _ h => h) (Or.inl ⟨by rfl, ?hy⟩) (by assumption) ?_
          case hy => intro w hSw; (try dsimp only at hSw); first | (go_simp; done) | (go_simp; with_reducible rfl)
          (try simp only [Act.put, List.setIfInBounds_toArray, List.set_cons_zero, List.set_cons_succ])
          refine wpAnyH_take (i := 16) (oi := { dst := some 46, op := Go.Op.move (Go.Operand.tmp 8), type := 3, pos := "law.go:89", after := #[{ on := 15, ground := Go.Ground.guard }], guard := some (15, false) }) (v := ?v15) rfl (by kernel_rfl) (by kernel_rfl) (by kernel_rfl) (fun _ _ _ h => h) (Or.inl ⟨by rfl, ?hy⟩) (by assumption) ?_
          case hy => intro w hSw; (try dsimp only at hSw); first | (go_simp; done) | (go_simp; with_reducible rfl)
          (try simp only [Act.put, List.setIfInBounds_toArray, List.set_cons_zero, List.set_cons_succ])
          refine wpAnyH_take (i := 17) (oi := { dst := some 47, op := Go.Op.binOp Go.BinOp.gtr 3 (Go.Operand.tmp 46) (Go.Operand.const (Go.Value.int Go.IntKind.i64 0)) 3, type := 4, pos := "law.go:89", after := #[{ on := 16, ground := Go.Ground.data }, { on := 15, ground := Go.Ground.guard }], guard := some (15, false) }) (v := ?v16) rfl (by kernel_rfl) (by kernel_rfl) (by kernel_rfl) (fun _ _ _ h => h) (Or.inl ⟨by rfl, ?hy⟩) (by assumption) ?_
          case hy => intro w hSw; (try dsimp only at hSw); first | (go_simp; done) | (go_simp; with_reducible rfl)
          (try simp only [Act.put, List.setIfInBounds_toArray, List.set_cons_zero, List.set_cons_succ])
          refine wpAnyH_take (i := 18) (oi := { dst := some 48, op := Go.Op.move (Go.Operand.tmp 47), type := 4, pos := "law.go:89", after := #[{ on := 17, ground := Go.Ground.data }, { on := 15, ground := Go.Ground.chain }, { on := 15, ground := Go.Ground.guard }], guard := some (15, false) }) (v := ?v17) rfl (by kernel_rfl) (by kernel_rfl) (by kernel_rfl) (fun _ _ _ h => h) (Or.inl ⟨by rfl, ?hy⟩) (by assumption) ?_
          case hy => intro w hSw; (try dsimp only at hSw); first | (go_simp; done) | (go_simp; with_reducible rfl)
          (try simp only [Act.put, List.setIfInBounds_toArray, List.set_cons_zero, List.set_cons_succ])
          refine wpAnyH_take (i := 19) (oi := { dst := some 49, op := Go.Op.load 39 (Go.Operand.tmp 9), type := 39, pos := "law.go:89", after := #[{ on := 18, ground := Go.Ground.guard }], guard := some (18, true) }) (v := undef) rfl (by kernel_rfl) (by kernel_rfl) (by kernel_rfl) (fun _ _ _ h => h) (Or.inr ⟨by rfl, rfl⟩) (by assumption) ?_
          (try simp only [Act.put, List.setIfInBounds_toArray, List.set_cons_zero, List.set_cons_succ])
          refine wpAnyH_take (i := 20) (oi := { dst := some 50, op := Go.Op.call { callee := Go.Callee.value (Go.Operand.func 21), args := #[Go.Operand.tmp 49], argTypes := #[39] }, type := 3, pos := "law.go:89", after := #[{ on := 19, ground := Go.Ground.data }, { on := 18, ground := Go.Ground.chain }, { on := 18, ground := Go.Ground.guard }], guard := some (18, true) }) (v := undef) rfl (by kernel_rfl) (by kernel_rfl) (by kernel_rfl) (fun _ _ _ h => h) (Or.inr ⟨by rfl, rfl⟩) (by assumption) ?_
          (try simp only [Act.put, List.setIfInBounds_toArray, List.set_cons_zero, List.set_cons_succ])
          refine wpAnyH_take (i := 21) (oi := { dst := some 51, op := Go.Op.move (Go.Operand.tmp 7), type := 23, pos := "law.go:89", after := #[{ on := 18, ground := Go.Ground.guard }], guard := some (18, true) }) (v := undef) rfl (by kernel_rfl) (by kernel_rfl) (by kernel_rfl) (fun _ _ _ h => h) (Or.inr ⟨by rfl, rfl⟩) (by assumption) ?_
          (try simp only [Act.put, List.setIfInBounds_toArray, List.set_cons_zero, List.set_cons_succ])
          refine wpAnyH_take (i := 22) (oi := { dst := some 52, op := Go.Op.move (Go.Operand.tmp 8), type := 3, pos := "law.go:89", after := #[{ on := 18, ground := Go.Ground.guard }], guard := some (18, true) }) (v := undef) rfl (by kernel_rfl) (by kernel_rfl) (by kernel_rfl) (fun _ _ _ h => h) (Or.inr ⟨by rfl, rfl⟩) (by assumption) ?_
          (try simp only [Act.put, List.setIfInBounds_toArray, List.set_cons_zero, List.set_cons_succ])
          refine wpAnyH_take (i := 23) (oi := { dst := some 53, op := Go.Op.binOp Go.BinOp.sub 3 (Go.Operand.tmp 52) (Go.Operand.const (Go.Value.int Go.IntKind.i64 1)) 3, type := 3, pos := "law.go:89", after := #[{ on := 22, ground := Go.Ground.data }, { on := 18, ground := Go.Ground.guard }], guard := some (18, true) }) (v := undef) rfl (by kernel_rfl) (by kernel_rfl) (by kernel_rfl) (fun _ _ _ h => h) (Or.inr ⟨by rfl, rfl⟩) (by assumption) ?_
          (try simp only [Act.put, List.setIfInBounds_toArray, List.set_cons_zero, List.set_cons_succ])
          refine wpAnyH_take (i := 24) (oi := { dst := some 54, op := Go.Op.indexAddr 23 (Go.Operand.tmp 51) (Go.Operand.tmp 53), type := 0, pos := "law.go:89", after := #[{ on := 21, ground := Go.Ground.data }, { on := 23, ground := Go.Ground.data }, { on := 18, ground := Go.Ground.guard }], guard := some (18, true) }) (v := undef) rfl (by kernel_rfl) (by kernel_rfl) (by kernel_rfl) (fun _ _ _ h => h) (Or.inr ⟨by rfl, rfl⟩) (by assumption) ?_
          (try simp only [Act.put, List.setIfInBounds_toArray, List.set_cons_zero, List.set_cons_succ])
          refine wpAnyH_take (i := 25) (oi := { dst := some 55, op := Go.Op.load 39 (Go.Operand.tmp 54), type := 39, pos := "law.go:89", after := #[{ on := 24, ground := Go.Ground.data }, { on := 18, ground := Go.Ground.guard }], guard := some (18, true) }) (v := undef) rfl (by kernel_rfl) (by kernel_rfl) (by kernel_rfl) (fun _ _ _ h => h) (Or.inr ⟨by rfl, rfl⟩) (by assumption) ?_
          (try simp only [Act.put, List.setIfInBounds_toArray, List.set_cons_zero, List.set_cons_succ])
          refine wpAnyH_take (i := 26) (oi := { dst := some 56, op := Go.Op.call { callee := Go.Callee.value (Go.Operand.func 21), args := #[Go.Operand.tmp 55], argTypes := #[39] }, type := 3, pos := "law.go:89", after := #[{ on := 25, ground := Go.Ground.data }, { on := 20, ground := Go.Ground.chain }, { on := 18, ground := Go.Ground.guard }], guard := some (18, true) }) (v := undef) rfl (by kernel_rfl) (by kernel_rfl) (by kernel_rfl) (fun _ _ _ h => h) (Or.inr ⟨by rfl, rfl⟩) (by assumption) ?_
          (try simp only [Act.put, List.setIfInBounds_toArray, List.set_cons_zero, List.set_cons_succ])
          refine wpAnyH_take (i := 27) (oi := { dst := some 57, op := Go.Op.binOp Go.BinOp.gtr 3 (Go.Operand.tmp 50) (Go.Operand.tmp 56) 3, type := 4, pos := "law.go:89", after := #[{ on := 20, ground := Go.Ground.data }, { on := 26, ground := Go.Ground.data }, { on := 18, ground := Go.Ground.guard }], guard := some (18, true) }) (v := undef) rfl (by kernel_rfl) (by kernel_rfl) (by kernel_rfl) (fun _ _ _ h => h) (Or.inr ⟨by rfl, rfl⟩) (by assumption) ?_
          (try simp only [Act.put, List.setIfInBounds_toArray, List.set_cons_zero, List.set_cons_succ])
          refine wpAnyH_take (i := 28) (oi := { dst := some 58, op := Go.Op.pick (Go.Operand.tmp 48) (Go.Operand.tmp 57) (Go.Operand.const (Go.Value.bool false)), type := 4, pos := "law.go:89", after := #[{ on := 18, ground := Go.Ground.data }, { on := 27, ground := Go.Ground.data }, { on := 15, ground := Go.Ground.guard }], guard := some (15, false) }) (v := ?v27) rfl (by kernel_rfl) (by kernel_rfl) (by kernel_rfl) (fun _ _ _ h => h) (Or.inl ⟨by rfl, ?hy⟩) (by assumption) ?_
          case hy => intro w hSw; (try dsimp only at hSw); first | (go_simp; done) | (go_simp; with_reducible rfl)
          (try simp only [Act.put, List.setIfInBounds_toArray, List.set_cons_zero, List.set_cons_succ])
          refine wpAnyH_take (i := 29) (oi := { dst := some 59, op := Go.Op.pick (Go.Operand.tmp 45) (Go.Operand.const (Go.Value.bool true)) (Go.Operand.tmp 58), type := 4, pos := "law.go:89", after := #[{ on := 15, ground := Go.Ground.data }, { on := 28, ground := Go.Ground.data }], guard := none }) (v := ?v28) rfl (by kernel_rfl) (by kernel_rfl) (by kernel_rfl) (fun _ _ _ h => h) (Or.inl ⟨by rfl, ?hy⟩) (by assumption) ?_
          case hy => intro w hSw; (try dsimp only at hSw); first | (go_simp; done) | (go_simp; with_reducible rfl)
          (try simp only [Act.put, List.setIfInBounds_toArray, List.set_cons_zero, List.set_cons_succ])
          refine wpAnyH_done (by kernel_rfl) ?_ _
          obtain ⟨hgr, hk1, hk2⟩ := hHeld
          have HG2 : Hid (Grew W1 w1) := Lib.hid (HG0.out.trans hgr)
          clear hgr
          rename World => W3
          have HR3 : Hid (RdR W3.heap.size W3 (some ⟨w.heap.size, 0, none⟩) (evenV A B)) := Lib.hid (HB1.out.rd.grow HG2.out)
          have hgl := World.block_lt_of_cell? W3 _ hk1
          go_wp2_with fail
          refine (size_any (lo : Int) (hi : Int) _ hlh).mono ?_
          rintro e w4 ⟨rfl, g4⟩
          rw [HS.out]
          have HG4 : Hid (Grew W1 w4) := Lib.hid (HG2.out.trans g4)
          have hk3 := (Below.cell g4 (p := ⟨g, 0, none⟩) hgl).trans hk1
          have hk4 := (Below.cell g4 (p := ⟨g, 1, none⟩) hgl).trans hk2
          have HR4 := Lib.hid (HR3.out.grow g4)
          have hg4 := Nat.lt_of_lt_of_le hgl g4.size
          clear g4 hk1 hk2
          have hs2 := HS2.out
          have HV1 : Hid (ofV (lo : Int) (evenV A B) = (0 : Int)) := Lib.hid (HO.out _ (by omega) (by omega))
          have HV2 : Hid (ofV ((hi : Int) - 1) (evenV A B) = (0 : Int)) := Lib.hid (HO.out _ (by omega) (by omega))
          have hh0 : 1 ≤ hi := by omega
          clear hs2
          go_wp2_with fail
          refine (of_n (m := B) (lo : Int) _ B (evenV A B) _ (evenV_len A B) (by omega) HR4.out).mono ?_
          rintro e w5 ⟨rfl, g5⟩
          rw [HV1.out]
          have hk5 := (Below.cell g5 (p := ⟨g, 0, none⟩) hg4).trans hk3
          have hk6 := (Below.cell g5 (p := ⟨g, 1, none⟩) hg4).trans hk4
          have HR5 := Lib.hid (HR4.out.grow g5)
          have HG5 : Hid (Grew W1 w5) := Lib.hid (HG4.out.trans g5)
          clear g5 hk3 hk4
          go_wp2_with fail
          refine (of_n (m := B) ((hi : Int) - 1) _ B (evenV A B) _ (evenV_len A B) (by omega) HR5.out).mono ?_
          rintro e w6 ⟨rfl, g6⟩
          rw [HV2.out]
          have HG6 : Hid (Grew W1 w6) := Lib.hid (HG5.out.trans g6)
          clear g6 hk5 hk6
          go_wp2_with fail
          go_roundw
          case rel => exact ⟨0 + 1, by omega, by go_num, HG6⟩
          case measure => simp [intOf]; omega

        · skip
          clear hm
          obtain ⟨lo, hlo⟩ : ∃ x, stV A B 0 = x := ⟨_, rfl⟩
          rw [hlo] at hs hc1 HO
          obtain ⟨hi, hhi⟩ : ∃ x, stV A B (0 + 1) = x := ⟨_, rfl⟩
          rw [hhi] at hs hc2 HO hle
          clear hlo hhi
          have HS : Hid (max (lo : Int) (hi : Int) - lo = (q : Int)) := Lib.hid (by omega)
          have HS2 := Lib.hid hs
          have hlh : (hi : Int) - lo < 9223372036854775808 := by omega
          clear hs
          go_wp2_with fail
          have hr1 : (wr.alloc (.cells #[.int .i64 (lo : Int), .int .i64 (hi : Int)] 39)).cell? ⟨wr.heap.size, 0, none⟩ = some (.int .i64 (lo : Int)) := by unfold World.cell?; rw [(MapKept.heap_alloc wr _).1]; rfl
          have hr2 : (wr.alloc (.cells #[.int .i64 (lo : Int), .int .i64 (hi : Int)] 39)).cell? ⟨wr.heap.size, 1, none⟩ = some (.int .i64 (hi : Int)) := by unfold World.cell?; rw [(MapKept.heap_alloc wr _).1]; rfl
          have hT : (A : Int).tdiv (B : Int) = (q : Int) := by rw [Int.tdiv_eq_ediv_of_nonneg (by omega)]; exact hqI
          have hne1 : (((q : Int) + 1) != (q : Int)) = true := bne_iff_ne.2 (by omega)
          have hBz : ¬ B = 0 := by omega
          have hBz2 : ¬ (B : Int) = 0 := by omega
          have hwq : IntKind.i64.wrap (q : Int) = q := IntWalk.i64_in _ (by omega)
          have hwq1 : IntKind.i64.wrap ((q : Int) + 1) = q + 1 := IntWalk.i64_in _ (by omega)
          have gR : Grew wr (wr.alloc (.cells #[.int .i64 (lo : Int), .int .i64 (hi : Int)] 39)) := (Grew.refl _).alloc _
          have HG0 : Hid (Grew W1 (wr.alloc (.cells #[.int .i64 (lo : Int), .int .i64 (hi : Int)] 39))) := Lib.hid (HG.out.trans gR)
          clear gR hc1 hc2
          generalize wr.alloc (.cells #[.int .i64 (lo : Int), .int .i64 (hi : Int)] 39) = W0 at *
          generalize wr.heap.size = g at hr1 hr2 ⊢
          refine wp_region_held_drew (S := (fun W' => Grew W0 W' ∧ W'.cell? ⟨g, 0, none⟩ = some (.int .i64 (lo : Int)) ∧ W'.cell? ⟨g, 1, none⟩ = some (.int .i64 (hi : Int)))) (by kernel_rfl) ⟨Below.drew (Below.refl _ _), hr1, hr2⟩ (fun hHeld => ?_)
          refine wpAnyH_take (i := 0) (oi := { dst := some 30, op := Go.Op.load 39 (Go.Operand.tmp 9), type := 39, pos := "law.go:89", after := #[], guard := none }) (v := ?v29) rfl (by kernel_rfl) (by kernel_rfl) (by kernel_rfl) (fun _ _ _ h => h) (Or.inl ⟨by rfl, ?hy⟩) (by assumption) ?_
          case hy => intro w hSw; (try dsimp only at hSw); first | (go_simp; done) | (go_simp; with_reducible rfl)
          (try simp only [Act.put, List.setIfInBounds_toArray, List.set_cons_zero, List.set_cons_succ])
          refine wpAnyH_take (i := 2) (oi := { dst := some 32, op := Go.Op.move (Go.Operand.tmp 5), type := 3, pos := "law.go:89", after := #[], guard := none }) (v := ?v30) rfl (by kernel_rfl) (by kernel_rfl) (by kernel_rfl) (fun _ _ _ h => h) (Or.inl ⟨by rfl, ?hy⟩) (by assumption) ?_
          case hy => intro w hSw; (try dsimp only at hSw); first | (go_simp; done) | (go_simp; with_reducible rfl)
          (try simp only [Act.put, List.setIfInBounds_toArray, List.set_cons_zero, List.set_cons_succ])
          refine wpAnyH_take (i := 3) (oi := { dst := some 33, op := Go.Op.move (Go.Operand.tmp 6), type := 3, pos := "law.go:89", after := #[], guard := none }) (v := ?v31) rfl (by kernel_rfl) (by kernel_rfl) (by kernel_rfl) (fun _ _ _ h => h) (Or.inl ⟨by rfl, ?hy⟩) (by assumption) ?_
          case hy => intro w hSw; (try dsimp only at hSw); first | (go_simp; done) | (go_simp; with_reducible rfl)
          (try simp only [Act.put, List.setIfInBounds_toArray, List.set_cons_zero, List.set_cons_succ])
          refine wpAnyH_take (i := 4) (oi := { dst := some 34, op := Go.Op.binOp Go.BinOp.quo 3 (Go.Operand.tmp 32) (Go.Operand.tmp 33) 3, type := 3, pos := "law.go:89", after := #[{ on := 2, ground := Go.Ground.data }, { on := 3, ground := Go.Ground.data }], guard := none }) (v := ?v32) rfl (by kernel_rfl) (by kernel_rfl) (by kernel_rfl) (fun _ _ _ h => h) (Or.inl ⟨by rfl, ?hy⟩) (by assumption) ?_
          case hy => intro w hSw; (try dsimp only at hSw); first | (go_simp; done) | (go_simp; with_reducible rfl)
          (try simp only [Act.put, List.setIfInBounds_toArray, List.set_cons_zero, List.set_cons_succ])
          refine wpAnyH_ready (rs := [1]) (by kernel_rfl) (by simp) ?_
          refine AllReadyH.cons (o := { dst := some 31, op := Go.Op.call { callee := Go.Callee.value (Go.Operand.func 21), args := #[Go.Operand.tmp 30], argTypes := #[39] }, type := 3, pos := "law.go:89", after := #[{ on := 0, ground := Go.Ground.data }], guard := none }) rfl (fun K hK => ?_) AllReadyH.nil
          go_simp
          (go_at_call 21; refine (size_any (lo : Int) (hi : Int) _ (by omega)).mono ?_; rintro e w1 ⟨rfl, g1⟩; rw [HS.out])
          (try go_wp2_with fail)
          refine hK.out _ _ ?hS (fun hHeld => ?_)
          case hS => (try dsimp only); (apply keep_two <;> assumption)
          clear hK K
          (try simp only [Act.put, List.setIfInBounds_toArray, List.set_cons_zero, List.set_cons_succ])
          refine wpAnyH_take (i := 5) (oi := { dst := some 35, op := Go.Op.binOp Go.BinOp.neq 3 (Go.Operand.tmp 31) (Go.Operand.tmp 34) 3, type := 4, pos := "law.go:89", after := #[{ on := 1, ground := Go.Ground.data }, { on := 4, ground := Go.Ground.data }], guard := none }) (v := ?v33) rfl (by kernel_rfl) (by kernel_rfl) (by kernel_rfl) (fun _ _ _ h => h) (Or.inl ⟨by rfl, ?hy⟩) (by assumption) ?_
          case hy => intro w hSw; (try dsimp only at hSw); first | (go_simp; done) | (go_simp; with_reducible rfl)
          (try simp only [Act.put, List.setIfInBounds_toArray, List.set_cons_zero, List.set_cons_succ])
          refine wpAnyH_take (i := 6) (oi := { dst := some 36, op := Go.Op.move (Go.Operand.tmp 35), type := 4, pos := "law.go:89", after := #[{ on := 5, ground := Go.Ground.data }, { on := 1, ground := Go.Ground.chain }], guard := none }) (v := ?v34) rfl (by kernel_rfl) (by kernel_rfl) (by kernel_rfl) (fun _ _ _ h => h) (Or.inl ⟨by rfl, ?hy⟩) (by assumption) ?_
          case hy => intro w hSw; (try dsimp only at hSw); first | (go_simp; done) | (go_simp; with_reducible rfl)
          (try simp only [Act.put, List.setIfInBounds_toArray, List.set_cons_zero, List.set_cons_succ])
          refine wpAnyH_take (i := 7) (oi := { dst := some 37, op := Go.Op.load 39 (Go.Operand.tmp 9), type := 39, pos := "law.go:89", after := #[{ on := 6, ground := Go.Ground.guard }], guard := some (6, true) }) (v := undef) rfl (by kernel_rfl) (by kernel_rfl) (by kernel_rfl) (fun _ _ _ h => h) (Or.inr ⟨by rfl, rfl⟩) (by assumption) ?_
          (try simp only [Act.put, List.setIfInBounds_toArray, List.set_cons_zero, List.set_cons_succ])
          refine wpAnyH_take (i := 8) (oi := { dst := some 38, op := Go.Op.call { callee := Go.Callee.value (Go.Operand.func 21), args := #[Go.Operand.tmp 37], argTypes := #[39] }, type := 3, pos := "law.go:89", after := #[{ on := 7, ground := Go.Ground.data }, { on := 6, ground := Go.Ground.chain }, { on := 6, ground := Go.Ground.guard }], guard := some (6, true) }) (v := undef) rfl (by kernel_rfl) (by kernel_rfl) (by kernel_rfl) (fun _ _ _ h => h) (Or.inr ⟨by rfl, rfl⟩) (by assumption) ?_
          (try simp only [Act.put, List.setIfInBounds_toArray, List.set_cons_zero, List.set_cons_succ])
          refine wpAnyH_take (i := 9) (oi := { dst := some 39, op := Go.Op.move (Go.Operand.tmp 5), type := 3, pos := "law.go:89", after := #[{ on := 6, ground := Go.Ground.guard }], guard := some (6, true) }) (v := undef) rfl (by kernel_rfl) (by kernel_rfl) (by kernel_rfl) (fun _ _ _ h => h) (Or.inr ⟨by rfl, rfl⟩) (by assumption) ?_
          (try simp only [Act.put, List.setIfInBounds_toArray, List.set_cons_zero, List.set_cons_succ])
          refine wpAnyH_take (i := 10) (oi := { dst := some 40, op := Go.Op.move (Go.Operand.tmp 6), type := 3, pos := "law.go:89", after := #[{ on := 6, ground := Go.Ground.guard }], guard := some (6, true) }) (v := undef) rfl (by kernel_rfl) (by kernel_rfl) (by kernel_rfl) (fun _ _ _ h => h) (Or.inr ⟨by rfl, rfl⟩) (by assumption) ?_
          (try simp only [Act.put, List.setIfInBounds_toArray, List.set_cons_zero, List.set_cons_succ])
          refine wpAnyH_take (i := 11) (oi := { dst := some 41, op := Go.Op.binOp Go.BinOp.quo 3 (Go.Operand.tmp 39) (Go.Operand.tmp 40) 3, type := 3, pos := "law.go:89", after := #[{ on := 9, ground := Go.Ground.data }, { on := 10, ground := Go.Ground.data }, { on := 6, ground := Go.Ground.guard }], guard := some (6, true) }) (v := undef) rfl (by kernel_rfl) (by kernel_rfl) (by kernel_rfl) (fun _ _ _ h => h) (Or.inr ⟨by rfl, rfl⟩) (by assumption) ?_
          (try simp only [Act.put, List.setIfInBounds_toArray, List.set_cons_zero, List.set_cons_succ])
          refine wpAnyH_take (i := 12) (oi := { dst := some 42, op := Go.Op.binOp Go.BinOp.add 3 (Go.Operand.tmp 41) (Go.Operand.const (Go.Value.int Go.IntKind.i64 1)) 3, type := 3, pos := "law.go:89", after := #[{ on := 11, ground := Go.Ground.data }, { on := 6, ground := Go.Ground.guard }], guard := some (6, true) }) (v := undef) rfl (by kernel_rfl) (by kernel_rfl) (by kernel_rfl) (fun _ _ _ h => h) (Or.inr ⟨by rfl, rfl⟩) (by assumption) ?_
          (try simp only [Act.put, List.setIfInBounds_toArray, List.set_cons_zero, List.set_cons_succ])
          refine wpAnyH_take (i := 13) (oi := { dst := some 43, op := Go.Op.binOp Go.BinOp.neq 3 (Go.Operand.tmp 38) (Go.Operand.tmp 42) 3, type := 4, pos := "law.go:89", after := #[{ on := 8, ground := Go.Ground.data }, { on := 12, ground := Go.Ground.data }, { on := 6, ground := Go.Ground.guard }], guard := some (6, true) }) (v := undef) rfl (by kernel_rfl) (by kernel_rfl) (by kernel_rfl) (fun _ _ _ h => h) (Or.inr ⟨by rfl, rfl⟩) (by assumption) ?_
          (try simp only [Act.put, List.setIfInBounds_toArray, List.set_cons_zero, List.set_cons_succ])
          refine wpAnyH_take (i := 14) (oi := { dst := some 44, op := Go.Op.pick (Go.Operand.tmp 36) (Go.Operand.tmp 43) (Go.Operand.const (Go.Value.bool false)), type := 4, pos := "law.go:89", after := #[{ on := 6, ground := Go.Ground.data }, { on := 13, ground := Go.Ground.data }], guard := none }) (v := ?v42) rfl (by kernel_rfl) (by kernel_rfl) (by kernel_rfl) (fun _ _ _ h => h) (Or.inl ⟨by rfl, ?hy⟩) (by assumption) ?_
          case hy => intro w hSw; (try dsimp only at hSw); first | (go_simp; done) | (go_simp; with_reducible rfl)
          (try simp only [Act.put, List.setIfInBounds_toArray, List.set_cons_zero, List.set_cons_succ])
          refine wpAnyH_take (i := 15) (oi := { dst := some 45, op := Go.Op.move (Go.Operand.tmp 44), type := 4, pos := "law.go:89", after := #[{ on := 14, ground := Go.Ground.data }, { on := 8, ground := Go.Ground.chain }], guard := none }) (v := ?v43) rfl (by kernel_rfl) (by kernel_rfl) (by kernel_rfl) (fun _ _ _ h => h) (Or.inl ⟨by rfl, ?hy⟩) (by assumption) ?_
          case hy => intro w hSw; (try dsimp only at hSw); first | (go_simp; done) | (go_simp; with_reducible rfl)
          (try simp only [Act.put, List.setIfInBounds_toArray, List.set_cons_zero, List.set_cons_succ])
          refine wpAnyH_take (i := 16) (oi := { dst := some 46, op := Go.Op.move (Go.Operand.tmp 8), type := 3, pos := "law.go:89", after := #[{ on := 15, ground := Go.Ground.guard }], guard := some (15, false) }) (v := ?v44) rfl (by kernel_rfl) (by kernel_rfl) (by kernel_rfl) (fun _ _ _ h => h) (Or.inl ⟨by rfl, ?hy⟩) (by assumption) ?_
          case hy => intro w hSw; (try dsimp only at hSw); first | (go_simp; done) | (go_simp; with_reducible rfl)
          (try simp only [Act.put, List.setIfInBounds_toArray, List.set_cons_zero, List.set_cons_succ])
          refine wpAnyH_take (i := 17) (oi := { dst := some 47, op := Go.Op.binOp Go.BinOp.gtr 3 (Go.Operand.tmp 46) (Go.Operand.const (Go.Value.int Go.IntKind.i64 0)) 3, type := 4, pos := "law.go:89", after := #[{ on := 16, ground := Go.Ground.data }, { on := 15, ground := Go.Ground.guard }], guard := some (15, false) }) (v := ?v45) rfl (by kernel_rfl) (by kernel_rfl) (by kernel_rfl) (fun _ _ _ h => h) (Or.inl ⟨by rfl, ?hy⟩) (by assumption) ?_
          case hy => intro w hSw; (try dsimp only at hSw); first | (go_simp; done) | (go_simp; with_reducible rfl)
          (try simp only [Act.put, List.setIfInBounds_toArray, List.set_cons_zero, List.set_cons_succ])
          refine wpAnyH_take (i := 18) (oi := { dst := some 48, op := Go.Op.move (Go.Operand.tmp 47), type := 4, pos := "law.go:89", after := #[{ on := 17, ground := Go.Ground.data }, { on := 15, ground := Go.Ground.chain }, { on := 15, ground := Go.Ground.guard }], guard := some (15, false) }) (v := ?v46) rfl (by kernel_rfl) (by kernel_rfl) (by kernel_rfl) (fun _ _ _ h => h) (Or.inl ⟨by rfl, ?hy⟩) (by assumption) ?_
          case hy => intro w hSw; (try dsimp only at hSw); first | (go_simp; done) | (go_simp; with_reducible rfl)
          (try simp only [Act.put, List.setIfInBounds_toArray, List.set_cons_zero, List.set_cons_succ])
          refine wpAnyH_take (i := 19) (oi := { dst := some 49, op := Go.Op.load 39 (Go.Operand.tmp 9), type := 39, pos := "law.go:89", after := #[{ on := 18, ground := Go.Ground.guard }], guard := some (18, true) }) (v := undef) rfl (by kernel_rfl) (by kernel_rfl) (by kernel_rfl) (fun _ _ _ h => h) (Or.inr ⟨by rfl, rfl⟩) (by assumption) ?_
          (try simp only [Act.put, List.setIfInBounds_toArray, List.set_cons_zero, List.set_cons_succ])
          refine wpAnyH_take (i := 20) (oi := { dst := some 50, op := Go.Op.call { callee := Go.Callee.value (Go.Operand.func 21), args := #[Go.Operand.tmp 49], argTypes := #[39] }, type := 3, pos := "law.go:89", after := #[{ on := 19, ground := Go.Ground.data }, { on := 18, ground := Go.Ground.chain }, { on := 18, ground := Go.Ground.guard }], guard := some (18, true) }) (v := undef) rfl (by kernel_rfl) (by kernel_rfl) (by kernel_rfl) (fun _ _ _ h => h) (Or.inr ⟨by rfl, rfl⟩) (by assumption) ?_
          (try simp only [Act.put, List.setIfInBounds_toArray, List.set_cons_zero, List.set_cons_succ])
          refine wpAnyH_take (i := 21) (oi := { dst := some 51, op := Go.Op.move (Go.Operand.tmp 7), type := 23, pos := "law.go:89", after := #[{ on := 18, ground := Go.Ground.guard }], guard := some (18, true) }) (v := undef) rfl (by kernel_rfl) (by kernel_rfl) (by kernel_rfl) (fun _ _ _ h => h) (Or.inr ⟨by rfl, rfl⟩) (by assumption) ?_
          (try simp only [Act.put, List.setIfInBounds_toArray, List.set_cons_zero, List.set_cons_succ])
          refine wpAnyH_take (i := 22) (oi := { dst := some 52, op := Go.Op.move (Go.Operand.tmp 8), type := 3, pos := "law.go:89", after := #[{ on := 18, ground := Go.Ground.guard }], guard := some (18, true) }) (v := undef) rfl (by kernel_rfl) (by kernel_rfl) (by kernel_rfl) (fun _ _ _ h => h) (Or.inr ⟨by rfl, rfl⟩) (by assumption) ?_
          (try simp only [Act.put, List.setIfInBounds_toArray, List.set_cons_zero, List.set_cons_succ])
          refine wpAnyH_take (i := 23) (oi := { dst := some 53, op := Go.Op.binOp Go.BinOp.sub 3 (Go.Operand.tmp 52) (Go.Operand.const (Go.Value.int Go.IntKind.i64 1)) 3, type := 3, pos := "law.go:89", after := #[{ on := 22, ground := Go.Ground.data }, { on := 18, ground := Go.Ground.guard }], guard := some (18, true) }) (v := undef) rfl (by kernel_rfl) (by kernel_rfl) (by kernel_rfl) (fun _ _ _ h => h) (Or.inr ⟨by rfl, rfl⟩) (by assumption) ?_
          (try simp only [Act.put, List.setIfInBounds_toArray, List.set_cons_zero, List.set_cons_succ])
          refine wpAnyH_take (i := 24) (oi := { dst := some 54, op := Go.Op.indexAddr 23 (Go.Operand.tmp 51) (Go.Operand.tmp 53), type := 0, pos := "law.go:89", after := #[{ on := 21, ground := Go.Ground.data }, { on := 23, ground := Go.Ground.data }, { on := 18, ground := Go.Ground.guard }], guard := some (18, true) }) (v := undef) rfl (by kernel_rfl) (by kernel_rfl) (by kernel_rfl) (fun _ _ _ h => h) (Or.inr ⟨by rfl, rfl⟩) (by assumption) ?_
          (try simp only [Act.put, List.setIfInBounds_toArray, List.set_cons_zero, List.set_cons_succ])
          refine wpAnyH_take (i := 25) (oi := { dst := some 55, op := Go.Op.load 39 (Go.Operand.tmp 54), type := 39, pos := "law.go:89", after := #[{ on := 24, ground := Go.Ground.data }, { on := 18, ground := Go.Ground.guard }], guard := some (18, true) }) (v := undef) rfl (by kernel_rfl) (by kernel_rfl) (by kernel_rfl) (fun _ _ _ h => h) (Or.inr ⟨by rfl, rfl⟩) (by assumption) ?_
          (try simp only [Act.put, List.setIfInBounds_toArray, List.set_cons_zero, List.set_cons_succ])
          refine wpAnyH_take (i := 26) (oi := { dst := some 56, op := Go.Op.call { callee := Go.Callee.value (Go.Operand.func 21), args := #[Go.Operand.tmp 55], argTypes := #[39] }, type := 3, pos := "law.go:89", after := #[{ on := 25, ground := Go.Ground.data }, { on := 20, ground := Go.Ground.chain }, { on := 18, ground := Go.Ground.guard }], guard := some (18, true) }) (v := undef) rfl (by kernel_rfl) (by kernel_rfl) (by kernel_rfl) (fun _ _ _ h => h) (Or.inr ⟨by rfl, rfl⟩) (by assumption) ?_
          (try simp only [Act.put, List.setIfInBounds_toArray, List.set_cons_zero, List.set_cons_succ])
          refine wpAnyH_take (i := 27) (oi := { dst := some 57, op := Go.Op.binOp Go.BinOp.gtr 3 (Go.Operand.tmp 50) (Go.Operand.tmp 56) 3, type := 4, pos := "law.go:89", after := #[{ on := 20, ground := Go.Ground.data }, { on := 26, ground := Go.Ground.data }, { on := 18, ground := Go.Ground.guard }], guard := some (18, true) }) (v := undef) rfl (by kernel_rfl) (by kernel_rfl) (by kernel_rfl) (fun _ _ _ h => h) (Or.inr ⟨by rfl, rfl⟩) (by assumption) ?_
          (try simp only [Act.put, List.setIfInBounds_toArray, List.set_cons_zero, List.set_cons_succ])
          refine wpAnyH_take (i := 28) (oi := { dst := some 58, op := Go.Op.pick (Go.Operand.tmp 48) (Go.Operand.tmp 57) (Go.Operand.const (Go.Value.bool false)), type := 4, pos := "law.go:89", after := #[{ on := 18, ground := Go.Ground.data }, { on := 27, ground := Go.Ground.data }, { on := 15, ground := Go.Ground.guard }], guard := some (15, false) }) (v := ?v56) rfl (by kernel_rfl) (by kernel_rfl) (by kernel_rfl) (fun _ _ _ h => h) (Or.inl ⟨by rfl, ?hy⟩) (by assumption) ?_
          case hy => intro w hSw; (try dsimp only at hSw); first | (go_simp; done) | (go_simp; with_reducible rfl)
          (try simp only [Act.put, List.setIfInBounds_toArray, List.set_cons_zero, List.set_cons_succ])
          refine wpAnyH_take (i := 29) (oi := { dst := some 59, op := Go.Op.pick (Go.Operand.tmp 45) (Go.Operand.const (Go.Value.bool true)) (Go.Operand.tmp 58), type := 4, pos := "law.go:89", after := #[{ on := 15, ground := Go.Ground.data }, { on := 28, ground := Go.Ground.data }], guard := none }) (v := ?v57) rfl (by kernel_rfl) (by kernel_rfl) (by kernel_rfl) (fun _ _ _ h => h) (Or.inl ⟨by rfl, ?hy⟩) (by assumption) ?_
          case hy => intro w hSw; (try dsimp only at hSw); first | (go_simp; done) | (go_simp; with_reducible rfl)
          (try simp only [Act.put, List.setIfInBounds_toArray, List.set_cons_zero, List.set_cons_succ])
          refine wpAnyH_done (by kernel_rfl) ?_ _
          obtain ⟨hgr, hk1, hk2⟩ := hHeld
          have HG2 : Hid (Grew W1 w1) := Lib.hid (HG0.out.trans hgr)
          clear hgr
          rename World => W3
          have HR3 : Hid (RdR W3.heap.size W3 (some ⟨w.heap.size, 0, none⟩) (evenV A B)) := Lib.hid (HB1.out.rd.grow HG2.out)
          have hgl := World.block_lt_of_cell? W3 _ hk1
          by_cases hq0 : q = 0
          · subst hq0
            go_wp2_with fail
            refine (size_any (lo : Int) (hi : Int) _ hlh).mono ?_
            rintro e w4 ⟨rfl, g4⟩
            rw [HS.out]
            have HG4 : Hid (Grew W1 w4) := Lib.hid (HG2.out.trans g4)
            rw [show ((0 : Nat) : Int) = 0 from rfl]
            clear g4
            go_wp2_with fail
            go_roundw
            case rel => exact ⟨0 + 1, by omega, by go_num, HG4⟩
            case measure => simp [intOf]; omega
          · skip
            go_wp2_with fail
            refine (size_any (lo : Int) (hi : Int) _ hlh).mono ?_
            rintro e w4 ⟨rfl, g4⟩
            rw [HS.out]
            have HG4 : Hid (Grew W1 w4) := Lib.hid (HG2.out.trans g4)
            have hk3 := (Below.cell g4 (p := ⟨g, 0, none⟩) hgl).trans hk1
            have hk4 := (Below.cell g4 (p := ⟨g, 1, none⟩) hgl).trans hk2
            have HR4 := Lib.hid (HR3.out.grow g4)
            have hg4 := Nat.lt_of_lt_of_le hgl g4.size
            clear g4 hk1 hk2
            have hs2 := HS2.out
            have HV1 : Hid (ofV (lo : Int) (evenV A B) = (0 : Int)) := Lib.hid (HO.out _ (by omega) (by omega))
            have HV2 : Hid (ofV ((hi : Int) - 1) (evenV A B) = (0 : Int)) := Lib.hid (HO.out _ (by omega) (by omega))
            have hh0 : 1 ≤ hi := by omega
            clear hs2
            go_wp2_with fail
            refine (of_n (m := B) (lo : Int) _ B (evenV A B) _ (evenV_len A B) (by omega) HR4.out).mono ?_
            rintro e w5 ⟨rfl, g5⟩
            rw [HV1.out]
            have hk5 := (Below.cell g5 (p := ⟨g, 0, none⟩) hg4).trans hk3
            have hk6 := (Below.cell g5 (p := ⟨g, 1, none⟩) hg4).trans hk4
            have HR5 := Lib.hid (HR4.out.grow g5)
            have HG5 : Hid (Grew W1 w5) := Lib.hid (HG4.out.trans g5)
            clear g5 hk3 hk4
            go_wp2_with fail
            refine (of_n (m := B) ((hi : Int) - 1) _ B (evenV A B) _ (evenV_len A B) (by omega) HR5.out).mono ?_
            rintro e w6 ⟨rfl, g6⟩
            rw [HV2.out]
            have HG6 : Hid (Grew W1 w6) := Lib.hid (HG5.out.trans g6)
            clear g6 hk5 hk6
            go_wp2_with fail
            go_roundw
            case rel => exact ⟨0 + 1, by omega, by go_num, HG6⟩
            case measure => simp [intOf]; omega

      · obtain ⟨j, rfl⟩ : ∃ j, i = j + 1 := ⟨i - 1, by omega⟩
        rcases size_cases (i := j + 1) HQ.out with ⟨hs, hm⟩ | ⟨hs, hm⟩
        · skip
          obtain ⟨hd1, hd2, _⟩ := (HB1.out.grow HG.out).at (k := j) (by omega)
          rw [evenV_at (show j < B by omega)] at hd1 hd2
          obtain ⟨p, hp⟩ : ∃ p : Nat, stV A B (j + 1) = stV A B j + p ∧ q ≤ p ∧ (j + 1 < A % B → p = q + 1) ∧ p ≤ 501 := by
            rcases size_cases (i := j) HQ.out with ⟨h, h'⟩ | ⟨h, h'⟩
            · exact ⟨q + 1, by omega, by omega, fun _ => rfl, by omega⟩
            · exact ⟨q, by omega, by omega, fun h2 => by omega, by omega⟩
          obtain ⟨hp1, hp2, hp3, hp4⟩ := hp
          have hp5 := hp3 hm
          clear hp3 hm
          obtain ⟨x, hx⟩ : ∃ x, stV A B j = x := ⟨_, rfl⟩
          rw [hx] at hp1 hd1
          obtain ⟨lo, hlo⟩ : ∃ x, stV A B (j + 1) = x := ⟨_, rfl⟩
          rw [hlo] at hp1 hd2 hs hc1 HO
          obtain ⟨hi, hhi⟩ : ∃ x, stV A B (j + 1 + 1) = x := ⟨_, rfl⟩
          rw [hhi] at hs hc2 HO hle
          clear hx hlo hhi
          have HP : Hid (max (x : Int) (lo : Int) - x = (p : Int)) := Lib.hid (by omega)
          have HS : Hid (max (lo : Int) (hi : Int) - lo = (q : Int) + 1) := Lib.hid (by omega)
          have HS2 := Lib.hid hs
          have hlh : (hi : Int) - lo < 9223372036854775808 := by omega
          clear hs
          have hlp : (lo : Int) - x < 9223372036854775808 := by omega
          clear hp1
          go_wp2_with fail
          have hr1 : (wr.alloc (.cells #[.int .i64 (lo : Int), .int .i64 (hi : Int)] 39)).cell? ⟨wr.heap.size, 0, none⟩ = some (.int .i64 (lo : Int)) := by unfold World.cell?; rw [(MapKept.heap_alloc wr _).1]; rfl
          have hr2 : (wr.alloc (.cells #[.int .i64 (lo : Int), .int .i64 (hi : Int)] 39)).cell? ⟨wr.heap.size, 1, none⟩ = some (.int .i64 (hi : Int)) := by unfold World.cell?; rw [(MapKept.heap_alloc wr _).1]; rfl
          have hT : (A : Int).tdiv (B : Int) = (q : Int) := by rw [Int.tdiv_eq_ediv_of_nonneg (by omega)]; exact hqI
          have hne1 : (((q : Int) + 1) != (q : Int)) = true := bne_iff_ne.2 (by omega)
          have hBz : ¬ B = 0 := by omega
          have hBz2 : ¬ (B : Int) = 0 := by omega
          have hwq : IntKind.i64.wrap (q : Int) = q := IntWalk.i64_in _ (by omega)
          have hwq1 : IntKind.i64.wrap ((q : Int) + 1) = q + 1 := IntWalk.i64_in _ (by omega)
          have gR : Grew wr (wr.alloc (.cells #[.int .i64 (lo : Int), .int .i64 (hi : Int)] 39)) := (Grew.refl _).alloc _
          have HG0 : Hid (Grew W1 (wr.alloc (.cells #[.int .i64 (lo : Int), .int .i64 (hi : Int)] 39))) := Lib.hid (HG.out.trans gR)
          have hd1' := (Below.cell gR (p := ⟨w.heap.size, j * 2, none⟩) (World.block_lt_of_cell? wr _ hd1)).trans hd1
          have hd2' := (Below.cell gR (p := ⟨w.heap.size, j * 2 + 1, none⟩) (World.block_lt_of_cell? wr _ hd2)).trans hd2
          clear hd1 hd2
          have hwj : IntKind.i64.wrap (j : Int) = j := IntWalk.i64_in _ (by omega)
          have hwj1 : IntKind.i64.wrap ((j : Int) + 1) = j + 1 := IntWalk.i64_in _ (by omega)
          have hj0 : (0 : Int) ≤ (j : Int) := by omega
          have hjB : (j : Int) < (B : Int) := by omega
          have hjp : (0 : Int) < (j : Int) + 1 := by omega
          have hqp : ¬ (p : Int) < (q : Int) + 1 := by omega
          clear gR hc1 hc2
          generalize wr.alloc (.cells #[.int .i64 (lo : Int), .int .i64 (hi : Int)] 39) = W0 at *
          generalize wr.heap.size = g at hr1 hr2 ⊢
          refine wp_region_held_drew (S := (fun W' => Grew W0 W' ∧ W'.cell? ⟨g, 0, none⟩ = some (.int .i64 (lo : Int)) ∧ W'.cell? ⟨g, 1, none⟩ = some (.int .i64 (hi : Int)) ∧ W'.cell? ⟨w.heap.size, j * 2, none⟩ = some (.int .i64 (x : Int)) ∧ W'.cell? ⟨w.heap.size, j * 2 + 1, none⟩ = some (.int .i64 (lo : Int)))) (by kernel_rfl) ⟨Below.drew (Below.refl _ _), hr1, hr2, hd1', hd2'⟩ (fun hHeld => ?_)
          refine wpAnyH_take (i := 0) (oi := { dst := some 30, op := Go.Op.load 39 (Go.Operand.tmp 9), type := 39, pos := "law.go:89", after := #[], guard := none }) (v := ?v58) rfl (by kernel_rfl) (by kernel_rfl) (by kernel_rfl) (fun _ _ _ h => h) (Or.inl ⟨by rfl, ?hy⟩) (by assumption) ?_
          case hy => intro w hSw; (try dsimp only at hSw); first | (go_simp; done) | (go_simp; with_reducible rfl)
          (try simp only [Act.put, List.setIfInBounds_toArray, List.set_cons_zero, List.set_cons_succ])
          refine wpAnyH_take (i := 2) (oi := { dst := some 32, op := Go.Op.move (Go.Operand.tmp 5), type := 3, pos := "law.go:89", after := #[], guard := none }) (v := ?v59) rfl (by kernel_rfl) (by kernel_rfl) (by kernel_rfl) (fun _ _ _ h => h) (Or.inl ⟨by rfl, ?hy⟩) (by assumption) ?_
          case hy => intro w hSw; (try dsimp only at hSw); first | (go_simp; done) | (go_simp; with_reducible rfl)
          (try simp only [Act.put, List.setIfInBounds_toArray, List.set_cons_zero, List.set_cons_succ])
          refine wpAnyH_take (i := 3) (oi := { dst := some 33, op := Go.Op.move (Go.Operand.tmp 6), type := 3, pos := "law.go:89", after := #[], guard := none }) (v := ?v60) rfl (by kernel_rfl) (by kernel_rfl) (by kernel_rfl) (fun _ _ _ h => h) (Or.inl ⟨by rfl, ?hy⟩) (by assumption) ?_
          case hy => intro w hSw; (try dsimp only at hSw); first | (go_simp; done) | (go_simp; with_reducible rfl)
          (try simp only [Act.put, List.setIfInBounds_toArray, List.set_cons_zero, List.set_cons_succ])
          refine wpAnyH_take (i := 4) (oi := { dst := some 34, op := Go.Op.binOp Go.BinOp.quo 3 (Go.Operand.tmp 32) (Go.Operand.tmp 33) 3, type := 3, pos := "law.go:89", after := #[{ on := 2, ground := Go.Ground.data }, { on := 3, ground := Go.Ground.data }], guard := none }) (v := ?v61) rfl (by kernel_rfl) (by kernel_rfl) (by kernel_rfl) (fun _ _ _ h => h) (Or.inl ⟨by rfl, ?hy⟩) (by assumption) ?_
          case hy => intro w hSw; (try dsimp only at hSw); first | (go_simp; done) | (go_simp; with_reducible rfl)
          (try simp only [Act.put, List.setIfInBounds_toArray, List.set_cons_zero, List.set_cons_succ])
          refine wpAnyH_ready (rs := [1]) (by kernel_rfl) (by simp) ?_
          refine AllReadyH.cons (o := { dst := some 31, op := Go.Op.call { callee := Go.Callee.value (Go.Operand.func 21), args := #[Go.Operand.tmp 30], argTypes := #[39] }, type := 3, pos := "law.go:89", after := #[{ on := 0, ground := Go.Ground.data }], guard := none }) rfl (fun K hK => ?_) AllReadyH.nil
          go_simp
          (go_at_call 21; refine (size_any (lo : Int) (hi : Int) _ (by omega)).mono ?_; rintro e w1 ⟨rfl, g1⟩; rw [HS.out])
          (try go_wp2_with fail)
          refine hK.out _ _ ?hS (fun hHeld => ?_)
          case hS => (try dsimp only); (apply keep_four <;> assumption)
          clear hK K
          (try simp only [Act.put, List.setIfInBounds_toArray, List.set_cons_zero, List.set_cons_succ])
          refine wpAnyH_take (i := 5) (oi := { dst := some 35, op := Go.Op.binOp Go.BinOp.neq 3 (Go.Operand.tmp 31) (Go.Operand.tmp 34) 3, type := 4, pos := "law.go:89", after := #[{ on := 1, ground := Go.Ground.data }, { on := 4, ground := Go.Ground.data }], guard := none }) (v := ?v62) rfl (by kernel_rfl) (by kernel_rfl) (by kernel_rfl) (fun _ _ _ h => h) (Or.inl ⟨by rfl, ?hy⟩) (by assumption) ?_
          case hy => intro w hSw; (try dsimp only at hSw); first | (go_simp; done) | (go_simp; with_reducible rfl)
          (try simp only [Act.put, List.setIfInBounds_toArray, List.set_cons_zero, List.set_cons_succ])
          refine wpAnyH_take (i := 6) (oi := { dst := some 36, op := Go.Op.move (Go.Operand.tmp 35), type := 4, pos := "law.go:89", after := #[{ on := 5, ground := Go.Ground.data }, { on := 1, ground := Go.Ground.chain }], guard := none }) (v := ?v63) rfl (by kernel_rfl) (by kernel_rfl) (by kernel_rfl) (fun _ _ _ h => h) (Or.inl ⟨by rfl, ?hy⟩) (by assumption) ?_
          case hy => intro w hSw; (try dsimp only at hSw); first | (go_simp; done) | (go_simp; with_reducible rfl)
          (try simp only [Act.put, List.setIfInBounds_toArray, List.set_cons_zero, List.set_cons_succ])
          refine wpAnyH_take (i := 7) (oi := { dst := some 37, op := Go.Op.load 39 (Go.Operand.tmp 9), type := 39, pos := "law.go:89", after := #[{ on := 6, ground := Go.Ground.guard }], guard := some (6, true) }) (v := ?v64) rfl (by kernel_rfl) (by kernel_rfl) (by kernel_rfl) (fun _ _ _ h => h) (Or.inl ⟨by rfl, ?hy⟩) (by assumption) ?_
          case hy => intro w hSw; (try dsimp only at hSw); first | (go_simp; done) | (go_simp; with_reducible rfl)
          (try simp only [Act.put, List.setIfInBounds_toArray, List.set_cons_zero, List.set_cons_succ])
          refine wpAnyH_take (i := 9) (oi := { dst := some 39, op := Go.Op.move (Go.Operand.tmp 5), type := 3, pos := "law.go:89", after := #[{ on := 6, ground := Go.Ground.guard }], guard := some (6, true) }) (v := ?v65) rfl (by kernel_rfl) (by kernel_rfl) (by kernel_rfl) (fun _ _ _ h => h) (Or.inl ⟨by rfl, ?hy⟩) (by assumption) ?_
          case hy => intro w hSw; (try dsimp only at hSw); first | (go_simp; done) | (go_simp; with_reducible rfl)
          (try simp only [Act.put, List.setIfInBounds_toArray, List.set_cons_zero, List.set_cons_succ])
          refine wpAnyH_take (i := 10) (oi := { dst := some 40, op := Go.Op.move (Go.Operand.tmp 6), type := 3, pos := "law.go:89", after := #[{ on := 6, ground := Go.Ground.guard }], guard := some (6, true) }) (v := ?v66) rfl (by kernel_rfl) (by kernel_rfl) (by kernel_rfl) (fun _ _ _ h => h) (Or.inl ⟨by rfl, ?hy⟩) (by assumption) ?_
          case hy => intro w hSw; (try dsimp only at hSw); first | (go_simp; done) | (go_simp; with_reducible rfl)
          (try simp only [Act.put, List.setIfInBounds_toArray, List.set_cons_zero, List.set_cons_succ])
          refine wpAnyH_take (i := 11) (oi := { dst := some 41, op := Go.Op.binOp Go.BinOp.quo 3 (Go.Operand.tmp 39) (Go.Operand.tmp 40) 3, type := 3, pos := "law.go:89", after := #[{ on := 9, ground := Go.Ground.data }, { on := 10, ground := Go.Ground.data }, { on := 6, ground := Go.Ground.guard }], guard := some (6, true) }) (v := ?v67) rfl (by kernel_rfl) (by kernel_rfl) (by kernel_rfl) (fun _ _ _ h => h) (Or.inl ⟨by rfl, ?hy⟩) (by assumption) ?_
          case hy => intro w hSw; (try dsimp only at hSw); first | (go_simp; done) | (go_simp; with_reducible rfl)
          (try simp only [Act.put, List.setIfInBounds_toArray, List.set_cons_zero, List.set_cons_succ])
          refine wpAnyH_take (i := 12) (oi := { dst := some 42, op := Go.Op.binOp Go.BinOp.add 3 (Go.Operand.tmp 41) (Go.Operand.const (Go.Value.int Go.IntKind.i64 1)) 3, type := 3, pos := "law.go:89", after := #[{ on := 11, ground := Go.Ground.data }, { on := 6, ground := Go.Ground.guard }], guard := some (6, true) }) (v := ?v68) rfl (by kernel_rfl) (by kernel_rfl) (by kernel_rfl) (fun _ _ _ h => h) (Or.inl ⟨by rfl, ?hy⟩) (by assumption) ?_
          case hy => intro w hSw; (try dsimp only at hSw); first | (go_simp; done) | (go_simp; with_reducible rfl)
          (try simp only [Act.put, List.setIfInBounds_toArray, List.set_cons_zero, List.set_cons_succ])
          refine wpAnyH_ready (rs := [8]) (by kernel_rfl) (by simp) ?_
          refine AllReadyH.cons (o := { dst := some 38, op := Go.Op.call { callee := Go.Callee.value (Go.Operand.func 21), args := #[Go.Operand.tmp 37], argTypes := #[39] }, type := 3, pos := "law.go:89", after := #[{ on := 7, ground := Go.Ground.data }, { on := 6, ground := Go.Ground.chain }, { on := 6, ground := Go.Ground.guard }], guard := some (6, true) }) rfl (fun K hK => ?_) AllReadyH.nil
          go_simp
          (go_at_call 21; refine (size_any (lo : Int) (hi : Int) _ (by omega)).mono ?_; rintro e w1 ⟨rfl, g1⟩; rw [HS.out])
          (try go_wp2_with fail)
          refine hK.out _ _ ?hS (fun hHeld => ?_)
          case hS => (try dsimp only); (apply keep_four <;> assumption)
          clear hK K
          (try simp only [Act.put, List.setIfInBounds_toArray, List.set_cons_zero, List.set_cons_succ])
          refine wpAnyH_take (i := 13) (oi := { dst := some 43, op := Go.Op.binOp Go.BinOp.neq 3 (Go.Operand.tmp 38) (Go.Operand.tmp 42) 3, type := 4, pos := "law.go:89", after := #[{ on := 8, ground := Go.Ground.data }, { on := 12, ground := Go.Ground.data }, { on := 6, ground := Go.Ground.guard }], guard := some (6, true) }) (v := ?v69) rfl (by kernel_rfl) (by kernel_rfl) (by kernel_rfl) (fun _ _ _ h => h) (Or.inl ⟨by rfl, ?hy⟩) (by assumption) ?_
          case hy => intro w hSw; (try dsimp only at hSw); first | (go_simp; done) | (go_simp; with_reducible rfl)
          (try simp only [Act.put, List.setIfInBounds_toArray, List.set_cons_zero, List.set_cons_succ])
          refine wpAnyH_take (i := 14) (oi := { dst := some 44, op := Go.Op.pick (Go.Operand.tmp 36) (Go.Operand.tmp 43) (Go.Operand.const (Go.Value.bool false)), type := 4, pos := "law.go:89", after := #[{ on := 6, ground := Go.Ground.data }, { on := 13, ground := Go.Ground.data }], guard := none }) (v := ?v70) rfl (by kernel_rfl) (by kernel_rfl) (by kernel_rfl) (fun _ _ _ h => h) (Or.inl ⟨by rfl, ?hy⟩) (by assumption) ?_
          case hy => intro w hSw; (try dsimp only at hSw); first | (go_simp; done) | (go_simp; with_reducible rfl)
          (try simp only [Act.put, List.setIfInBounds_toArray, List.set_cons_zero, List.set_cons_succ])
          refine wpAnyH_take (i := 15) (oi := { dst := some 45, op := Go.Op.move (Go.Operand.tmp 44), type := 4, pos := "law.go:89", after := #[{ on := 14, ground := Go.Ground.data }, { on := 8, ground := Go.Ground.chain }], guard := none }) (v := ?v71) rfl (by kernel_rfl) (by kernel_rfl) (by kernel_rfl) (fun _ _ _ h => h) (Or.inl ⟨by rfl, ?hy⟩) (by assumption) ?_
          case hy => intro w hSw; (try dsimp only at hSw); first | (go_simp; done) | (go_simp; with_reducible rfl)
          (try simp only [Act.put, List.setIfInBounds_toArray, List.set_cons_zero, List.set_cons_succ])
          refine wpAnyH_take (i := 16) (oi := { dst := some 46, op := Go.Op.move (Go.Operand.tmp 8), type := 3, pos := "law.go:89", after := #[{ on := 15, ground := Go.Ground.guard }], guard := some (15, false) }) (v := ?v72) rfl (by kernel_rfl) (by kernel_rfl) (by kernel_rfl) (fun _ _ _ h => h) (Or.inl ⟨by rfl, ?hy⟩) (by assumption) ?_
          case hy => intro w hSw; (try dsimp only at hSw); first | (go_simp; done) | (go_simp; with_reducible rfl)
          (try simp only [Act.put, List.setIfInBounds_toArray, List.set_cons_zero, List.set_cons_succ])
          refine wpAnyH_take (i := 17) (oi := { dst := some 47, op := Go.Op.binOp Go.BinOp.gtr 3 (Go.Operand.tmp 46) (Go.Operand.const (Go.Value.int Go.IntKind.i64 0)) 3, type := 4, pos := "law.go:89", after := #[{ on := 16, ground := Go.Ground.data }, { on := 15, ground := Go.Ground.guard }], guard := some (15, false) }) (v := ?v73) rfl (by kernel_rfl) (by kernel_rfl) (by kernel_rfl) (fun _ _ _ h => h) (Or.inl ⟨by rfl, ?hy⟩) (by assumption) ?_
          case hy => intro w hSw; (try dsimp only at hSw); first | (go_simp; done) | (go_simp; with_reducible rfl)
          (try simp only [Act.put, List.setIfInBounds_toArray, List.set_cons_zero, List.set_cons_succ])
          refine wpAnyH_take (i := 18) (oi := { dst := some 48, op := Go.Op.move (Go.Operand.tmp 47), type := 4, pos := "law.go:89", after := #[{ on := 17, ground := Go.Ground.data }, { on := 15, ground := Go.Ground.chain }, { on := 15, ground := Go.Ground.guard }], guard := some (15, false) }) (v := ?v74) rfl (by kernel_rfl) (by kernel_rfl) (by kernel_rfl) (fun _ _ _ h => h) (Or.inl ⟨by rfl, ?hy⟩) (by assumption) ?_
          case hy => intro w hSw; (try dsimp only at hSw); first | (go_simp; done) | (go_simp; with_reducible rfl)
          (try simp only [Act.put, List.setIfInBounds_toArray, List.set_cons_zero, List.set_cons_succ])
          refine wpAnyH_take (i := 19) (oi := { dst := some 49, op := Go.Op.load 39 (Go.Operand.tmp 9), type := 39, pos := "law.go:89", after := #[{ on := 18, ground := Go.Ground.guard }], guard := some (18, true) }) (v := ?v75) rfl (by kernel_rfl) (by kernel_rfl) (by kernel_rfl) (fun _ _ _ h => h) (Or.inl ⟨by rfl, ?hy⟩) (by assumption) ?_
          case hy => intro w hSw; (try dsimp only at hSw); first | (go_simp; done) | (go_simp; with_reducible rfl)
          (try simp only [Act.put, List.setIfInBounds_toArray, List.set_cons_zero, List.set_cons_succ])
          refine wpAnyH_take (i := 21) (oi := { dst := some 51, op := Go.Op.move (Go.Operand.tmp 7), type := 23, pos := "law.go:89", after := #[{ on := 18, ground := Go.Ground.guard }], guard := some (18, true) }) (v := ?v76) rfl (by kernel_rfl) (by kernel_rfl) (by kernel_rfl) (fun _ _ _ h => h) (Or.inl ⟨by rfl, ?hy⟩) (by assumption) ?_
          case hy => intro w hSw; (try dsimp only at hSw); first | (go_simp; done) | (go_simp; with_reducible rfl)
          (try simp only [Act.put, List.setIfInBounds_toArray, List.set_cons_zero, List.set_cons_succ])
          refine wpAnyH_take (i := 22) (oi := { dst := some 52, op := Go.Op.move (Go.Operand.tmp 8), type := 3, pos := "law.go:89", after := #[{ on := 18, ground := Go.Ground.guard }], guard := some (18, true) }) (v := ?v77) rfl (by kernel_rfl) (by kernel_rfl) (by kernel_rfl) (fun _ _ _ h => h) (Or.inl ⟨by rfl, ?hy⟩) (by assumption) ?_
          case hy => intro w hSw; (try dsimp only at hSw); first | (go_simp; done) | (go_simp; with_reducible rfl)
          (try simp only [Act.put, List.setIfInBounds_toArray, List.set_cons_zero, List.set_cons_succ])
          refine wpAnyH_take (i := 23) (oi := { dst := some 53, op := Go.Op.binOp Go.BinOp.sub 3 (Go.Operand.tmp 52) (Go.Operand.const (Go.Value.int Go.IntKind.i64 1)) 3, type := 3, pos := "law.go:89", after := #[{ on := 22, ground := Go.Ground.data }, { on := 18, ground := Go.Ground.guard }], guard := some (18, true) }) (v := ?v78) rfl (by kernel_rfl) (by kernel_rfl) (by kernel_rfl) (fun _ _ _ h => h) (Or.inl ⟨by rfl, ?hy⟩) (by assumption) ?_
          case hy => intro w hSw; (try dsimp only at hSw); first | (go_simp; done) | (go_simp; with_reducible rfl)
          (try simp only [Act.put, List.setIfInBounds_toArray, List.set_cons_zero, List.set_cons_succ])
          refine wpAnyH_take (i := 24) (oi := { dst := some 54, op := Go.Op.indexAddr 23 (Go.Operand.tmp 51) (Go.Operand.tmp 53), type := 0, pos := "law.go:89", after := #[{ on := 21, ground := Go.Ground.data }, { on := 23, ground := Go.Ground.data }, { on := 18, ground := Go.Ground.guard }], guard := some (18, true) }) (v := ?v79) rfl (by kernel_rfl) (by kernel_rfl) (by kernel_rfl) (fun _ _ _ h => h) (Or.inl ⟨by rfl, ?hy⟩) (by assumption) ?_
          case hy => intro w hSw; (try dsimp only at hSw); first | (go_simp; done) | (go_simp; with_reducible rfl)
          (try simp only [Act.put, List.setIfInBounds_toArray, List.set_cons_zero, List.set_cons_succ])
          refine wpAnyH_take (i := 25) (oi := { dst := some 55, op := Go.Op.load 39 (Go.Operand.tmp 54), type := 39, pos := "law.go:89", after := #[{ on := 24, ground := Go.Ground.data }, { on := 18, ground := Go.Ground.guard }], guard := some (18, true) }) (v := ?v80) rfl (by kernel_rfl) (by kernel_rfl) (by kernel_rfl) (fun _ _ _ h => h) (Or.inl ⟨by rfl, ?hy⟩) (by assumption) ?_
          case hy => intro w hSw; (try dsimp only at hSw); first | (go_simp; done) | (go_simp; with_reducible rfl)
          (try simp only [Act.put, List.setIfInBounds_toArray, List.set_cons_zero, List.set_cons_succ])
          refine wpAnyH_ready (rs := [20]) (by kernel_rfl) (by simp) ?_
          refine AllReadyH.cons (o := { dst := some 50, op := Go.Op.call { callee := Go.Callee.value (Go.Operand.func 21), args := #[Go.Operand.tmp 49], argTypes := #[39] }, type := 3, pos := "law.go:89", after := #[{ on := 19, ground := Go.Ground.data }, { on := 18, ground := Go.Ground.chain }, { on := 18, ground := Go.Ground.guard }], guard := some (18, true) }) rfl (fun K hK => ?_) AllReadyH.nil
          go_simp
          (go_at_call 21; refine (size_any (lo : Int) (hi : Int) _ (by omega)).mono ?_; rintro e w1 ⟨rfl, g1⟩; rw [HS.out])
          (try go_wp2_with fail)
          refine hK.out _ _ ?hS (fun hHeld => ?_)
          case hS => (try dsimp only); (apply keep_four <;> assumption)
          clear hK K
          (try simp only [Act.put, List.setIfInBounds_toArray, List.set_cons_zero, List.set_cons_succ])
          refine wpAnyH_ready (rs := [26]) (by kernel_rfl) (by simp) ?_
          refine AllReadyH.cons (o := { dst := some 56, op := Go.Op.call { callee := Go.Callee.value (Go.Operand.func 21), args := #[Go.Operand.tmp 55], argTypes := #[39] }, type := 3, pos := "law.go:89", after := #[{ on := 25, ground := Go.Ground.data }, { on := 20, ground := Go.Ground.chain }, { on := 18, ground := Go.Ground.guard }], guard := some (18, true) }) rfl (fun K hK => ?_) AllReadyH.nil
          go_simp
          (go_at_call 21; refine (size_any (x : Int) (lo : Int) _ (by omega)).mono ?_; rintro e w1 ⟨rfl, g1⟩; rw [HP.out])
          (try go_wp2_with fail)
          refine hK.out _ _ ?hS (fun hHeld => ?_)
          case hS => (try dsimp only); (apply keep_four <;> assumption)
          clear hK K
          (try simp only [Act.put, List.setIfInBounds_toArray, List.set_cons_zero, List.set_cons_succ])
          refine wpAnyH_take (i := 27) (oi := { dst := some 57, op := Go.Op.binOp Go.BinOp.gtr 3 (Go.Operand.tmp 50) (Go.Operand.tmp 56) 3, type := 4, pos := "law.go:89", after := #[{ on := 20, ground := Go.Ground.data }, { on := 26, ground := Go.Ground.data }, { on := 18, ground := Go.Ground.guard }], guard := some (18, true) }) (v := ?v81) rfl (by kernel_rfl) (by kernel_rfl) (by kernel_rfl) (fun _ _ _ h => h) (Or.inl ⟨by rfl, ?hy⟩) (by assumption) ?_
          case hy => intro w hSw; (try dsimp only at hSw); first | (go_simp; done) | (go_simp; with_reducible rfl)
          (try simp only [Act.put, List.setIfInBounds_toArray, List.set_cons_zero, List.set_cons_succ])
          refine wpAnyH_take (i := 28) (oi := { dst := some 58, op := Go.Op.pick (Go.Operand.tmp 48) (Go.Operand.tmp 57) (Go.Operand.const (Go.Value.bool false)), type := 4, pos := "law.go:89", after := #[{ on := 18, ground := Go.Ground.data }, { on := 27, ground := Go.Ground.data }, { on := 15, ground := Go.Ground.guard }], guard := some (15, false) }) (v := ?v82) rfl (by kernel_rfl) (by kernel_rfl) (by kernel_rfl) (fun _ _ _ h => h) (Or.inl ⟨by rfl, ?hy⟩) (by assumption) ?_
          case hy => intro w hSw; (try dsimp only at hSw); first | (go_simp; done) | (go_simp; with_reducible rfl)
          (try simp only [Act.put, List.setIfInBounds_toArray, List.set_cons_zero, List.set_cons_succ])
          refine wpAnyH_take (i := 29) (oi := { dst := some 59, op := Go.Op.pick (Go.Operand.tmp 45) (Go.Operand.const (Go.Value.bool true)) (Go.Operand.tmp 58), type := 4, pos := "law.go:89", after := #[{ on := 15, ground := Go.Ground.data }, { on := 28, ground := Go.Ground.data }], guard := none }) (v := ?v83) rfl (by kernel_rfl) (by kernel_rfl) (by kernel_rfl) (fun _ _ _ h => h) (Or.inl ⟨by rfl, ?hy⟩) (by assumption) ?_
          case hy => intro w hSw; (try dsimp only at hSw); first | (go_simp; done) | (go_simp; with_reducible rfl)
          (try simp only [Act.put, List.setIfInBounds_toArray, List.set_cons_zero, List.set_cons_succ])
          refine wpAnyH_done (by kernel_rfl) ?_ _
          obtain ⟨hgr, hk1, hk2, _, _⟩ := hHeld
          have HG2 : Hid (Grew W1 w1) := Lib.hid (HG0.out.trans hgr)
          clear hgr
          rename World => W3
          have HR3 : Hid (RdR W3.heap.size W3 (some ⟨w.heap.size, 0, none⟩) (evenV A B)) := Lib.hid (HB1.out.rd.grow HG2.out)
          have hgl := World.block_lt_of_cell? W3 _ hk1
          go_wp2_with fail
          refine (size_any (lo : Int) (hi : Int) _ hlh).mono ?_
          rintro e w4 ⟨rfl, g4⟩
          rw [HS.out]
          have HG4 : Hid (Grew W1 w4) := Lib.hid (HG2.out.trans g4)
          have hk3 := (Below.cell g4 (p := ⟨g, 0, none⟩) hgl).trans hk1
          have hk4 := (Below.cell g4 (p := ⟨g, 1, none⟩) hgl).trans hk2
          have HR4 := Lib.hid (HR3.out.grow g4)
          have hg4 := Nat.lt_of_lt_of_le hgl g4.size
          clear g4 hk1 hk2
          have hs2 := HS2.out
          have HV1 : Hid (ofV (lo : Int) (evenV A B) = (j : Int) + 1) := Lib.hid (HO.out _ (by omega) (by omega))
          have HV2 : Hid (ofV ((hi : Int) - 1) (evenV A B) = (j : Int) + 1) := Lib.hid (HO.out _ (by omega) (by omega))
          have hh0 : 1 ≤ hi := by omega
          clear hs2
          go_wp2_with fail
          refine (of_n (m := B) (lo : Int) _ B (evenV A B) _ (evenV_len A B) (by omega) HR4.out).mono ?_
          rintro e w5 ⟨rfl, g5⟩
          rw [HV1.out]
          have hk5 := (Below.cell g5 (p := ⟨g, 0, none⟩) hg4).trans hk3
          have hk6 := (Below.cell g5 (p := ⟨g, 1, none⟩) hg4).trans hk4
          have HR5 := Lib.hid (HR4.out.grow g5)
          have HG5 : Hid (Grew W1 w5) := Lib.hid (HG4.out.trans g5)
          clear g5 hk3 hk4
          go_wp2_with fail
          refine (of_n (m := B) ((hi : Int) - 1) _ B (evenV A B) _ (evenV_len A B) (by omega) HR5.out).mono ?_
          rintro e w6 ⟨rfl, g6⟩
          rw [HV2.out]
          have HG6 : Hid (Grew W1 w6) := Lib.hid (HG5.out.trans g6)
          clear g6 hk5 hk6
          go_wp2_with fail
          go_roundw
          case rel => exact ⟨j + 1 + 1, by omega, by go_num, HG6⟩
          case measure => simp [intOf]; omega

        · skip
          obtain ⟨hd1, hd2, _⟩ := (HB1.out.grow HG.out).at (k := j) (by omega)
          rw [evenV_at (show j < B by omega)] at hd1 hd2
          obtain ⟨p, hp⟩ : ∃ p : Nat, stV A B (j + 1) = stV A B j + p ∧ q ≤ p ∧ (j + 1 < A % B → p = q + 1) ∧ p ≤ 501 := by
            rcases size_cases (i := j) HQ.out with ⟨h, h'⟩ | ⟨h, h'⟩
            · exact ⟨q + 1, by omega, by omega, fun _ => rfl, by omega⟩
            · exact ⟨q, by omega, by omega, fun h2 => by omega, by omega⟩
          obtain ⟨hp1, hp2, hp3, hp4⟩ := hp
          clear hp3 hm
          obtain ⟨x, hx⟩ : ∃ x, stV A B j = x := ⟨_, rfl⟩
          rw [hx] at hp1 hd1
          obtain ⟨lo, hlo⟩ : ∃ x, stV A B (j + 1) = x := ⟨_, rfl⟩
          rw [hlo] at hp1 hd2 hs hc1 HO
          obtain ⟨hi, hhi⟩ : ∃ x, stV A B (j + 1 + 1) = x := ⟨_, rfl⟩
          rw [hhi] at hs hc2 HO hle
          clear hx hlo hhi
          have HP : Hid (max (x : Int) (lo : Int) - x = (p : Int)) := Lib.hid (by omega)
          have HS : Hid (max (lo : Int) (hi : Int) - lo = (q : Int)) := Lib.hid (by omega)
          have HS2 := Lib.hid hs
          have hlh : (hi : Int) - lo < 9223372036854775808 := by omega
          clear hs
          have hlp : (lo : Int) - x < 9223372036854775808 := by omega
          clear hp1
          go_wp2_with fail
          have hr1 : (wr.alloc (.cells #[.int .i64 (lo : Int), .int .i64 (hi : Int)] 39)).cell? ⟨wr.heap.size, 0, none⟩ = some (.int .i64 (lo : Int)) := by unfold World.cell?; rw [(MapKept.heap_alloc wr _).1]; rfl
          have hr2 : (wr.alloc (.cells #[.int .i64 (lo : Int), .int .i64 (hi : Int)] 39)).cell? ⟨wr.heap.size, 1, none⟩ = some (.int .i64 (hi : Int)) := by unfold World.cell?; rw [(MapKept.heap_alloc wr _).1]; rfl
          have hT : (A : Int).tdiv (B : Int) = (q : Int) := by rw [Int.tdiv_eq_ediv_of_nonneg (by omega)]; exact hqI
          have hne1 : (((q : Int) + 1) != (q : Int)) = true := bne_iff_ne.2 (by omega)
          have hBz : ¬ B = 0 := by omega
          have hBz2 : ¬ (B : Int) = 0 := by omega
          have hwq : IntKind.i64.wrap (q : Int) = q := IntWalk.i64_in _ (by omega)
          have hwq1 : IntKind.i64.wrap ((q : Int) + 1) = q + 1 := IntWalk.i64_in _ (by omega)
          have gR : Grew wr (wr.alloc (.cells #[.int .i64 (lo : Int), .int .i64 (hi : Int)] 39)) := (Grew.refl _).alloc _
          have HG0 : Hid (Grew W1 (wr.alloc (.cells #[.int .i64 (lo : Int), .int .i64 (hi : Int)] 39))) := Lib.hid (HG.out.trans gR)
          have hd1' := (Below.cell gR (p := ⟨w.heap.size, j * 2, none⟩) (World.block_lt_of_cell? wr _ hd1)).trans hd1
          have hd2' := (Below.cell gR (p := ⟨w.heap.size, j * 2 + 1, none⟩) (World.block_lt_of_cell? wr _ hd2)).trans hd2
          clear hd1 hd2
          have hwj : IntKind.i64.wrap (j : Int) = j := IntWalk.i64_in _ (by omega)
          have hwj1 : IntKind.i64.wrap ((j : Int) + 1) = j + 1 := IntWalk.i64_in _ (by omega)
          have hj0 : (0 : Int) ≤ (j : Int) := by omega
          have hjB : (j : Int) < (B : Int) := by omega
          have hjp : (0 : Int) < (j : Int) + 1 := by omega
          have hqp : ¬ (p : Int) < (q : Int) := by omega
          clear gR hc1 hc2
          generalize wr.alloc (.cells #[.int .i64 (lo : Int), .int .i64 (hi : Int)] 39) = W0 at *
          generalize wr.heap.size = g at hr1 hr2 ⊢
          refine wp_region_held_drew (S := (fun W' => Grew W0 W' ∧ W'.cell? ⟨g, 0, none⟩ = some (.int .i64 (lo : Int)) ∧ W'.cell? ⟨g, 1, none⟩ = some (.int .i64 (hi : Int)) ∧ W'.cell? ⟨w.heap.size, j * 2, none⟩ = some (.int .i64 (x : Int)) ∧ W'.cell? ⟨w.heap.size, j * 2 + 1, none⟩ = some (.int .i64 (lo : Int)))) (by kernel_rfl) ⟨Below.drew (Below.refl _ _), hr1, hr2, hd1', hd2'⟩ (fun hHeld => ?_)
          refine wpAnyH_take (i := 0) (oi := { dst := some 30, op := Go.Op.load 39 (Go.Operand.tmp 9), type := 39, pos := "law.go:89", after := #[], guard := none }) (v := ?v84) rfl (by kernel_rfl) (by kernel_rfl) (by kernel_rfl) (fun _ _ _ h => h) (Or.inl ⟨by rfl, ?hy⟩) (by assumption) ?_
          case hy => intro w hSw; (try dsimp only at hSw); first | (go_simp; done) | (go_simp; with_reducible rfl)
          (try simp only [Act.put, List.setIfInBounds_toArray, List.set_cons_zero, List.set_cons_succ])
          refine wpAnyH_take (i := 2) (oi := { dst := some 32, op := Go.Op.move (Go.Operand.tmp 5), type := 3, pos := "law.go:89", after := #[], guard := none }) (v := ?v85) rfl (by kernel_rfl) (by kernel_rfl) (by kernel_rfl) (fun _ _ _ h => h) (Or.inl ⟨by rfl, ?hy⟩) (by assumption) ?_
          case hy => intro w hSw; (try dsimp only at hSw); first | (go_simp; done) | (go_simp; with_reducible rfl)
          (try simp only [Act.put, List.setIfInBounds_toArray, List.set_cons_zero, List.set_cons_succ])
          refine wpAnyH_take (i := 3) (oi := { dst := some 33, op := Go.Op.move (Go.Operand.tmp 6), type := 3, pos := "law.go:89", after := #[], guard := none }) (v := ?v86) rfl (by kernel_rfl) (by kernel_rfl) (by kernel_rfl) (fun _ _ _ h => h) (Or.inl ⟨by rfl, ?hy⟩) (by assumption) ?_
          case hy => intro w hSw; (try dsimp only at hSw); first | (go_simp; done) | (go_simp; with_reducible rfl)
          (try simp only [Act.put, List.setIfInBounds_toArray, List.set_cons_zero, List.set_cons_succ])
          refine wpAnyH_take (i := 4) (oi := { dst := some 34, op := Go.Op.binOp Go.BinOp.quo 3 (Go.Operand.tmp 32) (Go.Operand.tmp 33) 3, type := 3, pos := "law.go:89", after := #[{ on := 2, ground := Go.Ground.data }, { on := 3, ground := Go.Ground.data }], guard := none }) (v := ?v87) rfl (by kernel_rfl) (by kernel_rfl) (by kernel_rfl) (fun _ _ _ h => h) (Or.inl ⟨by rfl, ?hy⟩) (by assumption) ?_
          case hy => intro w hSw; (try dsimp only at hSw); first | (go_simp; done) | (go_simp; with_reducible rfl)
          (try simp only [Act.put, List.setIfInBounds_toArray, List.set_cons_zero, List.set_cons_succ])
          refine wpAnyH_ready (rs := [1]) (by kernel_rfl) (by simp) ?_
          refine AllReadyH.cons (o := { dst := some 31, op := Go.Op.call { callee := Go.Callee.value (Go.Operand.func 21), args := #[Go.Operand.tmp 30], argTypes := #[39] }, type := 3, pos := "law.go:89", after := #[{ on := 0, ground := Go.Ground.data }], guard := none }) rfl (fun K hK => ?_) AllReadyH.nil
          go_simp
          (go_at_call 21; refine (size_any (lo : Int) (hi : Int) _ (by omega)).mono ?_; rintro e w1 ⟨rfl, g1⟩; rw [HS.out])
          (try go_wp2_with fail)
          refine hK.out _ _ ?hS (fun hHeld => ?_)
          case hS => (try dsimp only); (apply keep_four <;> assumption)
          clear hK K
          (try simp only [Act.put, List.setIfInBounds_toArray, List.set_cons_zero, List.set_cons_succ])
          refine wpAnyH_take (i := 5) (oi := { dst := some 35, op := Go.Op.binOp Go.BinOp.neq 3 (Go.Operand.tmp 31) (Go.Operand.tmp 34) 3, type := 4, pos := "law.go:89", after := #[{ on := 1, ground := Go.Ground.data }, { on := 4, ground := Go.Ground.data }], guard := none }) (v := ?v88) rfl (by kernel_rfl) (by kernel_rfl) (by kernel_rfl) (fun _ _ _ h => h) (Or.inl ⟨by rfl, ?hy⟩) (by assumption) ?_
          case hy => intro w hSw; (try dsimp only at hSw); first | (go_simp; done) | (go_simp; with_reducible rfl)
          (try simp only [Act.put, List.setIfInBounds_toArray, List.set_cons_zero, List.set_cons_succ])
          refine wpAnyH_take (i := 6) (oi := { dst := some 36, op := Go.Op.move (Go.Operand.tmp 35), type := 4, pos := "law.go:89", after := #[{ on := 5, ground := Go.Ground.data }, { on := 1, ground := Go.Ground.chain }], guard := none }) (v := ?v89) rfl (by kernel_rfl) (by kernel_rfl) (by kernel_rfl) (fun _ _ _ h => h) (Or.inl ⟨by rfl, ?hy⟩) (by assumption) ?_
          case hy => intro w hSw; (try dsimp only at hSw); first | (go_simp; done) | (go_simp; with_reducible rfl)
          (try simp only [Act.put, List.setIfInBounds_toArray, List.set_cons_zero, List.set_cons_succ])
          refine wpAnyH_take (i := 7) (oi := { dst := some 37, op := Go.Op.load 39 (Go.Operand.tmp 9), type := 39, pos := "law.go:89", after := #[{ on := 6, ground := Go.Ground.guard }], guard := some (6, true) }) (v := undef) rfl (by kernel_rfl) (by kernel_rfl) (by kernel_rfl) (fun _ _ _ h => h) (Or.inr ⟨by rfl, rfl⟩) (by assumption) ?_
          (try simp only [Act.put, List.setIfInBounds_toArray, List.set_cons_zero, List.set_cons_succ])
          refine wpAnyH_take (i := 8) (oi := { dst := some 38, op := Go.Op.call { callee := Go.Callee.value (Go.Operand.func 21), args := #[Go.Operand.tmp 37], argTypes := #[39] }, type := 3, pos := "law.go:89", after := #[{ on := 7, ground := Go.Ground.data }, { on := 6, ground := Go.Ground.chain }, { on := 6, ground := Go.Ground.guard }], guard := some (6, true) }) (v := undef) rfl (by kernel_rfl) (by kernel_rfl) (by kernel_rfl) (fun _ _ _ h => h) (Or.inr ⟨by rfl, rfl⟩) (by assumption) ?_
          (try simp only [Act.put, List.setIfInBounds_toArray, List.set_cons_zero, List.set_cons_succ])
          refine wpAnyH_take (i := 9) (oi := { dst := some 39, op := Go.Op.move (Go.Operand.tmp 5), type := 3, pos := "law.go:89", after := #[{ on := 6, ground := Go.Ground.guard }], guard := some (6, true) }) (v := undef) rfl (by kernel_rfl) (by kernel_rfl) (by kernel_rfl) (fun _ _ _ h => h) (Or.inr ⟨by rfl, rfl⟩) (by assumption) ?_
          (try simp only [Act.put, List.setIfInBounds_toArray, List.set_cons_zero, List.set_cons_succ])
          refine wpAnyH_take (i := 10) (oi := { dst := some 40, op := Go.Op.move (Go.Operand.tmp 6), type := 3, pos := "law.go:89", after := #[{ on := 6, ground := Go.Ground.guard }], guard := some (6, true) }) (v := undef) rfl (by kernel_rfl) (by kernel_rfl) (by kernel_rfl) (fun _ _ _ h => h) (Or.inr ⟨by rfl, rfl⟩) (by assumption) ?_
          (try simp only [Act.put, List.setIfInBounds_toArray, List.set_cons_zero, List.set_cons_succ])
          refine wpAnyH_take (i := 11) (oi := { dst := some 41, op := Go.Op.binOp Go.BinOp.quo 3 (Go.Operand.tmp 39) (Go.Operand.tmp 40) 3, type := 3, pos := "law.go:89", after := #[{ on := 9, ground := Go.Ground.data }, { on := 10, ground := Go.Ground.data }, { on := 6, ground := Go.Ground.guard }], guard := some (6, true) }) (v := undef) rfl (by kernel_rfl) (by kernel_rfl) (by kernel_rfl) (fun _ _ _ h => h) (Or.inr ⟨by rfl, rfl⟩) (by assumption) ?_
          (try simp only [Act.put, List.setIfInBounds_toArray, List.set_cons_zero, List.set_cons_succ])
          refine wpAnyH_take (i := 12) (oi := { dst := some 42, op := Go.Op.binOp Go.BinOp.add 3 (Go.Operand.tmp 41) (Go.Operand.const (Go.Value.int Go.IntKind.i64 1)) 3, type := 3, pos := "law.go:89", after := #[{ on := 11, ground := Go.Ground.data }, { on := 6, ground := Go.Ground.guard }], guard := some (6, true) }) (v := undef) rfl (by kernel_rfl) (by kernel_rfl) (by kernel_rfl) (fun _ _ _ h => h) (Or.inr ⟨by rfl, rfl⟩) (by assumption) ?_
          (try simp only [Act.put, List.setIfInBounds_toArray, List.set_cons_zero, List.set_cons_succ])
          refine wpAnyH_take (i := 13) (oi := { dst := some 43, op := Go.Op.binOp Go.BinOp.neq 3 (Go.Operand.tmp 38) (Go.Operand.tmp 42) 3, type := 4, pos := "law.go:89", after := #[{ on := 8, ground := Go.Ground.data }, { on := 12, ground := Go.Ground.data }, { on := 6, ground := Go.Ground.guard }], guard := some (6, true) }) (v := undef) rfl (by kernel_rfl) (by kernel_rfl) (by kernel_rfl) (fun _ _ _ h => h) (Or.inr ⟨by rfl, rfl⟩) (by assumption) ?_
          (try simp only [Act.put, List.setIfInBounds_toArray, List.set_cons_zero, List.set_cons_succ])
          refine wpAnyH_take (i := 14) (oi := { dst := some 44, op := Go.Op.pick (Go.Operand.tmp 36) (Go.Operand.tmp 43) (Go.Operand.const (Go.Value.bool false)), type := 4, pos := "law.go:89", after := #[{ on := 6, ground := Go.Ground.data }, { on := 13, ground := Go.Ground.data }], guard := none }) (v := ?v97) rfl (by kernel_rfl) (by kernel_rfl) (by kernel_rfl) (fun _ _ _ h => h) (Or.inl ⟨by rfl, ?hy⟩) (by assumption) ?_
          case hy => intro w hSw; (try dsimp only at hSw); first | (go_simp; done) | (go_simp; with_reducible rfl)
          (try simp only [Act.put, List.setIfInBounds_toArray, List.set_cons_zero, List.set_cons_succ])
          refine wpAnyH_take (i := 15) (oi := { dst := some 45, op := Go.Op.move (Go.Operand.tmp 44), type := 4, pos := "law.go:89", after := #[{ on := 14, ground := Go.Ground.data }, { on := 8, ground := Go.Ground.chain }], guard := none }) (v := ?v98) rfl (by kernel_rfl) (by kernel_rfl) (by kernel_rfl) (fun _ _ _ h => h) (Or.inl ⟨by rfl, ?hy⟩) (by assumption) ?_
          case hy => intro w hSw; (try dsimp only at hSw); first | (go_simp; done) | (go_simp; with_reducible rfl)
          (try simp only [Act.put, List.setIfInBounds_toArray, List.set_cons_zero, List.set_cons_succ])
          refine wpAnyH_take (i := 16) (oi := { dst := some 46, op := Go.Op.move (Go.Operand.tmp 8), type := 3, pos := "law.go:89", after := #[{ on := 15, ground := Go.Ground.guard }], guard := some (15, false) }) (v := ?v99) rfl (by kernel_rfl) (by kernel_rfl) (by kernel_rfl) (fun _ _ _ h => h) (Or.inl ⟨by rfl, ?hy⟩) (by assumption) ?_
          case hy => intro w hSw; (try dsimp only at hSw); first | (go_simp; done) | (go_simp; with_reducible rfl)
          (try simp only [Act.put, List.setIfInBounds_toArray, List.set_cons_zero, List.set_cons_succ])
          refine wpAnyH_take (i := 17) (oi := { dst := some 47, op := Go.Op.binOp Go.BinOp.gtr 3 (Go.Operand.tmp 46) (Go.Operand.const (Go.Value.int Go.IntKind.i64 0)) 3, type := 4, pos := "law.go:89", after := #[{ on := 16, ground := Go.Ground.data }, { on := 15, ground := Go.Ground.guard }], guard := some (15, false) }) (v := ?v100) rfl (by kernel_rfl) (by kernel_rfl) (by kernel_rfl) (fun _ _ _ h => h) (Or.inl ⟨by rfl, ?hy⟩) (by assumption) ?_
          case hy => intro w hSw; (try dsimp only at hSw); first | (go_simp; done) | (go_simp; with_reducible rfl)
          (try simp only [Act.put, List.setIfInBounds_toArray, List.set_cons_zero, List.set_cons_succ])
          refine wpAnyH_take (i := 18) (oi := { dst := some 48, op := Go.Op.move (Go.Operand.tmp 47), type := 4, pos := "law.go:89", after := #[{ on := 17, ground := Go.Ground.data }, { on := 15, ground := Go.Ground.chain }, { on := 15, ground := Go.Ground.guard }], guard := some (15, false) }) (v := ?v101) rfl (by kernel_rfl) (by kernel_rfl) (by kernel_rfl) (fun _ _ _ h => h) (Or.inl ⟨by rfl, ?hy⟩) (by assumption) ?_
          case hy => intro w hSw; (try dsimp only at hSw); first | (go_simp; done) | (go_simp; with_reducible rfl)
          (try simp only [Act.put, List.setIfInBounds_toArray, List.set_cons_zero, List.set_cons_succ])
          refine wpAnyH_take (i := 19) (oi := { dst := some 49, op := Go.Op.load 39 (Go.Operand.tmp 9), type := 39, pos := "law.go:89", after := #[{ on := 18, ground := Go.Ground.guard }], guard := some (18, true) }) (v := ?v102) rfl (by kernel_rfl) (by kernel_rfl) (by kernel_rfl) (fun _ _ _ h => h) (Or.inl ⟨by rfl, ?hy⟩) (by assumption) ?_
          case hy => intro w hSw; (try dsimp only at hSw); first | (go_simp; done) | (go_simp; with_reducible rfl)
          (try simp only [Act.put, List.setIfInBounds_toArray, List.set_cons_zero, List.set_cons_succ])
          refine wpAnyH_take (i := 21) (oi := { dst := some 51, op := Go.Op.move (Go.Operand.tmp 7), type := 23, pos := "law.go:89", after := #[{ on := 18, ground := Go.Ground.guard }], guard := some (18, true) }) (v := ?v103) rfl (by kernel_rfl) (by kernel_rfl) (by kernel_rfl) (fun _ _ _ h => h) (Or.inl ⟨by rfl, ?hy⟩) (by assumption) ?_
          case hy => intro w hSw; (try dsimp only at hSw); first | (go_simp; done) | (go_simp; with_reducible rfl)
          (try simp only [Act.put, List.setIfInBounds_toArray, List.set_cons_zero, List.set_cons_succ])
          refine wpAnyH_take (i := 22) (oi := { dst := some 52, op := Go.Op.move (Go.Operand.tmp 8), type := 3, pos := "law.go:89", after := #[{ on := 18, ground := Go.Ground.guard }], guard := some (18, true) }) (v := ?v104) rfl (by kernel_rfl) (by kernel_rfl) (by kernel_rfl) (fun _ _ _ h => h) (Or.inl ⟨by rfl, ?hy⟩) (by assumption) ?_
          case hy => intro w hSw; (try dsimp only at hSw); first | (go_simp; done) | (go_simp; with_reducible rfl)
          (try simp only [Act.put, List.setIfInBounds_toArray, List.set_cons_zero, List.set_cons_succ])
          refine wpAnyH_take (i := 23) (oi := { dst := some 53, op := Go.Op.binOp Go.BinOp.sub 3 (Go.Operand.tmp 52) (Go.Operand.const (Go.Value.int Go.IntKind.i64 1)) 3, type := 3, pos := "law.go:89", after := #[{ on := 22, ground := Go.Ground.data }, { on := 18, ground := Go.Ground.guard }], guard := some (18, true) }) (v := ?v105) rfl (by kernel_rfl) (by kernel_rfl) (by kernel_rfl) (fun _ _ _ h => h) (Or.inl ⟨by rfl, ?hy⟩) (by assumption) ?_
          case hy => intro w hSw; (try dsimp only at hSw); first | (go_simp; done) | (go_simp; with_reducible rfl)
          (try simp only [Act.put, List.setIfInBounds_toArray, List.set_cons_zero, List.set_cons_succ])
          refine wpAnyH_take (i := 24) (oi := { dst := some 54, op := Go.Op.indexAddr 23 (Go.Operand.tmp 51) (Go.Operand.tmp 53), type := 0, pos := "law.go:89", after := #[{ on := 21, ground := Go.Ground.data }, { on := 23, ground := Go.Ground.data }, { on := 18, ground := Go.Ground.guard }], guard := some (18, true) }) (v := ?v106) rfl (by kernel_rfl) (by kernel_rfl) (by kernel_rfl) (fun _ _ _ h => h) (Or.inl ⟨by rfl, ?hy⟩) (by assumption) ?_
          case hy => intro w hSw; (try dsimp only at hSw); first | (go_simp; done) | (go_simp; with_reducible rfl)
          (try simp only [Act.put, List.setIfInBounds_toArray, List.set_cons_zero, List.set_cons_succ])
          refine wpAnyH_take (i := 25) (oi := { dst := some 55, op := Go.Op.load 39 (Go.Operand.tmp 54), type := 39, pos := "law.go:89", after := #[{ on := 24, ground := Go.Ground.data }, { on := 18, ground := Go.Ground.guard }], guard := some (18, true) }) (v := ?v107) rfl (by kernel_rfl) (by kernel_rfl) (by kernel_rfl) (fun _ _ _ h => h) (Or.inl ⟨by rfl, ?hy⟩) (by assumption) ?_
          case hy => intro w hSw; (try dsimp only at hSw); first | (go_simp; done) | (go_simp; with_reducible rfl)
          (try simp only [Act.put, List.setIfInBounds_toArray, List.set_cons_zero, List.set_cons_succ])
          refine wpAnyH_ready (rs := [20]) (by kernel_rfl) (by simp) ?_
          refine AllReadyH.cons (o := { dst := some 50, op := Go.Op.call { callee := Go.Callee.value (Go.Operand.func 21), args := #[Go.Operand.tmp 49], argTypes := #[39] }, type := 3, pos := "law.go:89", after := #[{ on := 19, ground := Go.Ground.data }, { on := 18, ground := Go.Ground.chain }, { on := 18, ground := Go.Ground.guard }], guard := some (18, true) }) rfl (fun K hK => ?_) AllReadyH.nil
          go_simp
          (go_at_call 21; refine (size_any (lo : Int) (hi : Int) _ (by omega)).mono ?_; rintro e w1 ⟨rfl, g1⟩; rw [HS.out])
          (try go_wp2_with fail)
          refine hK.out _ _ ?hS (fun hHeld => ?_)
          case hS => (try dsimp only); (apply keep_four <;> assumption)
          clear hK K
          (try simp only [Act.put, List.setIfInBounds_toArray, List.set_cons_zero, List.set_cons_succ])
          refine wpAnyH_ready (rs := [26]) (by kernel_rfl) (by simp) ?_
          refine AllReadyH.cons (o := { dst := some 56, op := Go.Op.call { callee := Go.Callee.value (Go.Operand.func 21), args := #[Go.Operand.tmp 55], argTypes := #[39] }, type := 3, pos := "law.go:89", after := #[{ on := 25, ground := Go.Ground.data }, { on := 20, ground := Go.Ground.chain }, { on := 18, ground := Go.Ground.guard }], guard := some (18, true) }) rfl (fun K hK => ?_) AllReadyH.nil
          go_simp
          (go_at_call 21; refine (size_any (x : Int) (lo : Int) _ (by omega)).mono ?_; rintro e w1 ⟨rfl, g1⟩; rw [HP.out])
          (try go_wp2_with fail)
          refine hK.out _ _ ?hS (fun hHeld => ?_)
          case hS => (try dsimp only); (apply keep_four <;> assumption)
          clear hK K
          (try simp only [Act.put, List.setIfInBounds_toArray, List.set_cons_zero, List.set_cons_succ])
          refine wpAnyH_take (i := 27) (oi := { dst := some 57, op := Go.Op.binOp Go.BinOp.gtr 3 (Go.Operand.tmp 50) (Go.Operand.tmp 56) 3, type := 4, pos := "law.go:89", after := #[{ on := 20, ground := Go.Ground.data }, { on := 26, ground := Go.Ground.data }, { on := 18, ground := Go.Ground.guard }], guard := some (18, true) }) (v := ?v108) rfl (by kernel_rfl) (by kernel_rfl) (by kernel_rfl) (fun _ _ _ h => h) (Or.inl ⟨by rfl, ?hy⟩) (by assumption) ?_
          case hy => intro w hSw; (try dsimp only at hSw); first | (go_simp; done) | (go_simp; with_reducible rfl)
          (try simp only [Act.put, List.setIfInBounds_toArray, List.set_cons_zero, List.set_cons_succ])
          refine wpAnyH_take (i := 28) (oi := { dst := some 58, op := Go.Op.pick (Go.Operand.tmp 48) (Go.Operand.tmp 57) (Go.Operand.const (Go.Value.bool false)), type := 4, pos := "law.go:89", after := #[{ on := 18, ground := Go.Ground.data }, { on := 27, ground := Go.Ground.data }, { on := 15, ground := Go.Ground.guard }], guard := some (15, false) }) (v := ?v109) rfl (by kernel_rfl) (by kernel_rfl) (by kernel_rfl) (fun _ _ _ h => h) (Or.inl ⟨by rfl, ?hy⟩) (by assumption) ?_
          case hy => intro w hSw; (try dsimp only at hSw); first | (go_simp; done) | (go_simp; with_reducible rfl)
          (try simp only [Act.put, List.setIfInBounds_toArray, List.set_cons_zero, List.set_cons_succ])
          refine wpAnyH_take (i := 29) (oi := { dst := some 59, op := Go.Op.pick (Go.Operand.tmp 45) (Go.Operand.const (Go.Value.bool true)) (Go.Operand.tmp 58), type := 4, pos := "law.go:89", after := #[{ on := 15, ground := Go.Ground.data }, { on := 28, ground := Go.Ground.data }], guard := none }) (v := ?v110) rfl (by kernel_rfl) (by kernel_rfl) (by kernel_rfl) (fun _ _ _ h => h) (Or.inl ⟨by rfl, ?hy⟩) (by assumption) ?_
          case hy => intro w hSw; (try dsimp only at hSw); first | (go_simp; done) | (go_simp; with_reducible rfl)
          (try simp only [Act.put, List.setIfInBounds_toArray, List.set_cons_zero, List.set_cons_succ])
          refine wpAnyH_done (by kernel_rfl) ?_ _
          obtain ⟨hgr, hk1, hk2, _, _⟩ := hHeld
          have HG2 : Hid (Grew W1 w1) := Lib.hid (HG0.out.trans hgr)
          clear hgr
          rename World => W3
          have HR3 : Hid (RdR W3.heap.size W3 (some ⟨w.heap.size, 0, none⟩) (evenV A B)) := Lib.hid (HB1.out.rd.grow HG2.out)
          have hgl := World.block_lt_of_cell? W3 _ hk1
          by_cases hq0 : q = 0
          · subst hq0
            go_wp2_with fail
            refine (size_any (lo : Int) (hi : Int) _ hlh).mono ?_
            rintro e w4 ⟨rfl, g4⟩
            rw [HS.out]
            have HG4 : Hid (Grew W1 w4) := Lib.hid (HG2.out.trans g4)
            rw [show ((0 : Nat) : Int) = 0 from rfl]
            clear g4
            go_wp2_with fail
            go_roundw
            case rel => exact ⟨j + 1 + 1, by omega, by go_num, HG4⟩
            case measure => simp [intOf]; omega
          · skip
            go_wp2_with fail
            refine (size_any (lo : Int) (hi : Int) _ hlh).mono ?_
            rintro e w4 ⟨rfl, g4⟩
            rw [HS.out]
            have HG4 : Hid (Grew W1 w4) := Lib.hid (HG2.out.trans g4)
            have hk3 := (Below.cell g4 (p := ⟨g, 0, none⟩) hgl).trans hk1
            have hk4 := (Below.cell g4 (p := ⟨g, 1, none⟩) hgl).trans hk2
            have HR4 := Lib.hid (HR3.out.grow g4)
            have hg4 := Nat.lt_of_lt_of_le hgl g4.size
            clear g4 hk1 hk2
            have hs2 := HS2.out
            have HV1 : Hid (ofV (lo : Int) (evenV A B) = (j : Int) + 1) := Lib.hid (HO.out _ (by omega) (by omega))
            have HV2 : Hid (ofV ((hi : Int) - 1) (evenV A B) = (j : Int) + 1) := Lib.hid (HO.out _ (by omega) (by omega))
            have hh0 : 1 ≤ hi := by omega
            clear hs2
            go_wp2_with fail
            refine (of_n (m := B) (lo : Int) _ B (evenV A B) _ (evenV_len A B) (by omega) HR4.out).mono ?_
            rintro e w5 ⟨rfl, g5⟩
            rw [HV1.out]
            have hk5 := (Below.cell g5 (p := ⟨g, 0, none⟩) hg4).trans hk3
            have hk6 := (Below.cell g5 (p := ⟨g, 1, none⟩) hg4).trans hk4
            have HR5 := Lib.hid (HR4.out.grow g5)
            have HG5 : Hid (Grew W1 w5) := Lib.hid (HG4.out.trans g5)
            clear g5 hk3 hk4
            go_wp2_with fail
            refine (of_n (m := B) ((hi : Int) - 1) _ B (evenV A B) _ (evenV_len A B) (by omega) HR5.out).mono ?_
            rintro e w6 ⟨rfl, g6⟩
            rw [HV2.out]
            have HG6 : Hid (Grew W1 w6) := Lib.hid (HG5.out.trans g6)
            clear g6 hk5 hk6
            go_wp2_with fail
            go_roundw
            case rel => exact ⟨j + 1 + 1, by omega, by go_num, HG6⟩
            case measure => simp [intOf]; omega

    · obtain rfl : i = B := by omega
      have HR1 := Lib.hid (HB1.out.rd.grow HG.out)
      have HGw := Lib.hid (HG1.out.trans HG.out)
      go_wp2_with fail
      refine (palive_any _).mono ?_
      rintro e w2 ⟨rfl, g2⟩
      have HR2 := Lib.hid (HR1.out.grow g2)
      have HG2 := Lib.hid (HGw.out.trans g2)
      clear g2
      go_wp2_with fail
      refine (back_n (m := i) _ i (evenV A i) _ (evenV_len A i) (by omega) HR2.out).mono ?_
      rintro e w3 ⟨⟨s3, c3, rfl, hb3⟩, g3⟩
      have HB3 := Lib.hid hb3
      have HR3 := Lib.hid (HR2.out.grow g3)
      have HG3 := Lib.hid (HG2.out.trans g3)
      clear g3 hb3
      go_wp2_with fail
      refine (rcovers_n (m := i) A s3 c3 (evenV A i) _ (evenV_len A i) (by omega) HB3.out.rd).mono ?_
      rintro e w4 ⟨rfl, rfl⟩
      rw [evenV_covers hB0]
      go_wp2_with fail
      refine (of_n (m := i) A _ i (evenV A i) _ (evenV_len A i) (by omega) HR3.out).mono ?_
      rintro e w5 ⟨rfl, g5⟩
      rw [ofV_even_out hB0 (Or.inr (Int.le_refl _))]
      have HR5 := Lib.hid (HR3.out.grow g5)
      have HG5 := Lib.hid (HG3.out.trans g5)
      clear g5
      go_wp2_with fail
      refine (of_n (m := i) (-1) _ i (evenV A i) _ (evenV_len A i) (by omega) HR5.out).mono ?_
      rintro e w6 ⟨rfl, g6⟩
      rw [ofV_even_out hB0 (Or.inl (by omega))]
      have HG6 := Lib.hid (HG5.out.trans g6)
      clear g6
      go_wp2_with fail
      go_ret
      exact ⟨by simp, HG6.out⟩

set_option maxRecDepth 100000 in
theorem lifted (os : Os) (started : os.Started) (H : Type) (enc : TypeId × Value → H) :
    ReturnsInHanded {} Try.checked os 7 .any (Rows.partSizesSpec.pre6 enc Try.prog Try.f7 Rows.partSizesRow.domain false) (Rows.partSizesSpec.post enc Try.prog Try.f7 false true false false) := by
  refine returnsInHanded_of_change (C := Try.checked) own started (by kernel_rfl) Try.func7
    (ChangeSpec.witness6 (enc := enc) (C := Try.checked) false ⟨#[], #[.int .u16 0, .int .u8 0], []⟩ 8 (by kernel_rfl) (by kernel_rfl) (by kernel_rfl) (by kernel_rfl)) ?_
  intro W base args ds gs before hval0 hW hcnd _
  have hval : ∀ (j : Nat) t v, Try.f7.params[j]? = some t → args[j]? = some v → Value.okWide Try.prog W .any base t v := hval0
  have hW' := hW
  obtain ⟨p, q, hA0, hV, rfl, hfz, hnd⟩ := hW
  have hA : DataW.TrodAll enc Try.prog W 0 (fun _ => true) true Try.f7.params.toList args.toList ds p := hA0
  rw [Try.params7] at hA hval
  obtain ⟨v0, vs0, d0, ds0, p0, q0, hargs, rfl, rfl, h0, r0⟩ := trodAll_cons hA
  obtain ⟨v1, vs1, d1, ds1, p1, q1, rfl, rfl, rfl, h1, r1⟩ := trodAll_cons r0
  obtain ⟨rfl, rfl, rfl⟩ := trodAll_nil r1
  obtain rfl : args = #[v0, v1] := by cases args; simp_all
  obtain ⟨rfl, rfl⟩ := trodVars_none hV
  obtain ⟨a0, rfl, rfl, rfl, w0⟩ := open_int Try.underlying41 (hval 0 41 v0 rfl rfl) h0
  obtain ⟨a1, rfl, rfl, rfl, w1⟩ := open_int Try.underlying5 (hval 1 5 v1 rfl rfl) h1
  clear hA0 hval0
  refine (walk a0 a1 W w0 w1).mono fun e W' ⟨he, bel⟩ => ?_
  subst he
  exact ⟨_, rfl, _, _, _, [], _, [], hW', trodAll_mk1 (shut_bool Try.underlying4 _), (trodAll_cons_mk (shut_int Try.underlying41 w0) (trodAll_cons_mk (shut_int Try.underlying5 w1) trodAll_mk0)), rfl, bel.frame _, fun h => by cases h⟩

theorem over : Rows.partSizesRow.holds Try.pinned (OpenSpec.ofChange Rows.partSizesSpec) :=
  OpenClaim.holds_of_wide 7 Try.f7 rfl rfl rfl rfl rfl rfl rfl ⟨rfl, rfl, rfl, rfl, rfl⟩ rfl rfl rfl rfl rfl (by kernel_rfl) Try.func7 (by kernel_rfl)
    (of_decide_eq_true (by kernel_rfl)) (by unfold Func.isWrapper; first | (rw [if_pos (by decide +kernel)]; kernel_rfl) | (rw [if_neg (by decide +kernel)]; exact ⟨rfl, rfl⟩))
    (fun os started H enc _ => lifted os started H enc)

theorem proved : Rows.PartSizesSaid := over
end Go.Proofs.Ytfnffpogbkefaaa.partSizes
