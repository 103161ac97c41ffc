/- Back of package mat: the product of the transposed matrix with a column, or nothing. Conditions: elements are within the bounds of int64; at most 2^40 of them. -/
import Derived.Test.YtciocdjpgknihaaUh
namespace Go.Proofs.Ytciocdjpgknihaa
open Go.RowKit Go.Shelf
attribute [local go_sem] Oper.semAt_some

theorem pair_any2 (w : World) (x y : Int) :
    Calls Try.prog 67 #[.slice (some ⟨w.heap.size, 0, none⟩) 2 2] (w.alloc (.cells #[.int .i64 x, .int .i64 y] 2)) fun e w' => e = .returned (.int .i64 (wrap64 (x + y))) ∧ Grew (w.alloc (.cells #[.int .i64 x, .int .i64 y] 2)) w' :=
  (sum_any _ _ _ [x, y] _ (by simp) (pair_ints w x y)).mono fun e w' ⟨he, hg⟩ => ⟨by rw [he, sumW_pair], hg⟩

theorem keep_l4 {V W W' : World} {g : Nat} {a b c d : Addr} {x y z u : Value} (k : Grew W W') (h : V.grownBy W (some g) ∧ W.cell? a = some x ∧ W.cell? b = some y ∧ W.cell? c = some z ∧ W.cell? d = some u) :
    V.grownBy W' (some g) ∧ W'.cell? a = some x ∧ W'.cell? b = some y ∧ W'.cell? c = some z ∧ W'.cell? d = some u :=
  ⟨grownBy_trans h.1 (Grew.by' k _), (Below.cell k (World.block_lt_of_cell? W a h.2.1)).trans h.2.1, (Below.cell k (World.block_lt_of_cell? W b h.2.2.1)).trans h.2.2.1, (Below.cell k (World.block_lt_of_cell? W c h.2.2.2.1)).trans h.2.2.2.1, (Below.cell k (World.block_lt_of_cell? W d h.2.2.2.2)).trans h.2.2.2.2⟩
theorem keep_s4 {V W : World} {g j : Nat} {a b c d : Addr} {x y z u v : Value} (h : V.grownBy W (some g) ∧ W.cell? a = some x ∧ W.cell? b = some y ∧ W.cell? c = some z ∧ W.cell? d = some u) (ha : g ≠ a.block) (hb : g ≠ b.block) (hc : g ≠ c.block) (hd : g ≠ d.block) :
    V.grownBy (W.setCell ⟨g, j, none⟩ v) (some g) ∧ (W.setCell ⟨g, j, none⟩ v).cell? a = some x ∧ (W.setCell ⟨g, j, none⟩ v).cell? b = some y ∧ (W.setCell ⟨g, j, none⟩ v).cell? c = some z ∧ (W.setCell ⟨g, j, none⟩ v).cell? d = some u :=
  ⟨grownBy_trans h.1 (grownBy_setCell1 W ⟨g, j, none⟩ v), (World.cell?_setCell_far W ⟨g, j, none⟩ a v ha).trans h.2.1, (World.cell?_setCell_far W ⟨g, j, none⟩ b v hb).trans h.2.2.1, (World.cell?_setCell_far W ⟨g, j, none⟩ c v hc).trans h.2.2.2.1, (World.cell?_setCell_far W ⟨g, j, none⟩ d v hd).trans h.2.2.2.2⟩

set_option linter.unusedSimpArgs false in
set_option maxRecDepth 100000 in
set_option maxHeartbeats 4000000 in
theorem back1_any {L Y Q n r c cy : Nat} {ay : Option Addr} {x q : Int} {bs ys : List Int} (V : World) (hB : Buf L V (some ⟨L, 0, none⟩) n n bs) (hl : Boxed V (L + 1) 32 (.slice (some ⟨L, 0, none⟩) n n)) (hy : Boxed V Y 32 (.slice ay ys.length cy)) (hq : Boxed V Q 3 (.int .i64 q))
    (hyr : Rd L V ay ys) (hr : r < ys.length) (hc : c < n) (hY : Y < L) (hQ : Q < L) (fx : In64 x) (fy : Fit ys) :
    Calls Try.prog 78 #[.int .i64 r, .int .i64 c, .int .i64 x, .pointer (some ⟨L + 1, 0, none⟩), .pointer (some ⟨Y, 0, none⟩), .pointer (some ⟨Q, 0, none⟩)] V fun e W' =>
      (∃ v, e = .returned v) ∧ Buf L W' (some ⟨L, 0, none⟩) n n (bs.set c (wrap64 (el bs c + mulV x (el ys r) q))) ∧ V.grownBy W' (some L) ∧ Below L V W' := by
  obtain ⟨yb, yo, rfl, hyb, hyc⟩ := hyr.at hr
  have l0 := hl.cell
  have y0 := hy.cell
  have q0 := hq.cell
  obtain ⟨gx, ex, _, hLl, hcL, hfL⟩ := hB.at hc
  obtain rfl : L = gx := (by injection ex with ex; injection ex)
  have HB := Lib.hid hB
  have HFY := Lib.hid (fy r hr)
  have HFX := Lib.hid fx
  generalize el ys r = y at *
  obtain ⟨s, hs⟩ : ∃ s, el bs c = s := ⟨_, rfl⟩
  rw [hs] at hcL ⊢
  have HSV := Lib.hid hs
  clear hs
  clear hB hl hy hq hyr fx fy ex
  go_enter Try.func78, Try.ntmps78
  go_wp2_with fail
  refine wp_region_held_drew (S := (fun W' => V.grownBy W' (some L) ∧ W'.cell? ⟨L + 1, 0, none⟩ = some (.slice (some ⟨L, 0, none⟩) n n) ∧ W'.cell? ⟨Y, 0, none⟩ = some (.slice (some ⟨yb, yo, none⟩) ys.length cy) ∧ W'.cell? ⟨Q, 0, none⟩ = some (.int .i64 q) ∧ W'.cell? ⟨yb, yo + r, none⟩ = some (.int .i64 y))) (by kernel_rfl) ⟨(grown_refl V _).drew1, l0, y0, q0, hyc⟩ (fun hHeld => ?_)
  refine wpAnyH_take (i := 0) (oi := { dst := some 9, op := Go.Op.load 32 (Go.Operand.tmp 3), type := 32, pos := _, after := #[], guard := none }) (v := ?v1) rfl (by kernel_rfl) (by kernel_rfl) (by kernel_rfl) (fun _ _ _ h => h) (Or.inl ⟨by kernel_rfl, ?hy1⟩) (by assumption) ?_
  case hy1 => intro w hSw; (try dsimp only at hSw); first | (go_simp; done) | (go_simp; with_reducible rfl)
  (try simp only [Act.put, List.setIfInBounds_toArray, List.set_cons_zero, List.set_cons_succ])
  refine wpAnyH_take (i := 1) (oi := { dst := some 10, op := Go.Op.move (Go.Operand.tmp 1), type := 3, pos := _, after := #[], guard := none }) (v := ?v2) rfl (by kernel_rfl) (by kernel_rfl) (by kernel_rfl) (fun _ _ _ h => h) (Or.inl ⟨by kernel_rfl, ?hy2⟩) (by assumption) ?_
  case hy2 => intro w hSw; (try dsimp only at hSw); first | (go_simp; done) | (go_simp; with_reducible rfl)
  (try simp only [Act.put, List.setIfInBounds_toArray, List.set_cons_zero, List.set_cons_succ])
  refine wpAnyH_take (i := 2) (oi := { dst := some 11, op := Go.Op.load 32 (Go.Operand.tmp 3), type := 32, pos := _, after := #[], guard := none }) (v := ?v3) rfl (by kernel_rfl) (by kernel_rfl) (by kernel_rfl) (fun _ _ _ h => h) (Or.inl ⟨by kernel_rfl, ?hy3⟩) (by assumption) ?_
  case hy3 => intro w hSw; (try dsimp only at hSw); first | (go_simp; done) | (go_simp; with_reducible rfl)
  (try simp only [Act.put, List.setIfInBounds_toArray, List.set_cons_zero, List.set_cons_succ])
  refine wpAnyH_take (i := 3) (oi := { dst := some 12, op := Go.Op.move (Go.Operand.tmp 1), type := 3, pos := _, after := #[], guard := none }) (v := ?v4) rfl (by kernel_rfl) (by kernel_rfl) (by kernel_rfl) (fun _ _ _ h => h) (Or.inl ⟨by kernel_rfl, ?hy4⟩) (by assumption) ?_
  case hy4 => intro w hSw; (try dsimp only at hSw); first | (go_simp; done) | (go_simp; with_reducible rfl)
  (try simp only [Act.put, List.setIfInBounds_toArray, List.set_cons_zero, List.set_cons_succ])
  refine wpAnyH_take (i := 4) (oi := { dst := some 13, op := Go.Op.indexAddr 32 (Go.Operand.tmp 11) (Go.Operand.tmp 12), type := 0, pos := _, after := #[{ on := 2, ground := Go.Ground.data }, { on := 3, ground := Go.Ground.data }], guard := none }) (v := ?v5) rfl (by kernel_rfl) (by kernel_rfl) (by kernel_rfl) (fun _ _ _ h => h) (Or.inl ⟨by kernel_rfl, ?hy5⟩) (by assumption) ?_
  case hy5 => intro w hSw; (try dsimp only at hSw); first | (go_simp; done) | (go_simp; with_reducible rfl)
  (try simp only [Act.put, List.setIfInBounds_toArray, List.set_cons_zero, List.set_cons_succ])
  refine wpAnyH_take (i := 6) (oi := { dst := some 15, op := Go.Op.move (Go.Operand.tmp 2), type := 2, pos := _, after := #[], guard := none }) (v := ?v6) rfl (by kernel_rfl) (by kernel_rfl) (by kernel_rfl) (fun _ _ _ h => h) (Or.inl ⟨by kernel_rfl, ?hy6⟩) (by assumption) ?_
  case hy6 => intro w hSw; (try dsimp only at hSw); first | (go_simp; done) | (go_simp; with_reducible rfl)
  (try simp only [Act.put, List.setIfInBounds_toArray, List.set_cons_zero, List.set_cons_succ])
  refine wpAnyH_take (i := 7) (oi := { dst := some 16, op := Go.Op.load 32 (Go.Operand.tmp 4), type := 32, pos := _, after := #[], guard := none }) (v := ?v7) rfl (by kernel_rfl) (by kernel_rfl) (by kernel_rfl) (fun _ _ _ h => h) (Or.inl ⟨by kernel_rfl, ?hy7⟩) (by assumption) ?_
  case hy7 => intro w hSw; (try dsimp only at hSw); first | (go_simp; done) | (go_simp; with_reducible rfl)
  (try simp only [Act.put, List.setIfInBounds_toArray, List.set_cons_zero, List.set_cons_succ])
  refine wpAnyH_take (i := 8) (oi := { dst := some 17, op := Go.Op.move (Go.Operand.tmp 0), type := 3, pos := _, after := #[], guard := none }) (v := ?v8) rfl (by kernel_rfl) (by kernel_rfl) (by kernel_rfl) (fun _ _ _ h => h) (Or.inl ⟨by kernel_rfl, ?hy8⟩) (by assumption) ?_
  case hy8 => intro w hSw; (try dsimp only at hSw); first | (go_simp; done) | (go_simp; with_reducible rfl)
  (try simp only [Act.put, List.setIfInBounds_toArray, List.set_cons_zero, List.set_cons_succ])
  refine wpAnyH_take (i := 9) (oi := { dst := some 18, op := Go.Op.indexAddr 32 (Go.Operand.tmp 16) (Go.Operand.tmp 17), type := 0, pos := _, after := #[{ on := 7, ground := Go.Ground.data }, { on := 8, ground := Go.Ground.data }], guard := none }) (v := ?v9) rfl (by kernel_rfl) (by kernel_rfl) (by kernel_rfl) (fun _ _ _ h => h) (Or.inl ⟨by kernel_rfl, ?hy9⟩) (by assumption) ?_
  case hy9 => intro w hSw; (try dsimp only at hSw); first | (go_simp; done) | (go_simp; with_reducible rfl)
  (try simp only [Act.put, List.setIfInBounds_toArray, List.set_cons_zero, List.set_cons_succ])
  refine wpAnyH_take (i := 10) (oi := { dst := some 19, op := Go.Op.load 2 (Go.Operand.tmp 18), type := 2, pos := _, after := #[{ on := 9, ground := Go.Ground.data }], guard := none }) (v := ?v10) rfl (by kernel_rfl) (by kernel_rfl) (by kernel_rfl) (fun _ _ _ h => h) (Or.inl ⟨by kernel_rfl, ?hy10⟩) (by assumption) ?_
  case hy10 => intro w hSw; (try dsimp only at hSw); first | (go_simp; done) | (go_simp; with_reducible rfl)
  (try simp only [Act.put, List.setIfInBounds_toArray, List.set_cons_zero, List.set_cons_succ])
  refine wpAnyH_take (i := 11) (oi := { dst := some 20, op := Go.Op.load 3 (Go.Operand.tmp 5), type := 3, pos := _, after := #[], guard := none }) (v := ?v11) rfl (by kernel_rfl) (by kernel_rfl) (by kernel_rfl) (fun _ _ _ h => h) (Or.inl ⟨by kernel_rfl, ?hy11⟩) (by assumption) ?_
  case hy11 => intro w hSw; (try dsimp only at hSw); first | (go_simp; done) | (go_simp; with_reducible rfl)
  (try simp only [Act.put, List.setIfInBounds_toArray, List.set_cons_zero, List.set_cons_succ])
  refine wpAnyH_ready (rs := [5, 12]) (by kernel_rfl) (by simp) ?_
  refine (AllReadyH.cons (o := { dst := some 14, op := Go.Op.load 2 (Go.Operand.tmp 13), type := 2, pos := _, after := #[{ on := 4, ground := Go.Ground.data }], guard := none }) rfl (fun K hK => ?b12_5) (AllReadyH.cons (o := { dst := some 21, op := Go.Op.call { callee := Go.Callee.value (Go.Operand.func 68), args := #[Go.Operand.tmp 15, Go.Operand.tmp 19, Go.Operand.tmp 20], argTypes := #[2, 2, 3] }, type := 2, pos := _, after := #[{ on := 6, ground := Go.Ground.data }, { on := 10, ground := Go.Ground.data }, { on := 11, ground := Go.Ground.data }], guard := none }) rfl (fun K hK => ?b12_12) AllReadyH.nil))
  case b12_5 =>
    go_simp
    skip
    (try go_wp2_with fail)
    refine hK.out _ _ ?hS13 (fun hHeld => ?_)
    case hS13 => (try dsimp only); assumption
    clear hK K
    (try simp only [Act.put, List.setIfInBounds_toArray, List.set_cons_zero, List.set_cons_succ])
    refine wpAnyH_ready (rs := [12]) (by kernel_rfl) (by simp) ?_
    refine AllReadyH.cons (o := { dst := some 21, op := Go.Op.call { callee := Go.Callee.value (Go.Operand.func 68), args := #[Go.Operand.tmp 15, Go.Operand.tmp 19, Go.Operand.tmp 20], argTypes := #[2, 2, 3] }, type := 2, pos := _, after := #[{ on := 6, ground := Go.Ground.data }, { on := 10, ground := Go.Ground.data }, { on := 11, ground := Go.Ground.data }], guard := none }) rfl (fun K hK => ?_) AllReadyH.nil
    go_simp
    (go_at_call 68; refine (mul_any x y q _ HFX.out.1 HFX.out.2 HFY.out.1 HFY.out.2).mono ?_; rintro e w2 ⟨rfl, g2⟩; have hb2 := HB.out.grow ((Grew.drew1 (Grew.refl V)).trans g2); obtain ⟨gy, ey, _, hLl2, hcL2, hfL2⟩ := hb2.at hc; obtain rfl : L = gy := (by injection ey with ey; injection ey); have HB2 := Lib.hid hb2; rw [HSV.out] at hcL2; clear ey hb2)
    (try go_wp2_with fail)
    refine hK.out _ _ ?hS15 (fun hHeld => ?_)
    case hS15 => (try dsimp only); exact keep_l4 g2 (by assumption)
    clear hK K
    (try simp only [Act.put, List.setIfInBounds_toArray, List.set_cons_zero, List.set_cons_succ])
    refine wpAnyH_ready (rs := [13]) (by kernel_rfl) (by simp) ?_
    refine AllReadyH.cons (o := { dst := some 22, op := Go.Op.buildSlice 23 2 #[(0, Go.Operand.tmp 14), (1, Go.Operand.tmp 21)], type := 23, pos := _, after := #[{ on := 5, ground := Go.Ground.data }, { on := 12, ground := Go.Ground.data }], guard := none }) rfl (fun K hK => ?_) AllReadyH.nil
    go_simp
    skip
    (try go_wp2_with fail)
    refine hK.out _ _ ?hS17 (fun hHeld => ?_)
    case hS17 => (try dsimp only); exact keep_l4 ((Grew.refl _).alloc _) (by assumption)
    clear hK K
    (try simp only [Act.put, List.setIfInBounds_toArray, List.set_cons_zero, List.set_cons_succ])
    refine wpAnyH_ready (rs := [14]) (by kernel_rfl) (by simp) ?_
    refine AllReadyH.cons (o := { dst := some 23, op := Go.Op.call { callee := Go.Callee.value (Go.Operand.func 67), args := #[Go.Operand.tmp 22], argTypes := #[23] }, type := 2, pos := _, after := #[{ on := 13, ground := Go.Ground.data }, { on := 12, ground := Go.Ground.chain }], guard := none }) rfl (fun K hK => ?_) AllReadyH.nil
    go_simp
    (go_at_call 67; refine (pair_any2 _ _ _).mono ?_; rintro e w3 ⟨rfl, g3⟩; have hb3 := (HB2.out.grow ((Grew.refl w2).alloc _)).grow g3; obtain ⟨gz, ez, _, hLl3, hcL3, hfL3⟩ := hb3.at hc; obtain rfl : L = gz := (by injection ez with ez; injection ez); have HB3 := Lib.hid hb3; rw [HSV.out] at hcL3; clear ez hb3)
    (try go_wp2_with fail)
    refine hK.out _ _ ?hS19 (fun hHeld => ?_)
    case hS19 => (try dsimp only); exact keep_l4 g3 (by assumption)
    clear hK K
    (try simp only [Act.put, List.setIfInBounds_toArray, List.set_cons_zero, List.set_cons_succ])
    refine wpAnyH_take (i := 15) (oi := { dst := some 24, op := Go.Op.indexAddr 32 (Go.Operand.tmp 9) (Go.Operand.tmp 10), type := 0, pos := _, after := #[{ on := 0, ground := Go.Ground.data }, { on := 1, ground := Go.Ground.data }, { on := 0, ground := Go.Ground.phase }, { on := 1, ground := Go.Ground.phase }, { on := 2, ground := Go.Ground.phase }, { on := 3, ground := Go.Ground.phase }, { on := 4, ground := Go.Ground.phase }, { on := 5, ground := Go.Ground.phase }, { on := 6, ground := Go.Ground.phase }, { on := 7, ground := Go.Ground.phase }, { on := 8, ground := Go.Ground.phase }, { on := 9, ground := Go.Ground.phase }, { on := 10, ground := Go.Ground.phase }, { on := 11, ground := Go.Ground.phase }, { on := 12, ground := Go.Ground.phase }, { on := 13, ground := Go.Ground.phase }, { on := 14, ground := Go.Ground.phase }], guard := none }) (v := ?v20) rfl (by kernel_rfl) (by kernel_rfl) (by kernel_rfl) (fun _ _ _ h => h) (Or.inl ⟨by kernel_rfl, ?hy20⟩) (by assumption) ?_
    case hy20 => intro w hSw; (try dsimp only at hSw); first | (go_simp; done) | (go_simp; with_reducible rfl)
    (try simp only [Act.put, List.setIfInBounds_toArray, List.set_cons_zero, List.set_cons_succ])
    refine wpAnyH_ready (rs := [16]) (by kernel_rfl) (by simp) ?_
    refine AllReadyH.cons (o := { dst := none, op := Go.Op.store 2 (Go.Operand.tmp 24) (Go.Operand.tmp 23), type := 0, pos := _, after := #[{ on := 15, ground := Go.Ground.data }, { on := 14, ground := Go.Ground.data }, { on := 14, ground := Go.Ground.chain }, { on := 0, ground := Go.Ground.phase }, { on := 1, ground := Go.Ground.phase }, { on := 2, ground := Go.Ground.phase }, { on := 3, ground := Go.Ground.phase }, { on := 4, ground := Go.Ground.phase }, { on := 5, ground := Go.Ground.phase }, { on := 6, ground := Go.Ground.phase }, { on := 7, ground := Go.Ground.phase }, { on := 8, ground := Go.Ground.phase }, { on := 9, ground := Go.Ground.phase }, { on := 10, ground := Go.Ground.phase }, { on := 11, ground := Go.Ground.phase }, { on := 12, ground := Go.Ground.phase }, { on := 13, ground := Go.Ground.phase }, { on := 14, ground := Go.Ground.phase }], guard := none }) rfl (fun K hK => ?_) AllReadyH.nil
    go_simp
    skip
    (try go_wp2_with fail)
    refine hK.out _ _ ?hS22 (fun hHeld => ?_)
    case hS22 => (try dsimp only); exact keep_s4 (by assumption) (by show L ≠ L + 1; omega) (by show L ≠ Y; omega) (by show L ≠ Q; omega) (by show L ≠ yb; omega)
    clear hK K
    (try simp only [Act.put, List.setIfInBounds_toArray, List.set_cons_zero, List.set_cons_succ])
    refine wpAnyH_done (by kernel_rfl) ?_ _
    go_end0
    obtain ⟨hgr, _⟩ := hHeld
    exact ⟨⟨_, rfl⟩, HB3.out.set c _, hgr, grownBy_below hgr (Nat.le_refl _) (Nat.le_of_lt hLl)⟩
  case b12_12 =>
    go_simp
    (go_at_call 68; refine (mul_any x y q _ HFX.out.1 HFX.out.2 HFY.out.1 HFY.out.2).mono ?_; rintro e w2 ⟨rfl, g2⟩; have hb2 := HB.out.grow ((Grew.drew1 (Grew.refl V)).trans g2); obtain ⟨gy, ey, _, hLl2, hcL2, hfL2⟩ := hb2.at hc; obtain rfl : L = gy := (by injection ey with ey; injection ey); have HB2 := Lib.hid hb2; rw [HSV.out] at hcL2; clear ey hb2)
    (try go_wp2_with fail)
    refine hK.out _ _ ?hS23 (fun hHeld => ?_)
    case hS23 => (try dsimp only); exact keep_l4 g2 (by assumption)
    clear hK K
    (try simp only [Act.put, List.setIfInBounds_toArray, List.set_cons_zero, List.set_cons_succ])
    refine wpAnyH_ready (rs := [5]) (by kernel_rfl) (by simp) ?_
    refine AllReadyH.cons (o := { dst := some 14, op := Go.Op.load 2 (Go.Operand.tmp 13), type := 2, pos := _, after := #[{ on := 4, ground := Go.Ground.data }], guard := none }) rfl (fun K hK => ?_) AllReadyH.nil
    go_simp
    skip
    (try go_wp2_with fail)
    refine hK.out _ _ ?hS25 (fun hHeld => ?_)
    case hS25 => (try dsimp only); assumption
    clear hK K
    (try simp only [Act.put, List.setIfInBounds_toArray, List.set_cons_zero, List.set_cons_succ])
    refine wpAnyH_ready (rs := [13]) (by kernel_rfl) (by simp) ?_
    refine AllReadyH.cons (o := { dst := some 22, op := Go.Op.buildSlice 23 2 #[(0, Go.Operand.tmp 14), (1, Go.Operand.tmp 21)], type := 23, pos := _, after := #[{ on := 5, ground := Go.Ground.data }, { on := 12, ground := Go.Ground.data }], guard := none }) rfl (fun K hK => ?_) AllReadyH.nil
    go_simp
    skip
    (try go_wp2_with fail)
    refine hK.out _ _ ?hS27 (fun hHeld => ?_)
    case hS27 => (try dsimp only); exact keep_l4 ((Grew.refl _).alloc _) (by assumption)
    clear hK K
    (try simp only [Act.put, List.setIfInBounds_toArray, List.set_cons_zero, List.set_cons_succ])
    refine wpAnyH_ready (rs := [14]) (by kernel_rfl) (by simp) ?_
    refine AllReadyH.cons (o := { dst := some 23, op := Go.Op.call { callee := Go.Callee.value (Go.Operand.func 67), args := #[Go.Operand.tmp 22], argTypes := #[23] }, type := 2, pos := _, after := #[{ on := 13, ground := Go.Ground.data }, { on := 12, ground := Go.Ground.chain }], guard := none }) rfl (fun K hK => ?_) AllReadyH.nil
    go_simp
    (go_at_call 67; refine (pair_any2 _ _ _).mono ?_; rintro e w3 ⟨rfl, g3⟩; have hb3 := (HB2.out.grow ((Grew.refl w2).alloc _)).grow g3; obtain ⟨gz, ez, _, hLl3, hcL3, hfL3⟩ := hb3.at hc; obtain rfl : L = gz := (by injection ez with ez; injection ez); have HB3 := Lib.hid hb3; rw [HSV.out] at hcL3; clear ez hb3)
    (try go_wp2_with fail)
    refine hK.out _ _ ?hS29 (fun hHeld => ?_)
    case hS29 => (try dsimp only); exact keep_l4 g3 (by assumption)
    clear hK K
    (try simp only [Act.put, List.setIfInBounds_toArray, List.set_cons_zero, List.set_cons_succ])
    refine wpAnyH_take (i := 15) (oi := { dst := some 24, op := Go.Op.indexAddr 32 (Go.Operand.tmp 9) (Go.Operand.tmp 10), type := 0, pos := _, after := #[{ on := 0, ground := Go.Ground.data }, { on := 1, ground := Go.Ground.data }, { on := 0, ground := Go.Ground.phase }, { on := 1, ground := Go.Ground.phase }, { on := 2, ground := Go.Ground.phase }, { on := 3, ground := Go.Ground.phase }, { on := 4, ground := Go.Ground.phase }, { on := 5, ground := Go.Ground.phase }, { on := 6, ground := Go.Ground.phase }, { on := 7, ground := Go.Ground.phase }, { on := 8, ground := Go.Ground.phase }, { on := 9, ground := Go.Ground.phase }, { on := 10, ground := Go.Ground.phase }, { on := 11, ground := Go.Ground.phase }, { on := 12, ground := Go.Ground.phase }, { on := 13, ground := Go.Ground.phase }, { on := 14, ground := Go.Ground.phase }], guard := none }) (v := ?v30) rfl (by kernel_rfl) (by kernel_rfl) (by kernel_rfl) (fun _ _ _ h => h) (Or.inl ⟨by kernel_rfl, ?hy30⟩) (by assumption) ?_
    case hy30 => intro w hSw; (try dsimp only at hSw); first | (go_simp; done) | (go_simp; with_reducible rfl)
    (try simp only [Act.put, List.setIfInBounds_toArray, List.set_cons_zero, List.set_cons_succ])
    refine wpAnyH_ready (rs := [16]) (by kernel_rfl) (by simp) ?_
    refine AllReadyH.cons (o := { dst := none, op := Go.Op.store 2 (Go.Operand.tmp 24) (Go.Operand.tmp 23), type := 0, pos := _, after := #[{ on := 15, ground := Go.Ground.data }, { on := 14, ground := Go.Ground.data }, { on := 14, ground := Go.Ground.chain }, { on := 0, ground := Go.Ground.phase }, { on := 1, ground := Go.Ground.phase }, { on := 2, ground := Go.Ground.phase }, { on := 3, ground := Go.Ground.phase }, { on := 4, ground := Go.Ground.phase }, { on := 5, ground := Go.Ground.phase }, { on := 6, ground := Go.Ground.phase }, { on := 7, ground := Go.Ground.phase }, { on := 8, ground := Go.Ground.phase }, { on := 9, ground := Go.Ground.phase }, { on := 10, ground := Go.Ground.phase }, { on := 11, ground := Go.Ground.phase }, { on := 12, ground := Go.Ground.phase }, { on := 13, ground := Go.Ground.phase }, { on := 14, ground := Go.Ground.phase }], guard := none }) rfl (fun K hK => ?_) AllReadyH.nil
    go_simp
    skip
    (try go_wp2_with fail)
    refine hK.out _ _ ?hS32 (fun hHeld => ?_)
    case hS32 => (try dsimp only); exact keep_s4 (by assumption) (by show L ≠ L + 1; omega) (by show L ≠ Y; omega) (by show L ≠ Q; omega) (by show L ≠ yb; omega)
    clear hK K
    (try simp only [Act.put, List.setIfInBounds_toArray, List.set_cons_zero, List.set_cons_succ])
    refine wpAnyH_done (by kernel_rfl) ?_ _
    go_end0
    obtain ⟨hgr, _⟩ := hHeld
    exact ⟨⟨_, rfl⟩, HB3.out.set c _, hgr, grownBy_below hgr (Nat.le_refl _) (Nat.le_of_lt hLl)⟩

set_option maxHeartbeats 1000000 in
theorem back_no (R C : Int) (a a' : Option Addr) (n cap n' cap' : Nat) (q : Int) (w : World) (h : rightB R C n = false ∨ R ≠ (n' : Int)) :
    Calls Try.prog 55 #[.agg #[.int .i64 R, .int .i64 C, .slice a n cap], .slice a' n' cap', .int .i64 q] w fun e w' => e = .returned (.tuple #[.slice none 0 0, .bool false]) ∧ Grew w w' := by
  have hg : Grew w (((w.alloc (.cells #[.int .i64 R, .int .i64 C, .slice a n cap] 68)).alloc (.cells #[.slice a' n' cap'] 32)).alloc (.cells #[.int .i64 q] 3)) := (((Grew.refl w).alloc _).alloc _).alloc _
  have ht := (Three.new w 68 (.int .i64 R) (.int .i64 C) (.slice a n cap)).alloc (.cells #[.slice a' n' cap'] 32)
  have HT := Lib.hid (ht.alloc (.cells #[.int .i64 q] 3))
  have hx := (Boxed.new (w.alloc (.cells #[.int .i64 R, .int .i64 C, .slice a n cap] 68)) 32 (.slice a' n' cap')).alloc (.cells #[.int .i64 q] 3)
  rw [World.size_alloc] at hx
  have HX := Lib.hid hx
  have HG := Lib.hid hg
  clear hg ht hx
  cases hR : rightB R C n with
  | false =>
    have HR := Lib.hid hR
    clear hR h
    go_enter Try.func55, Try.ntmps55
    go_wp2_with fail
    refine (right_any R C a n cap _).mono ?_
    rintro e w1 ⟨rfl, g1⟩
    rw [HR.out]
    have HG1 := Lib.hid (HG.out.trans g1)
    clear g1
    go_wp2
    go_ret2
    exact ⟨rfl, HG1.out⟩
  | true =>
    have HR := Lib.hid hR
    have hne : ((n' : Int) != R) = true := bne_iff_ne.2 (fun e => by rcases h with h | h; · rw [hR] at h; cases h
                                                                     · exact h e.symm)
    clear hR h
    go_enter Try.func55, Try.ntmps55
    go_wp2_with fail
    refine (right_any R C a n cap _).mono ?_
    rintro e w1 ⟨rfl, g1⟩
    rw [HR.out]
    have HG1 := Lib.hid (HG.out.trans g1)
    have ht := HT.out.grow g1
    have c0 := ht.c0
    have hx1 : Boxed w1 (w.heap.size + 1) 32 (.slice a' n' cap') := (Below.block g1 _ HX.out.lt).trans HX.out
    have x0 := hx1.cell
    clear g1 ht hx1
    go_wp2
    go_ret2
    exact ⟨rfl, HG1.out⟩

set_option maxRecDepth 100000 in
set_option maxHeartbeats 4000000 in
theorem back_yes {R C b off cap cap' : Nat} {a' : Option Addr} {zs ys : List Int} {q : Int} (w : World) (hz : zs.length = R * C) (hy : ys.length = R) (hR1 : 1 ≤ R) (hR2 : R ≤ 1048576) (hC : 1 ≤ C) (hC2 : C ≤ 1048576) (hcap : cap ≤ 9223372036854775807) (hnc : R * C ≤ cap)
    (hzr : Rd w.heap.size w (some ⟨b, off, none⟩) zs) (hyr : Rd w.heap.size w a' ys) (hzf : Fit zs) (hyf : Fit ys) :
    Calls Try.prog 55 #[.agg #[.int .i64 R, .int .i64 C, .slice (some ⟨b, off, none⟩) (R * C : Nat) cap], .slice a' R cap', .int .i64 q] w fun e w' => (∃ g, e = .returned (.tuple #[.slice (some ⟨g, 0, none⟩) C C, .bool true]) ∧ Buf w.heap.size w' (some ⟨g, 0, none⟩) C C (mulL (turnL zs R C) C R ys q)) ∧ Grew w w' := by
  obtain ⟨len, hlen⟩ : ∃ len, R * C = len := ⟨_, rfl⟩
  rw [hlen]
  have hg : Grew w (((w.alloc (.cells #[.int .i64 R, .int .i64 C, .slice (some ⟨b, off, none⟩) len cap] 68)).alloc (.cells #[.slice a' R cap'] 32)).alloc (.cells #[.int .i64 q] 3)) := (((Grew.refl w).alloc _).alloc _).alloc _
  have ht := (Three.new w 68 (.int .i64 R) (.int .i64 C) (.slice (some ⟨b, off, none⟩) len cap)).alloc (.cells #[.slice a' R cap'] 32)
  have HT := Lib.hid (ht.alloc (.cells #[.int .i64 q] 3))
  have hx1 := (Boxed.new (w.alloc (.cells #[.int .i64 R, .int .i64 C, .slice (some ⟨b, off, none⟩) len cap] 68)) 32 (.slice a' R cap')).alloc (.cells #[.int .i64 q] 3)
  have hq1 := Boxed.new ((w.alloc (.cells #[.int .i64 R, .int .i64 C, .slice (some ⟨b, off, none⟩) len cap] 68)).alloc (.cells #[.slice a' R cap'] 32)) 3 (.int .i64 q)
  rw [World.size_alloc] at hx1
  rw [World.size_alloc, World.size_alloc] at hq1
  have HX := Lib.hid hx1
  have HQ := Lib.hid hq1
  have HG := Lib.hid hg
  have HR : Hid (rightB (R : Int) (C : Int) len = true) := Lib.hid (by rw [← hlen]; exact rightB_of hR1 hR2 hC hC2)
  have HZR := Lib.hid hzr
  have HYR := Lib.hid hyr
  have HZF := Lib.hid hzf
  have HYF := Lib.hid hyf
  have HZ := Lib.hid hz
  have HL := Lib.hid hlen
  have HYL := Lib.hid hy
  have hmk := run_make_row' (P := Try.prog) 32 2 (.int .i64 0) 8 Try.underlying32 (by kernel_rfl) rfl .i64 .i64 C (by omega) (by omega)
  have HS0 : Hid ((((w.alloc (.cells #[.int .i64 R, .int .i64 C, .slice (some ⟨b, off, none⟩) len cap] 68)).alloc (.cells #[.slice a' R cap'] 32)).alloc (.cells #[.int .i64 q] 3)).heap.size = w.heap.size + 1 + 1 + 1) := Lib.hid (by simp)
  rw [hlen] at hnc
  clear hg ht hx1 hq1 hzr hyr hzf hyf hz hlen hy
  go_enter Try.func55, Try.ntmps55
  go_wp2_with fail
  refine (right_any (R : Int) (C : Int) _ len cap _).mono ?_
  rintro e w1 ⟨rfl, g1⟩
  rw [HR.out]
  have HG1 := Lib.hid (HG.out.trans g1)
  have ht := HT.out.grow g1
  have hx1 : Boxed w1 (w.heap.size + 1) 32 (.slice a' R cap') := (Below.block g1 _ HX.out.lt).trans HX.out
  have hq1 : Boxed w1 (w.heap.size + 1 + 1) 3 (.int .i64 q) := (Below.block g1 _ HQ.out.lt).trans HQ.out
  have hs1 : w.heap.size + 1 + 1 + 1 ≤ w1.heap.size := by rw [← HS0.out]; exact g1.size
  have c0 := ht.c0
  have c1 := ht.c1
  have c2 := ht.c2
  have x0 := hx1.cell
  have q0 := hq1.cell
  have HT1 := Lib.hid ht
  have HX1 := Lib.hid hx1
  have HQ1 := Lib.hid hq1
  have hl0 : w.heap.size < w1.heap.size := by omega
  have hl1 : w.heap.size + 1 < w1.heap.size := by omega
  clear g1 ht hx1 hq1
  have hcne : ((R : Int) != (R : Int)) = false := bne_self_eq_false _
  go_wp2_with fail
  have hgA : Grew w1 ((w1.alloc (.cells (madeCells #[.int .i64 0] C) 2)).alloc (.cells #[.slice (some ⟨w1.heap.size, 0, none⟩) C C] 32)) := ((Grew.refl w1).alloc _).alloc _
  have HGB := Lib.hid (HG1.out.trans hgA)
  have hbu := (Buf.made w1 C (by omega)).grow ((Grew.refl (w1.alloc (.cells (madeCells #[.int .i64 0] C) 2))).alloc (.cells #[.slice (some ⟨w1.heap.size, 0, none⟩) C C] 32))
  have hbl := Boxed.new (w1.alloc (.cells (madeCells #[.int .i64 0] C) 2)) 32 (.slice (some ⟨w1.heap.size, 0, none⟩) C C)
  have hsz : ((w1.alloc (.cells (madeCells #[.int .i64 0] C) 2)).alloc (.cells #[.slice (some ⟨w1.heap.size, 0, none⟩) C C] 32)).heap.size = w1.heap.size + 1 + 1 := by simp
  rw [World.size_alloc] at hbl
  have HBU := Lib.hid hbu
  have HBL := Lib.hid hbl
  have HSZ := Lib.hid hsz
  have HX2 := Lib.hid (boxed_below HX1.out hgA (by omega))
  have HQ2 := Lib.hid (boxed_below HQ1.out hgA (by omega))
  clear hgA hbu hbl hsz c0 c1 c2 x0 q0 hmk hl0 hl1
  generalize (w1.alloc (.cells (madeCells #[.int .i64 0] C) 2)).alloc (.cells #[.slice (some ⟨w1.heap.size, 0, none⟩) C C] 32) = W0 at *
  generalize w1.heap.size = L at *
  clear HG1 HT1 HX1 HQ1
  refine (visit_any (gs := 78) (caps := #[.pointer (some ⟨L + 1, 0, none⟩), .pointer (some ⟨w.heap.size + 1, 0, none⟩), .pointer (some ⟨w.heap.size + 1 + 1, 0, none⟩)]) (enters_of Try.func78 (by kernel_rfl) rfl) (g := L) (zs := zs) W0
    (fun k W => Hid (Buf L W (some ⟨L, 0, none⟩) C C (bN zs C ys q k)) ∧ Hid (Boxed W (L + 1) 32 (.slice (some ⟨L, 0, none⟩) C C)) ∧ Hid (Boxed W (w.heap.size + 1) 32 (.slice a' R cap')) ∧ Hid (Boxed W (w.heap.size + 1 + 1) 3 (.int .i64 q)) ∧ Hid (Grew w W))
    hcap hnc HL.out (HZ.out.trans HL.out) hC hR2 hC2 (by rw [HSZ.out]; omega) ?hI ?hrd ?hgc ?hsee ⟨HBU, HBL, HX2, HQ2, HGB⟩).mono ?_
  case hI =>
    rintro k W W' ⟨h2, h3, h4, h5, h6⟩ k2
    rw [HSZ.out] at k2
    exact ⟨Lib.hid (buf_keptAt h2.out (k2.block _ (by omega))), Lib.hid (boxed_below h3.out k2 (by omega)), Lib.hid (boxed_below h4.out k2 (by omega)), Lib.hid (boxed_below h5.out k2 (by omega)), Lib.hid (Grew.trans_below h6.out (k2.mono (by omega)) (Nat.le_refl _))⟩
  case hrd =>
    rintro k W ⟨_, _, _, _, h6⟩
    exact (Rd.below HZR.out h6.out).mono (by rw [HSZ.out]; omega)
  case hgc =>
    rintro k W ⟨h2, _, _, _, _⟩
    exact buf_cells h2.out
  case hsee =>
    rintro r c W hr hc ⟨h2, h3, h4, h5, h6⟩ _
    have h4' := h4.out
    rw [← HYL.out] at h4'
    refine (back1_any W h2.out h3.out h4' h5.out ((Rd.below HYR.out h6.out).mono (by omega)) (by rw [HYL.out]; exact hr) hc (by omega) (by omega) (HZF.out _ (by rw [HZ.out]; exact place_lt hr hc)) HYF.out).mono ?_
    rintro e W' ⟨he, hb, hgr, hbe⟩
    refine ⟨he, ⟨Lib.hid (by rw [bN_step zs ys q hc]; exact hb), Lib.hid (boxed_grown h3.out hgr (by omega)), Lib.hid (boxed_grown h4.out hgr (by omega)), Lib.hid (boxed_grown h5.out hgr (by omega)), Lib.hid (Grew.trans_below h6.out (hbe.mono (by omega)) (Nat.le_refl _))⟩, hgr⟩
  rintro e W ⟨⟨v, rfl⟩, ⟨h2, h3, _, _, h6⟩, _⟩
  have hbu := h2.out
  rw [bN_all] at hbu
  have HBE := Lib.hid (hbu.mono (B' := w.heap.size) (by omega))
  have l0 := h3.out.cell
  clear hbu h2 h3
  go_wp2
  go_ret2
  exact ⟨⟨_, rfl, HBE.out⟩, h6.out⟩
end Go.Proofs.Ytciocdjpgknihaa
