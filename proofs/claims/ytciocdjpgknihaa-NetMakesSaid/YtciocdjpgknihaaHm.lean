/- The reference of layer 8, second part: Weights, Biases. Conditions: the sizes are right. -/
import Derived.Test.YtciocdjpgknihaaHe
import Derived.Test.YtciocdjpgknihaaHd
import Derived.Test.YtciocdjpgknihaaHg
import Derived.BigRegion
import Derived.OrdersHeld
import Derived.Deep.RegionHeld
namespace Go.Proofs.Ytciocdjpgknihaa
open Go.RowKit

theorem cntN_take {zs : List Int} {m : Nat} : ∀ {k : Nat}, k < m → cntN (zs.take m) k = cntN zs k
  | 0, _ => rfl
  | k + 1, h => by
    have h1 : el (zs.take m) k = el zs k := by unfold el; rw [List.getElem?_take_of_lt (by omega)]
    have h2 : el (zs.take m) (k + 1) = el zs (k + 1) := by unfold el; rw [List.getElem?_take_of_lt (by omega)]
    simp only [cntN, wgt, h1, h2, cntN_take (show k < m by omega)]
theorem cnt_take {zs : List Int} {k : Nat} (h : k < zs.length) : cnt (zs.take (k + 1)) = cntN zs k := by
  unfold cnt lnk
  rw [List.length_take, show min (k + 1) zs.length - 1 = k by omega]
  exact cntN_take (by omega)
theorem okS_take {zs : List Int} {k : Nat} (h : OkS zs) : OkS (zs.take k) := by
  intro j hj
  rw [List.length_take] at hj
  rw [show el (zs.take k) j = el zs j by unfold el; rw [List.getElem?_take_of_lt (by omega)]]
  exact h j (by omega)

set_option maxHeartbeats 2000000 in
theorem rweights_any {n : Nat} (a : Option Addr) (c : Nat) (zs : List Int) (k : Int) (w : World) (hn : zs.length = n) (hnc : n ≤ c) (hcm : c ≤ maxLen) (hR : Right zs) (h : RdK .i64 w.heap.size w a zs) :
    Calls Try.prog 74 #[.slice a n c, .int .i64 k] w fun e w' => e = .returned (.agg #[.int .i64 (rgW zs k).1, .int .i64 (rgW zs k).2]) ∧ Grew w w' := by
  have hR2 := hR.2.1
  have hR1 := hR.1
  have hcm' : c ≤ 9223372036854775807 := hcm
  rcases link_or zs k with ⟨k, rfl, hk⟩ | hk
  · rw [rgW_yes hk]
    have hkn : k + 1 < n := by unfold lnk at hk; omega
    obtain ⟨b0, off, rfl, hb0, hcell⟩ := rdK_some h (by omega)
    have HX := Lib.hid h
    have HC := Lib.hid hcell
    have HO := Lib.hid hR.2.2.1
    have HN := Lib.hid hn
    have hx := this_in hR.2.2.1 hk
    have hy := next_in hR.2.2.1 hk
    have hw := wgt_in hR.2.2.1 hk
    have hcn := cntN_in hR.2.2.1 (Nat.le_of_lt hk)
    have hm : el zs k * el zs (k + 1) = wgt zs k := rfl
    have HT : Hid (cnt (zs.take (k + 1)) = cntN zs k) := Lib.hid (cnt_take (by omega))
    have HL : Hid ((zs.take (k + 1)).length = k + 1) := Lib.hid (by rw [List.length_take]; omega)
    have hwM : IntKind.i64.wrap (wgt zs k) = wgt zs k := IntWalk.i64_in _ (by omega)
    have hk1 : ¬ ((n : Int) - 1 ≤ (k : Int)) := by omega
    have hk16 : k + 1 ≤ 16 := by omega
    have hkn0 : k < n := by omega
    have hwS : IntKind.i64.wrap (cntN zs k + wgt zs k) = cntN zs k + wgt zs k := IntWalk.i64_in _ (by omega)
    have HV : Hid (rangeW zs k = (cntN zs k, cntN zs k + wgt zs k)) := Lib.hid rfl
    have HT2 : Hid (Two (w.alloc (.cells #[.int .i64 0, .int .i64 0] 110)) w.heap.size 110 (.int .i64 0) (.int .i64 0)) := Lib.hid (Two.new w _ _ _)
    have HG0 : Hid (Grew w (w.alloc (.cells #[.int .i64 0, .int .i64 0] 110))) := Lib.hid ((Grew.refl w).alloc _)
    clear h hcell hn hR
    go_enter Try.func74, Try.ntmps74
    generalize lnk zs = lz at *
    go_wp2_with fail
    refine (rcount_n (some ⟨b0, off, none⟩) c (zs.take (k + 1)) _ HL.out (by omega) (okS_take HO.out) ((HX.out.grow HG0.out).take)).mono ?_
    rintro e w1 ⟨rfl, g1⟩
    rw [HT.out]
    have HG1 := Lib.hid (HG0.out.trans g1)
    have HT3 := Lib.hid (HT2.out.grow g1)
    have d1 : w1.cell? ⟨b0, off + k, none⟩ = some (.int .i64 (el zs k)) := (Below.cell HG1.out (p := ⟨b0, off + k, none⟩) hb0).trans (HC.out k (by have := HN.out; omega))
    have d2 : w1.cell? ⟨b0, off + (k + 1), none⟩ = some (.int .i64 (el zs (k + 1))) := (Below.cell HG1.out (p := ⟨b0, off + (k + 1), none⟩) hb0).trans (HC.out (k + 1) (by have := HN.out; omega))
    have e0 := HT3.out.c0
    have e1 := HT3.out.c1
    have f0 := HT3.out.f0
    have f1 := HT3.out.f1
    have hl3 := HT3.out.lt
    have hb1 : b0 < w1.heap.size := Nat.lt_of_lt_of_le hb0 HG1.out.size
    generalize wgt zs k = M at *
    generalize cntN zs k = N at *
    generalize el zs k = x at *
    generalize el zs (k + 1) = y at *
    clear g1
    go_wp2_with fail
    go_region
    go_wp2
    have ht := ((HT3.out.set0 (.int .i64 N)).set1 (.int .i64 (N + M))).grow (Grew.drew' (Grew.refl _))
    have HGE : Hid (Grew w ((w1.setCell ⟨w.heap.size, 0, none⟩ (.int .i64 N)).setCell ⟨w.heap.size, 1, none⟩ (.int .i64 (N + M))).drew) := Lib.hid (Below.drew (Below.setCell (Below.setCell HG1.out (p := ⟨w.heap.size, 0, none⟩) (Nat.le_refl _) _) (p := ⟨w.heap.size, 1, none⟩) (Nat.le_refl _) _))
    generalize ((w1.setCell ⟨w.heap.size, 0, none⟩ (.int .i64 N)).setCell ⟨w.heap.size, 1, none⟩ (.int .i64 (N + M))).drew = WE at *
    have c0 := ht.c0
    have c1 := ht.c1
    exact bodyPost_ret (v := .agg #[.int .i64 N, .int .i64 (N + M)]) (by simp [results, Try.results74, go_sem, c0, c1]) rfl ⟨by rw [HV.out], HGE.out⟩
  · rw [rgW_no hk]
    have HT := Lib.hid (Two.new w 110 (.int .i64 0) (.int .i64 0))
    have HG : Hid (Grew w (w.alloc (.cells #[.int .i64 0, .int .i64 0] 110))) := Lib.hid ((Grew.refl w).alloc _)
    by_cases h0 : k < 0
    · clear hk
      go_enter Try.func74, Try.ntmps74
      go_wp2
      have c0 := HT.out.c0
      have c1 := HT.out.c1
      exact bodyPost_ret (v := .agg #[.int .i64 0, .int .i64 0]) (by simp [results, Try.results74, go_sem, c0, c1]) rfl ⟨rfl, HG.out⟩
    · have hk1 : (n : Int) - 1 ≤ k := by unfold lnk at hk; omega
      have hn16 : n ≤ 16 := by omega
      clear hk
      go_enter Try.func74, Try.ntmps74
      go_wp2
      have c0 := HT.out.c0
      have c1 := HT.out.c1
      exact bodyPost_ret (v := .agg #[.int .i64 0, .int .i64 0]) (by simp [results, Try.results74, go_sem, c0, c1]) rfl ⟨rfl, HG.out⟩

theorem field_hi2 (w : World) (x y : Int) : (Instr.field 110 (.agg #[.int .i64 x, .int .i64 y]) 1).run Try.prog w = .ok (.int .i64 y) w := by kernel_rfl
set_option linter.unusedSimpArgs false in
set_option maxHeartbeats 2000000 in
theorem rbiases_any {n : Nat} (a : Option Addr) (c : Nat) (zs : List Int) (k : Int) (w : World) (hn : zs.length = n) (hnc : n ≤ c) (hcm : c ≤ maxLen) (hR : Right zs) (h : RdK .i64 w.heap.size w a zs) :
    Calls Try.prog 73 #[.slice a n c, .int .i64 k] w fun e w' => e = .returned (.agg #[.int .i64 (rgB zs k).1, .int .i64 (rgB zs k).2]) ∧ Grew w w' := by
  have hR2 := hR.2.1
  have hR1 := hR.1
  have hcm' : c ≤ 9223372036854775807 := hcm
  rcases link_or zs k with ⟨k, rfl, hk⟩ | hk
  · rw [rgB_yes hk]
    have hkn : k + 1 < n := by unfold lnk at hk; omega
    obtain ⟨b0, off, rfl, hb0, hcell⟩ := rdK_some h (by omega)
    have HX := Lib.hid h
    have HO := Lib.hid hR.2.2.1
    have HN := Lib.hid hn
    have HR := Lib.hid hR
    have HTk : Hid (cnt (zs.take (k + 2)) = cntN zs (k + 1)) := Lib.hid (cnt_take (by omega))
    have HL : Hid ((zs.take (k + 2)).length = k + 2) := Lib.hid (by rw [List.length_take]; omega)
    have HW : Hid (rgW zs (k : Int) = (cntN zs k, cntN zs k + wgt zs k)) := Lib.hid (rgW_yes hk)
    have HV : Hid (rangeB zs k = (cntN zs k + wgt zs k, cntN zs (k + 1))) := Lib.hid rfl
    have hk1 : ¬ ((n : Int) - 1 ≤ (k : Int)) := by omega
    have hk16 : k + 2 ≤ 16 := by omega
    have hw2 : IntKind.i64.wrap ((k : Int) + 2) = (k : Int) + 2 := IntWalk.i64_in _ (by omega)
    have ht2 : ((k : Int) + 2).toNat = k + 2 := by omega
    have hk20 : (0 : Int) ≤ (k : Int) + 2 := by omega
    have hk2c : (k : Int) + 2 ≤ (c : Int) := by omega
    have hk2d : k + 2 ≤ c := by omega
    have hfd := field_hi2
    have HT2 : Hid (Two (w.alloc (.cells #[.int .i64 0, .int .i64 0] 110)) w.heap.size 110 (.int .i64 0) (.int .i64 0)) := Lib.hid (Two.new w _ _ _)
    have HG0 : Hid (Grew w (w.alloc (.cells #[.int .i64 0, .int .i64 0] 110))) := Lib.hid ((Grew.refl w).alloc _)
    clear h hcell hn hR
    go_enter Try.func73, Try.ntmps73
    generalize lnk zs = lz at *
    go_wp2_with fail
    generalize w.alloc (.cells #[.int .i64 0, .int .i64 0] 110) = W0 at *
    have HGd : Hid (Grew w W0.drew) := Lib.hid (Grew.drew' HG0.out)
    generalize hNM : cntN zs k + wgt zs k = NM at *
    generalize cntN zs (k + 1) = NE at *
    refine wp_region_held_drew (S := (fun _ => True)) (by kernel_rfl) trivial (fun hHeld => ?_)
    refine wpAnyH_take (i := 0) (oi := { dst := some 15, op := Go.Op.move (Go.Operand.tmp 0), type := 22, pos := _, after := #[], guard := none }) (v := ?v1) rfl (by kernel_rfl) (by kernel_rfl) (by kernel_rfl) (fun _ _ _ h => h) (Or.inl ⟨by kernel_rfl, ?hy1⟩) (by assumption) ?_
    case hy1 => intro w hSw; (try dsimp only at hSw); first | (go_simp; done) | (go_simp; with_reducible rfl)
    (try simp only [Act.put, List.setIfInBounds_toArray, List.set_cons_zero, List.set_cons_succ])
    refine wpAnyH_take (i := 1) (oi := { dst := some 16, op := Go.Op.move (Go.Operand.tmp 1), type := 3, pos := _, after := #[], guard := none }) (v := ?v2) rfl (by kernel_rfl) (by kernel_rfl) (by kernel_rfl) (fun _ _ _ h => h) (Or.inl ⟨by kernel_rfl, ?hy2⟩) (by assumption) ?_
    case hy2 => intro w hSw; (try dsimp only at hSw); first | (go_simp; done) | (go_simp; with_reducible rfl)
    (try simp only [Act.put, List.setIfInBounds_toArray, List.set_cons_zero, List.set_cons_succ])
    refine wpAnyH_take (i := 4) (oi := { dst := some 19, op := Go.Op.move (Go.Operand.tmp 0), type := 22, pos := _, after := #[], guard := none }) (v := ?v3) rfl (by kernel_rfl) (by kernel_rfl) (by kernel_rfl) (fun _ _ _ h => h) (Or.inl ⟨by kernel_rfl, ?hy3⟩) (by assumption) ?_
    case hy3 => intro w hSw; (try dsimp only at hSw); first | (go_simp; done) | (go_simp; with_reducible rfl)
    (try simp only [Act.put, List.setIfInBounds_toArray, List.set_cons_zero, List.set_cons_succ])
    refine wpAnyH_take (i := 5) (oi := { dst := some 20, op := Go.Op.move (Go.Operand.tmp 1), type := 3, pos := _, after := #[], guard := none }) (v := ?v4) rfl (by kernel_rfl) (by kernel_rfl) (by kernel_rfl) (fun _ _ _ h => h) (Or.inl ⟨by kernel_rfl, ?hy4⟩) (by assumption) ?_
    case hy4 => intro w hSw; (try dsimp only at hSw); first | (go_simp; done) | (go_simp; with_reducible rfl)
    (try simp only [Act.put, List.setIfInBounds_toArray, List.set_cons_zero, List.set_cons_succ])
    refine wpAnyH_take (i := 6) (oi := { dst := some 21, op := Go.Op.binOp Go.BinOp.add 3 (Go.Operand.tmp 20) (Go.Operand.const (Go.Value.int Go.IntKind.i64 2)) 3, type := 3, pos := _, after := #[{ on := 5, ground := Go.Ground.data }], guard := none }) (v := ?v5) rfl (by kernel_rfl) (by kernel_rfl) (by kernel_rfl) (fun _ _ _ h => h) (Or.inl ⟨by kernel_rfl, ?hy5⟩) (by assumption) ?_
    case hy5 => intro w hSw; (try dsimp only at hSw); first | (go_simp; done) | (go_simp; with_reducible rfl)
    (try simp only [Act.put, List.setIfInBounds_toArray, List.set_cons_zero, List.set_cons_succ])
    refine wpAnyH_take (i := 7) (oi := { dst := some 22, op := Go.Op.slice 22 (Go.Operand.tmp 19) none (some (Go.Operand.tmp 21)) none, type := 22, pos := _, after := #[{ on := 4, ground := Go.Ground.data }, { on := 6, ground := Go.Ground.data }], guard := none }) (v := ?v6) rfl (by kernel_rfl) (by kernel_rfl) (by kernel_rfl) (fun _ _ _ h => h) (Or.inl ⟨by kernel_rfl, ?hy6⟩) (by assumption) ?_
    case hy6 => intro w hSw; (try dsimp only at hSw); first | (go_simp; done) | (go_simp; with_reducible rfl)
    (try simp only [Act.put, List.setIfInBounds_toArray, List.set_cons_zero, List.set_cons_succ])
    refine wpAnyH_ready (rs := [2]) (by kernel_rfl) (by simp) ?_
    refine AllReadyH.cons (o := { dst := some 17, op := Go.Op.call { callee := Go.Callee.value (Go.Operand.func 74), args := #[Go.Operand.tmp 15, Go.Operand.tmp 16], argTypes := #[22, 3] }, type := 110, pos := _, after := #[{ on := 0, ground := Go.Ground.data }, { on := 1, ground := Go.Ground.data }], guard := none }) rfl (fun K hK => ?_) AllReadyH.nil
    go_simp
    (go_at_call 74; refine (rweights_any (some ⟨b0, off, none⟩) c zs (k : Int) _ HN.out hnc hcm HR.out (HX.out.grow HGd.out)).mono ?_; rintro e w1 ⟨rfl, g1⟩; rw [HW.out]; have HG1 := Lib.hid (HGd.out.trans g1); have HT3 := Lib.hid (HT2.out.grow ((Grew.drew' (Grew.refl W0)).trans g1)); clear g1)
    (try go_wp2_with fail)
    refine hK.out _ _ ?hS8 (fun hHeld => ?_)
    case hS8 => (try dsimp only); (try trivial)
    clear hK K
    (try simp only [Act.put, List.setIfInBounds_toArray, List.set_cons_zero, List.set_cons_succ])
    refine wpAnyH_take (i := 3) (oi := { dst := some 18, op := Go.Op.field 110 (Go.Operand.tmp 17) 1, type := 3, pos := _, after := #[{ on := 2, ground := Go.Ground.data }], guard := none }) (v := ?v9) rfl (by kernel_rfl) (by kernel_rfl) (by kernel_rfl) (fun _ _ _ h => h) (Or.inl ⟨by kernel_rfl, ?hy9⟩) (by assumption) ?_
    case hy9 => intro w hSw; (try dsimp only at hSw); first | (go_simp; done) | (go_simp; with_reducible rfl)
    (try simp only [Act.put, List.setIfInBounds_toArray, List.set_cons_zero, List.set_cons_succ])
    refine wpAnyH_ready (rs := [8]) (by kernel_rfl) (by simp) ?_
    refine AllReadyH.cons (o := { dst := some 23, op := Go.Op.call { callee := Go.Callee.value (Go.Operand.func 27), args := #[Go.Operand.tmp 22], argTypes := #[22] }, type := 3, pos := _, after := #[{ on := 7, ground := Go.Ground.data }, { on := 2, ground := Go.Ground.chain }], guard := none }) rfl (fun K hK => ?_) AllReadyH.nil
    go_simp
    (go_at_call 27; refine (rcount_n (some ⟨b0, off, none⟩) c (zs.take (k + 2)) _ HL.out (by omega) (okS_take HO.out) ((HX.out.grow HG1.out).take)).mono ?_; rintro e w2 ⟨rfl, g2⟩; rw [HTk.out]; have HG2 := Lib.hid (HG1.out.trans g2); have HT4 := Lib.hid (HT3.out.grow g2); have e0 := HT4.out.c0; have e1 := HT4.out.c1; have f0 := HT4.out.f0; have f1 := HT4.out.f1; have hl4 := HT4.out.lt; clear g2)
    (try go_wp2_with fail)
    refine hK.out _ _ ?hS11 (fun hHeld => ?_)
    case hS11 => (try dsimp only); (try trivial)
    clear hK K
    (try simp only [Act.put, List.setIfInBounds_toArray, List.set_cons_zero, List.set_cons_succ])
    refine wpAnyH_take (i := 9) (oi := { dst := some 24, op := Go.Op.build 110 #[(0, Go.Operand.tmp 18), (1, Go.Operand.tmp 23)], type := 110, pos := _, after := #[{ on := 3, ground := Go.Ground.data }, { on := 8, ground := Go.Ground.data }], guard := none }) (v := ?v12) rfl (by kernel_rfl) (by kernel_rfl) (by kernel_rfl) (fun _ _ _ h => h) (Or.inl ⟨by kernel_rfl, ?hy12⟩) (by assumption) ?_
    case hy12 => intro w hSw; (try dsimp only at hSw); first | (go_simp; done) | (go_simp; with_reducible rfl)
    (try simp only [Act.put, List.setIfInBounds_toArray, List.set_cons_zero, List.set_cons_succ])
    refine wpAnyH_ready (rs := [10]) (by kernel_rfl) (by simp) ?_
    refine AllReadyH.cons (o := { dst := none, op := Go.Op.store 110 (Go.Operand.tmp 4) (Go.Operand.tmp 24), type := 0, pos := _, after := #[{ on := 9, ground := Go.Ground.data }, { on := 8, ground := Go.Ground.chain }, { on := 0, ground := Go.Ground.phase }, { on := 1, ground := Go.Ground.phase }, { on := 2, ground := Go.Ground.phase }, { on := 3, ground := Go.Ground.phase }, { on := 4, ground := Go.Ground.phase }, { on := 5, ground := Go.Ground.phase }, { on := 6, ground := Go.Ground.phase }, { on := 7, ground := Go.Ground.phase }, { on := 8, ground := Go.Ground.phase }, { on := 9, ground := Go.Ground.phase }], guard := none }) rfl (fun K hK => ?_) AllReadyH.nil
    go_simp
    skip
    (try go_wp2_with fail)
    refine hK.out _ _ ?hS14 (fun hHeld => ?_)
    case hS14 => (try dsimp only); (try trivial)
    clear hK K
    (try simp only [Act.put, List.setIfInBounds_toArray, List.set_cons_zero, List.set_cons_succ])
    refine wpAnyH_done (by kernel_rfl) ?_ _
    go_wp2
    have ht := (HT4.out.set0 (.int .i64 NM)).set1 (.int .i64 NE)
    have HGE : Hid (Grew w ((w2.setCell ⟨w.heap.size, 0, none⟩ (.int .i64 NM)).setCell ⟨w.heap.size, 1, none⟩ (.int .i64 NE))) := Lib.hid (Below.setCell (Below.setCell HG2.out (p := ⟨w.heap.size, 0, none⟩) (Nat.le_refl _) _) (p := ⟨w.heap.size, 1, none⟩) (Nat.le_refl _) _)
    generalize (w2.setCell ⟨w.heap.size, 0, none⟩ (.int .i64 NM)).setCell ⟨w.heap.size, 1, none⟩ (.int .i64 NE) = WE at *
    have c0 := ht.c0
    have c1 := ht.c1
    exact bodyPost_ret (v := .agg #[.int .i64 NM, .int .i64 NE]) (by simp [results, Try.results73, go_sem, c0, c1]) rfl ⟨by rw [HV.out], HGE.out⟩
  · rw [rgB_no hk]
    have HT := Lib.hid (Two.new w 110 (.int .i64 0) (.int .i64 0))
    have HG : Hid (Grew w (w.alloc (.cells #[.int .i64 0, .int .i64 0] 110))) := Lib.hid ((Grew.refl w).alloc _)
    by_cases h0 : k < 0
    · clear hk
      go_enter Try.func73, Try.ntmps73
      go_wp2
      have c0 := HT.out.c0
      have c1 := HT.out.c1
      exact bodyPost_ret (v := .agg #[.int .i64 0, .int .i64 0]) (by simp [results, Try.results73, go_sem, c0, c1]) rfl ⟨rfl, HG.out⟩
    · have hk1 : (n : Int) - 1 ≤ k := by unfold lnk at hk; omega
      have hn16 : n ≤ 16 := by omega
      clear hk
      go_enter Try.func73, Try.ntmps73
      go_wp2
      have c0 := HT.out.c0
      have c1 := HT.out.c1
      exact bodyPost_ret (v := .agg #[.int .i64 0, .int .i64 0]) (by simp [results, Try.results73, go_sem, c0, c1]) rfl ⟨rfl, HG.out⟩
end Go.Proofs.Ytciocdjpgknihaa
