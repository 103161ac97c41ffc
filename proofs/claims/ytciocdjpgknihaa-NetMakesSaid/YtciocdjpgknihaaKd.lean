/- split of package net: the links of a network over the memory of its parameters. Condition: the sizes are right. -/
import Derived.Test.YtciocdjpgknihaaKc
import Derived.Test.YtciocdjpgknihaaHf
import Derived.Deep.AppendLies
import Derived.OrdersHeld
import Derived.Deep.RegionHeld
namespace Go.Proofs.Ytciocdjpgknihaa
open Go.RowKit

theorem rgW_at {zs : List Int} {k : Nat} (h : OkS zs) (hk : k < lnk zs) : rgW zs (k : Int) = ((oW zs k : Int), (oB zs k : Int)) := by
  rw [rgW_yes hk]
  unfold rangeW
  have h1 := oW_eq h (Nat.le_of_lt hk)
  have h2 := oB_eq h hk
  have h3 := wgt_sz h hk
  rw [h1, show cntN zs k + wgt zs k = (oB zs k : Int) by omega]
theorem rgB_at {zs : List Int} {k : Nat} (h : OkS zs) (hk : k < lnk zs) : rgB zs (k : Int) = ((oB zs k : Int), ((oB zs k + sz zs (k + 1) : Nat) : Int)) := by
  rw [rgB_yes hk]
  unfold rangeB
  have h1 := oW_eq h (Nat.le_of_lt hk)
  have h2 := oB_eq h hk
  have h3 := wgt_sz h hk
  have h4 := sz_eq h (k := k + 1) (by unfold lnk at hk; omega)
  rw [show cntN zs k + wgt zs k = (oB zs k : Int) by omega, show cntN zs k + (wgt zs k + el zs (k + 1)) = ((oB zs k + sz zs (k + 1) : Nat) : Int) by omega]

/-- A cell stays while another block is written. -/
theorem kcG {W W' : World} {r : Option Nat} {a : Addr} {x : Value} (hg : W.grownBy W' r) (h : W.cell? a = some x) (hne : some a.block ≠ r) : W'.cell? a = some x := (hg.cell_far a (World.block_lt_of_cell? W a h) hne).trans h
theorem kcA {W : World} {a : Addr} {x : Value} (o : Obj) (h : W.cell? a = some x) : (W.alloc o).cell? a = some x := kcG (((Grew.refl W).alloc o).by' none) h (fun e => by cases e)
theorem cell_four_new (w : World) (x y z u : Value) (t : TypeId) : ∀ j v, [x, y, z, u][j]? = some v → (w.alloc (.cells #[x, y, z, u] t)).cell? ((⟨w.heap.size, 0, none⟩ : Addr).add j) = some v :=
  World.news_of_block (cs := #[x, y, z, u]) (MapKept.heap_alloc w _).1
theorem four_cells {x y : Int} {a b : Option Addr} {n c n' c' : Nat} : ∀ u ∈ ([.int .i64 x, .int .i64 y, .slice a n c, .slice b n' c'] : List Value), u.oneCell' = true := by
  intro u hu
  simp only [List.mem_cons, List.not_mem_nil, or_false] at hu
  rcases hu with rfl | rfl | rfl | rfl <;> rfl
theorem info_link : (Try.prog.info? 70).map (fun i => (i.zero, i.size, i.bytes)) = some (some (.agg #[.int .i64 0, .int .i64 0, .slice none 0 0, .slice none 0 0]), 4, 64) := by kernel_rfl
set_option maxRecDepth 100000 in
set_option maxHeartbeats 4000000 in
theorem split_any {D b P : Nat} {zs : List Int} {w : World} (hR : Right zs) (h : Shp D w b zs) :
    Calls Try.prog 37 #[.pointer (some ⟨b, 0, none⟩), .slice (some ⟨P, 0, none⟩) (nP zs) (nP zs)] w fun e w' => (∃ la lc, e = .returned (.slice la (lnk zs) lc) ∧ w'.ownsRow w.heap.size 70 4 (.slice la (lnk zs) lc) (lnk zs) (lcells P zs (lnk zs))) ∧ Grew w w' := by
  obtain ⟨i0, hi, hz0, hz1, hz2⟩ := info_parts info_link
  have HS := Lib.hid h
  have HR := Lib.hid hR
  obtain ⟨n, hn⟩ : ∃ n, zs.length = n := ⟨_, rfl⟩
  obtain ⟨m, hm⟩ : ∃ m, lnk zs = m := ⟨_, rfl⟩
  have hl := lnk_in hR
  have hnm : n = m + 1 := by omega
  have hm1 : 1 ≤ m := by omega
  have hm15 : m ≤ 15 := by omega
  have HN := Lib.hid hn
  have HM := Lib.hid hm
  have hNP := nP_in hR
  rw [hm]
  clear h hR hn hm hl
  go_enter Try.func37, Try.ntmps37
  go_wp2_with fail
  refine (sizes_any (by rw [HN.out]; omega) HS.out).mono ?_
  rintro e w1 ⟨⟨sa, sc, rfl, hb⟩, g1⟩
  rw [HN.out] at hb ⊢
  subst hnm
  have HB := Lib.hid hb
  have HG1 := Lib.hid g1
  have HS1 := Lib.hid (HS.out.grow g1)
  clear hb g1
  go_wp2_with fail
  refine (links_any HS1.out).mono ?_
  rintro e w2 ⟨rfl, rfl⟩
  rw [HM.out]
  go_wp2
  rename World => W1
  go_loopw [6, 15] (fun v x wr => ∃ k : Nat, k ≤ m ∧ x = .int .i64 k ∧ Hid (wr.ownsRow W1.heap.size 70 4 v k (lcells P zs k)) ∧ Hid (Grew W1 wr)) (fun _ x _ => m - (intOf x).toNat)
  case atStart => exact ⟨0, Nat.zero_le _, rfl, Lib.hid (World.ownsRow_nil _ _ _ _), Lib.hid (Grew.refl _)⟩
  case round =>
    obtain ⟨k, hk, rfl, HL, HG⟩ := hrel
    by_cases hlt : k < m
    · have hkl : k < lnk zs := by rw [HM.out]; exact hlt
      have HRW := Lib.hid (rgW_at HR.out.2.2.1 hkl)
      have HRB := Lib.hid (rgB_at HR.out.2.2.1 hkl)
      have hs0 := sz_in HR.out.2.2.1 (k := k) (by rw [HN.out]; omega)
      have hs1 := sz_in HR.out.2.2.1 (k := k + 1) (by rw [HN.out]; omega)
      have he0 := sz_eq HR.out.2.2.1 (k := k) (by rw [HN.out]; omega)
      have he1 := sz_eq HR.out.2.2.1 (k := k + 1) (by rw [HN.out]; omega)
      have hob := oB_eq HR.out.2.2.1 hkl
      have hin := oB_in HR.out.2.2.1 hkl
      obtain ⟨sg, rfl, hsg, hsl, hc0, _⟩ := (HB.out.grow HG.out).at (k := k) (by omega)
      obtain ⟨sg', e', _, _, hc1, _⟩ := (HB.out.grow HG.out).at (k := k + 1) (by omega)
      obtain rfl : sg = sg' := by injection e' with e'; injection e'
      rw [← he0] at hc0
      rw [← he1] at hc1
      have HLC : Hid (lcells P zs (k + 1) = lcells P zs k ++ [.int .i64 (sz zs (k + 1)), .int .i64 (sz zs k), .slice (some ⟨P, oW zs k, none⟩) (sz zs (k + 1) * sz zs k) (nP zs - oW zs k), .slice (some ⟨P, oB zs k, none⟩) (sz zs (k + 1)) (nP zs - oB zs k)]) := Lib.hid rfl
      have HC0 := Lib.hid hc0
      have HC1 := Lib.hid hc1
      clear hkl e' he0 he1 hc0 hc1
      generalize sz zs (k + 1) = R at *
      generalize sz zs k = C at *
      generalize nP zs = N at *
      generalize oW zs k = ow at *
      generalize oB zs k = ob at *
      obtain ⟨M, hM⟩ : ∃ M, R * C = M := ⟨_, rfl⟩
      rw [hM] at hob HLC
      obtain ⟨oe, hoe⟩ : ∃ oe, ob + R = oe := ⟨_, rfl⟩
      rw [hoe] at hin HRB
      have HOB := Lib.hid hob
      have HOE := Lib.hid hoe
      have hle1 : ow ≤ ob := by omega
      have hle2 : ob ≤ oe := by omega
      have hlt1 : ow < N := by omega
      have hlt2 : ob < N := by omega
      clear hM hob hoe
      go_wp2_with fail
      refine (weights_any (k : Int) (HS1.out.grow HG.out)).mono ?_
      rintro e w3 ⟨rfl, g3⟩
      rw [HRW.out]
      have HG3 := Lib.hid (HG.out.trans g3)
      have HL3 := Lib.hid (own_grow HL.out g3)
      go_wp2_with fail
      refine (biases_any (k : Int) (HS1.out.grow HG3.out)).mono ?_
      rintro e w4 ⟨rfl, g4⟩
      rw [HRB.out]
      have HG4 := Lib.hid (HG3.out.trans g4)
      have HL4 := Lib.hid (own_grow HL3.out g4)
      have hc0 : w4.cell? ⟨sg, k, none⟩ = some (.int .i64 (C : Int)) := (Below.cell (g3.trans g4) (p := ⟨sg, k, none⟩) hsl).trans HC0.out
      have hc1 : w4.cell? ⟨sg, k + 1, none⟩ = some (.int .i64 (R : Int)) := (Below.cell (g3.trans g4) (p := ⟨sg, k + 1, none⟩) hsl).trans HC1.out
      have hsl4 : sg < w4.heap.size := Nat.lt_of_lt_of_le hsl (g3.trans g4).size
      have hwL : wr.heap.size ≤ w4.heap.size := (g3.trans g4).size
      clear g3 g4
      go_wp2_with fail
      have hgb : Grew w4 ((w4.alloc (.cells #[.int .i64 (ow : Nat), .int .i64 (ob : Nat)] 87)).alloc (.cells #[.int .i64 (ob : Nat), .int .i64 (oe : Nat)] 87)) := ((Grew.refl _).alloc _).alloc _
      have hw0 := (Two.new w4 87 (.int .i64 (ow : Nat)) (.int .i64 (ob : Nat))).alloc (.cells #[.int .i64 (ob : Nat), .int .i64 (oe : Nat)] 87)
      have hb0 := Two.new (w4.alloc (.cells #[.int .i64 (ow : Nat), .int .i64 (ob : Nat)] 87)) 87 (.int .i64 (ob : Nat)) (.int .i64 (oe : Nat))
      rw [World.size_alloc] at hb0
      have hsz : ((w4.alloc (.cells #[.int .i64 (ow : Nat), .int .i64 (ob : Nat)] 87)).alloc (.cells #[.int .i64 (ob : Nat), .int .i64 (oe : Nat)] 87)).heap.size = w4.heap.size + 1 + 1 := by simp
      have HG5 := Lib.hid (HG4.out.trans hgb)
      have HL5 := Lib.hid (own_grow HL4.out hgb)
      have HT0 := Lib.hid hw0
      have HT1 := Lib.hid hb0
      have d0 := (Below.cell hgb (p := ⟨sg, k, none⟩) hsl4).trans hc0
      have d1 := (Below.cell hgb (p := ⟨sg, k + 1, none⟩) hsl4).trans hc1
      have HSZ := Lib.hid hsz
      clear hgb hw0 hb0 hc0 hc1 hsz
      generalize (w4.alloc (.cells #[.int .i64 (ow : Nat), .int .i64 (ob : Nat)] 87)).alloc (.cells #[.int .i64 (ob : Nat), .int .i64 (oe : Nat)] 87) = w5 at *
      generalize w4.heap.size = L at *
      have a0 := HT0.out.c0
      have a1 := HT0.out.c1
      have b0 := HT1.out.c0
      have b1 := HT1.out.c1
      have hwk : IntKind.i64.wrap ((k : Int) + 1) = (k : Int) + 1 := IntWalk.i64_in _ (by omega)
      have hx1 : ob ≤ N := by omega
      have hx2 : ¬ N = ow := by omega
      have hx3 : ¬ N = ob := by omega
      have hd1 : ob - ow = M := by have := HOB.out; omega
      have hd2 : oe - ob = R := by have := HOE.out; omega
      have h0k : (0 : Int) ≤ (k : Int) + 1 := by omega
      have h1k : (k : Int) < (m : Int) + 1 := by omega
      have htk : ((k : Int) + 1).toNat = k + 1 := by omega
      refine wp_region_held_drew (S := (fun W' => Grew w5 W' ∧ W'.cell? ⟨sg, k + 1, none⟩ = some (.int .i64 (R : Int)) ∧ W'.cell? ⟨sg, k, none⟩ = some (.int .i64 (C : Int)) ∧ W'.cell? ⟨L, 0, none⟩ = some (.int .i64 (ow : Nat)) ∧ W'.cell? ⟨L, 1, none⟩ = some (.int .i64 (ob : Nat)))) (by kernel_rfl) ⟨Grew.drew' (Grew.refl _), d1, d0, a0, a1⟩ (fun hHeld => ?_)
      refine wpAnyH_take (i := 0) (oi := { dst := some 24, op := Go.Op.move (Go.Operand.tmp 5), type := 22, pos := _, after := #[], guard := none }) (v := ?v1) rfl (by kernel_rfl) (by kernel_rfl) (by kernel_rfl) (fun _ _ _ h => h) (Or.inl ⟨by kernel_rfl, ?hy1⟩) (by assumption) ?_
      case hy1 => intro w hSw; (try dsimp only at hSw); first | (go_simp; done) | (go_simp; with_reducible rfl)
      (try simp only [Act.put, List.setIfInBounds_toArray, List.set_cons_zero, List.set_cons_succ])
      refine wpAnyH_take (i := 1) (oi := { dst := some 25, op := Go.Op.move (Go.Operand.tmp 7), type := 3, pos := _, after := #[], guard := none }) (v := ?v2) rfl (by kernel_rfl) (by kernel_rfl) (by kernel_rfl) (fun _ _ _ h => h) (Or.inl ⟨by kernel_rfl, ?hy2⟩) (by assumption) ?_
      case hy2 => intro w hSw; (try dsimp only at hSw); first | (go_simp; done) | (go_simp; with_reducible rfl)
      (try simp only [Act.put, List.setIfInBounds_toArray, List.set_cons_zero, List.set_cons_succ])
      refine wpAnyH_take (i := 2) (oi := { dst := some 26, op := Go.Op.binOp Go.BinOp.add 3 (Go.Operand.tmp 25) (Go.Operand.const (Go.Value.int Go.IntKind.i64 1)) 3, type := 3, pos := _, after := #[{ on := 1, ground := Go.Ground.data }], guard := none }) (v := ?v3) rfl (by kernel_rfl) (by kernel_rfl) (by kernel_rfl) (fun _ _ _ h => h) (Or.inl ⟨by kernel_rfl, ?hy3⟩) (by assumption) ?_
      case hy3 => intro w hSw; (try dsimp only at hSw); first | (go_simp; done) | (go_simp; with_reducible rfl)
      (try simp only [Act.put, List.setIfInBounds_toArray, List.set_cons_zero, List.set_cons_succ])
      refine wpAnyH_take (i := 3) (oi := { dst := some 27, op := Go.Op.indexAddr 22 (Go.Operand.tmp 24) (Go.Operand.tmp 26), type := 0, pos := _, after := #[{ on := 0, ground := Go.Ground.data }, { on := 2, ground := Go.Ground.data }], guard := none }) (v := ?v4) rfl (by kernel_rfl) (by kernel_rfl) (by kernel_rfl) (fun _ _ _ h => h) (Or.inl ⟨by kernel_rfl, ?hy4⟩) (by assumption) ?_
      case hy4 => intro w hSw; (try dsimp only at hSw); first | (go_simp; done) | (go_simp; with_reducible rfl)
      (try simp only [Act.put, List.setIfInBounds_toArray, List.set_cons_zero, List.set_cons_succ])
      refine wpAnyH_take (i := 4) (oi := { dst := some 28, op := Go.Op.load 3 (Go.Operand.tmp 27), type := 3, pos := _, after := #[{ on := 3, ground := Go.Ground.data }], guard := none }) (v := ?v5) rfl (by kernel_rfl) (by kernel_rfl) (by kernel_rfl) (fun _ _ _ h => h) (Or.inl ⟨by kernel_rfl, ?hy5⟩) (by assumption) ?_
      case hy5 => intro w hSw; (try dsimp only at hSw); first | (go_simp; done) | (go_simp; with_reducible rfl)
      (try simp only [Act.put, List.setIfInBounds_toArray, List.set_cons_zero, List.set_cons_succ])
      refine wpAnyH_take (i := 5) (oi := { dst := some 29, op := Go.Op.move (Go.Operand.tmp 5), type := 22, pos := _, after := #[], guard := none }) (v := ?v6) rfl (by kernel_rfl) (by kernel_rfl) (by kernel_rfl) (fun _ _ _ h => h) (Or.inl ⟨by kernel_rfl, ?hy6⟩) (by assumption) ?_
      case hy6 => intro w hSw; (try dsimp only at hSw); first | (go_simp; done) | (go_simp; with_reducible rfl)
      (try simp only [Act.put, List.setIfInBounds_toArray, List.set_cons_zero, List.set_cons_succ])
      refine wpAnyH_take (i := 6) (oi := { dst := some 30, op := Go.Op.move (Go.Operand.tmp 7), type := 3, pos := _, after := #[], guard := none }) (v := ?v7) rfl (by kernel_rfl) (by kernel_rfl) (by kernel_rfl) (fun _ _ _ h => h) (Or.inl ⟨by kernel_rfl, ?hy7⟩) (by assumption) ?_
      case hy7 => intro w hSw; (try dsimp only at hSw); first | (go_simp; done) | (go_simp; with_reducible rfl)
      (try simp only [Act.put, List.setIfInBounds_toArray, List.set_cons_zero, List.set_cons_succ])
      refine wpAnyH_take (i := 7) (oi := { dst := some 31, op := Go.Op.indexAddr 22 (Go.Operand.tmp 29) (Go.Operand.tmp 30), type := 0, pos := _, after := #[{ on := 5, ground := Go.Ground.data }, { on := 6, ground := Go.Ground.data }], guard := none }) (v := ?v8) rfl (by kernel_rfl) (by kernel_rfl) (by kernel_rfl) (fun _ _ _ h => h) (Or.inl ⟨by kernel_rfl, ?hy8⟩) (by assumption) ?_
      case hy8 => intro w hSw; (try dsimp only at hSw); first | (go_simp; done) | (go_simp; with_reducible rfl)
      (try simp only [Act.put, List.setIfInBounds_toArray, List.set_cons_zero, List.set_cons_succ])
      refine wpAnyH_take (i := 8) (oi := { dst := some 32, op := Go.Op.load 3 (Go.Operand.tmp 31), type := 3, pos := _, after := #[{ on := 7, ground := Go.Ground.data }], guard := none }) (v := ?v9) rfl (by kernel_rfl) (by kernel_rfl) (by kernel_rfl) (fun _ _ _ h => h) (Or.inl ⟨by kernel_rfl, ?hy9⟩) (by assumption) ?_
      case hy9 => intro w hSw; (try dsimp only at hSw); first | (go_simp; done) | (go_simp; with_reducible rfl)
      (try simp only [Act.put, List.setIfInBounds_toArray, List.set_cons_zero, List.set_cons_succ])
      refine wpAnyH_take (i := 9) (oi := { dst := some 33, op := Go.Op.move (Go.Operand.tmp 1), type := 32, pos := _, after := #[], guard := none }) (v := ?v10) rfl (by kernel_rfl) (by kernel_rfl) (by kernel_rfl) (fun _ _ _ h => h) (Or.inl ⟨by kernel_rfl, ?hy10⟩) (by assumption) ?_
      case hy10 => intro w hSw; (try dsimp only at hSw); first | (go_simp; done) | (go_simp; with_reducible rfl)
      (try simp only [Act.put, List.setIfInBounds_toArray, List.set_cons_zero, List.set_cons_succ])
      refine wpAnyH_take (i := 10) (oi := { dst := some 34, op := Go.Op.fieldAddr 87 (Go.Operand.tmp 8) 0, type := 0, pos := _, after := #[], guard := none }) (v := ?v11) rfl (by kernel_rfl) (by kernel_rfl) (by kernel_rfl) (fun _ _ _ h => h) (Or.inl ⟨by kernel_rfl, ?hy11⟩) (by assumption) ?_
      case hy11 => intro w hSw; (try dsimp only at hSw); first | (go_simp; done) | (go_simp; with_reducible rfl)
      (try simp only [Act.put, List.setIfInBounds_toArray, List.set_cons_zero, List.set_cons_succ])
      refine wpAnyH_take (i := 11) (oi := { dst := some 35, op := Go.Op.load 3 (Go.Operand.tmp 34), type := 3, pos := _, after := #[{ on := 10, ground := Go.Ground.data }], guard := none }) (v := ?v12) rfl (by kernel_rfl) (by kernel_rfl) (by kernel_rfl) (fun _ _ _ h => h) (Or.inl ⟨by kernel_rfl, ?hy12⟩) (by assumption) ?_
      case hy12 => intro w hSw; (try dsimp only at hSw); first | (go_simp; done) | (go_simp; with_reducible rfl)
      (try simp only [Act.put, List.setIfInBounds_toArray, List.set_cons_zero, List.set_cons_succ])
      refine wpAnyH_take (i := 12) (oi := { dst := some 36, op := Go.Op.fieldAddr 87 (Go.Operand.tmp 8) 1, type := 0, pos := _, after := #[], guard := none }) (v := ?v13) rfl (by kernel_rfl) (by kernel_rfl) (by kernel_rfl) (fun _ _ _ h => h) (Or.inl ⟨by kernel_rfl, ?hy13⟩) (by assumption) ?_
      case hy13 => intro w hSw; (try dsimp only at hSw); first | (go_simp; done) | (go_simp; with_reducible rfl)
      (try simp only [Act.put, List.setIfInBounds_toArray, List.set_cons_zero, List.set_cons_succ])
      refine wpAnyH_take (i := 13) (oi := { dst := some 37, op := Go.Op.load 3 (Go.Operand.tmp 36), type := 3, pos := _, after := #[{ on := 12, ground := Go.Ground.data }], guard := none }) (v := ?v14) rfl (by kernel_rfl) (by kernel_rfl) (by kernel_rfl) (fun _ _ _ h => h) (Or.inl ⟨by kernel_rfl, ?hy14⟩) (by assumption) ?_
      case hy14 => intro w hSw; (try dsimp only at hSw); first | (go_simp; done) | (go_simp; with_reducible rfl)
      (try simp only [Act.put, List.setIfInBounds_toArray, List.set_cons_zero, List.set_cons_succ])
      refine wpAnyH_take (i := 14) (oi := { dst := some 38, op := Go.Op.slice 32 (Go.Operand.tmp 33) (some (Go.Operand.tmp 35)) (some (Go.Operand.tmp 37)) none, type := 32, pos := _, after := #[{ on := 9, ground := Go.Ground.data }, { on := 11, ground := Go.Ground.data }, { on := 13, ground := Go.Ground.data }], guard := none }) (v := ?v15) rfl (by kernel_rfl) (by kernel_rfl) (by kernel_rfl) (fun _ _ _ h => h) (Or.inl ⟨by kernel_rfl, ?hy15⟩) (by assumption) ?_
      case hy15 => intro w hSw; (try dsimp only at hSw); first | (go_simp; done) | (go_simp; with_reducible rfl)
      (try simp only [Act.put, List.setIfInBounds_toArray, List.set_cons_zero, List.set_cons_succ])
      refine wpAnyH_take (i := 15) (oi := { dst := some 39, op := Go.Op.build 68 #[(0, Go.Operand.tmp 28), (1, Go.Operand.tmp 32), (2, Go.Operand.tmp 38)], type := 68, pos := _, after := #[{ on := 4, ground := Go.Ground.data }, { on := 8, ground := Go.Ground.data }, { on := 14, ground := Go.Ground.data }], guard := none }) (v := ?v16) rfl (by kernel_rfl) (by kernel_rfl) (by kernel_rfl) (fun _ _ _ h => h) (Or.inl ⟨by kernel_rfl, ?hy16⟩) (by assumption) ?_
      case hy16 => intro w hSw; (try dsimp only at hSw); first | (go_simp; done) | (go_simp; with_reducible rfl)
      (try simp only [Act.put, List.setIfInBounds_toArray, List.set_cons_zero, List.set_cons_succ])
      refine wpAnyH_ready (rs := [16]) (by kernel_rfl) (by simp) ?_
      refine AllReadyH.cons (o := { dst := some 10, op := Go.Op.alloc 68, type := 0, pos := _, after := #[], guard := none }) rfl (fun K hK => ?_) AllReadyH.nil
      go_simp
      skip
      (try go_wp2_with fail)
      refine hK.out _ _ ?hS18 (fun hHeld => ?_)
      case hS18 => (try dsimp only); (obtain ⟨s0, s1, s2, s3, s4⟩ := hHeld; exact ⟨s0.alloc _, kcA _ s1, kcA _ s2, kcA _ s3, kcA _ s4⟩)
      clear hK K
      (try simp only [Act.put, List.setIfInBounds_toArray, List.set_cons_zero, List.set_cons_succ])
      refine wpAnyH_ready (rs := [17]) (by kernel_rfl) (by simp) ?_
      refine AllReadyH.cons (o := { dst := none, op := Go.Op.store 68 (Go.Operand.tmp 10) (Go.Operand.tmp 39), type := 0, pos := _, after := #[{ on := 16, ground := Go.Ground.data }, { on := 15, ground := Go.Ground.data }, { on := 0, ground := Go.Ground.phase }, { on := 1, ground := Go.Ground.phase }, { on := 2, ground := Go.Ground.phase }, { on := 3, ground := Go.Ground.phase }, { on := 4, ground := Go.Ground.phase }, { on := 5, ground := Go.Ground.phase }, { on := 6, ground := Go.Ground.phase }, { on := 7, ground := Go.Ground.phase }, { on := 8, ground := Go.Ground.phase }, { on := 9, ground := Go.Ground.phase }, { on := 10, ground := Go.Ground.phase }, { on := 11, ground := Go.Ground.phase }, { on := 12, ground := Go.Ground.phase }, { on := 13, ground := Go.Ground.phase }, { on := 14, ground := Go.Ground.phase }, { on := 15, ground := Go.Ground.phase }, { on := 16, ground := Go.Ground.phase }], guard := none }) rfl (fun K hK => ?_) AllReadyH.nil
      go_simp
      skip
      (try go_wp2_with fail)
      refine hK.out _ _ ?hS20 (fun hHeld => ?_)
      case hS20 => (try dsimp only); exact ⟨Grew.drew' ((Grew.refl _).alloc _), kcA _ d1, kcA _ d0, kcA _ a0, kcA _ a1⟩
      clear hK K
      (try simp only [Act.put, List.setIfInBounds_toArray, List.set_cons_zero, List.set_cons_succ])
      refine wpAnyH_done (by kernel_rfl) ?_ _
      have hg6 : Grew w5 (w5.alloc (.cells #[.int .i64 (R : Nat), .int .i64 (C : Nat), .slice (some ⟨P, ow, none⟩) M (N - ow)] 68)).drew := Grew.drew' ((Grew.refl _).alloc _)
      have hm6 : Three (w5.alloc (.cells #[.int .i64 (R : Nat), .int .i64 (C : Nat), .slice (some ⟨P, ow, none⟩) M (N - ow)] 68)).drew w5.heap.size 68 (.int .i64 (R : Nat)) (.int .i64 (C : Nat)) (.slice (some ⟨P, ow, none⟩) M (N - ow)) := Three.new w5 _ _ _ _
      have HG6 := Lib.hid (HG5.out.trans hg6)
      have HL6 := Lib.hid (own_grow HL5.out hg6)
      have HT6 := Lib.hid (HT1.out.grow hg6)
      have HM6 := Lib.hid hm6
      have hs6 : L + 1 < w5.heap.size := by have := HSZ.out; omega
      have hW1 := HG6.out.size
      clear hg6 hm6 hHeld d0 d1 a0 a1 b0 b1
      generalize (w5.alloc (.cells #[.int .i64 (R : Nat), .int .i64 (C : Nat), .slice (some ⟨P, ow, none⟩) M (N - ow)] 68)).drew = w6 at *
      generalize w5.heap.size = L2 at *
      have m0 := HM6.out.c0
      have m1 := HM6.out.c1
      have m2 := HM6.out.c2
      have b0 := HT6.out.c0
      have b1 := HT6.out.c1
      go_wp2_with fail
      refine wp_region_held_drew (S := (fun W' => W'.cell? ⟨L2, 0, none⟩ = some (.int .i64 (R : Int)) ∧ W'.cell? ⟨L2, 1, none⟩ = some (.int .i64 (C : Int)) ∧ W'.cell? ⟨L2, 2, none⟩ = some (.slice (some ⟨P, ow, none⟩) M (N - ow)) ∧ W'.cell? ⟨L + 1, 0, none⟩ = some (.int .i64 (ob : Nat)) ∧ W'.cell? ⟨L + 1, 1, none⟩ = some (.int .i64 (oe : Nat)))) (by kernel_rfl) ⟨m0, m1, m2, b0, b1⟩ (fun hHeld => ?_)
      refine wpAnyH_take (i := 0) (oi := { dst := some 40, op := Go.Op.move (Go.Operand.tmp 6), type := 56, pos := _, after := #[], guard := none }) (v := ?v21) rfl (by kernel_rfl) (by kernel_rfl) (by kernel_rfl) (fun _ _ _ h => h) (Or.inl ⟨by kernel_rfl, ?hy21⟩) (by assumption) ?_
      case hy21 => intro w hSw; (try dsimp only at hSw); first | (go_simp; done) | (go_simp; with_reducible rfl)
      (try simp only [Act.put, List.setIfInBounds_toArray, List.set_cons_zero, List.set_cons_succ])
      refine wpAnyH_take (i := 1) (oi := { dst := some 41, op := Go.Op.load 68 (Go.Operand.tmp 10), type := 68, pos := _, after := #[], guard := none }) (v := ?v22) rfl (by kernel_rfl) (by kernel_rfl) (by kernel_rfl) (fun _ _ _ h => h) (Or.inl ⟨by kernel_rfl, ?hy22⟩) (by assumption) ?_
      case hy22 => intro w hSw; (try dsimp only at hSw); first | (go_simp; done) | (go_simp; with_reducible rfl)
      (try simp only [Act.put, List.setIfInBounds_toArray, List.set_cons_zero, List.set_cons_succ])
      refine wpAnyH_take (i := 2) (oi := { dst := some 42, op := Go.Op.move (Go.Operand.tmp 1), type := 32, pos := _, after := #[], guard := none }) (v := ?v23) rfl (by kernel_rfl) (by kernel_rfl) (by kernel_rfl) (fun _ _ _ h => h) (Or.inl ⟨by kernel_rfl, ?hy23⟩) (by assumption) ?_
      case hy23 => intro w hSw; (try dsimp only at hSw); first | (go_simp; done) | (go_simp; with_reducible rfl)
      (try simp only [Act.put, List.setIfInBounds_toArray, List.set_cons_zero, List.set_cons_succ])
      refine wpAnyH_take (i := 3) (oi := { dst := some 43, op := Go.Op.fieldAddr 87 (Go.Operand.tmp 9) 0, type := 0, pos := _, after := #[], guard := none }) (v := ?v24) rfl (by kernel_rfl) (by kernel_rfl) (by kernel_rfl) (fun _ _ _ h => h) (Or.inl ⟨by kernel_rfl, ?hy24⟩) (by assumption) ?_
      case hy24 => intro w hSw; (try dsimp only at hSw); first | (go_simp; done) | (go_simp; with_reducible rfl)
      (try simp only [Act.put, List.setIfInBounds_toArray, List.set_cons_zero, List.set_cons_succ])
      refine wpAnyH_take (i := 4) (oi := { dst := some 44, op := Go.Op.load 3 (Go.Operand.tmp 43), type := 3, pos := _, after := #[{ on := 3, ground := Go.Ground.data }], guard := none }) (v := ?v25) rfl (by kernel_rfl) (by kernel_rfl) (by kernel_rfl) (fun _ _ _ h => h) (Or.inl ⟨by kernel_rfl, ?hy25⟩) (by assumption) ?_
      case hy25 => intro w hSw; (try dsimp only at hSw); first | (go_simp; done) | (go_simp; with_reducible rfl)
      (try simp only [Act.put, List.setIfInBounds_toArray, List.set_cons_zero, List.set_cons_succ])
      refine wpAnyH_take (i := 5) (oi := { dst := some 45, op := Go.Op.fieldAddr 87 (Go.Operand.tmp 9) 1, type := 0, pos := _, after := #[], guard := none }) (v := ?v26) rfl (by kernel_rfl) (by kernel_rfl) (by kernel_rfl) (fun _ _ _ h => h) (Or.inl ⟨by kernel_rfl, ?hy26⟩) (by assumption) ?_
      case hy26 => intro w hSw; (try dsimp only at hSw); first | (go_simp; done) | (go_simp; with_reducible rfl)
      (try simp only [Act.put, List.setIfInBounds_toArray, List.set_cons_zero, List.set_cons_succ])
      refine wpAnyH_take (i := 6) (oi := { dst := some 46, op := Go.Op.load 3 (Go.Operand.tmp 45), type := 3, pos := _, after := #[{ on := 5, ground := Go.Ground.data }], guard := none }) (v := ?v27) rfl (by kernel_rfl) (by kernel_rfl) (by kernel_rfl) (fun _ _ _ h => h) (Or.inl ⟨by kernel_rfl, ?hy27⟩) (by assumption) ?_
      case hy27 => intro w hSw; (try dsimp only at hSw); first | (go_simp; done) | (go_simp; with_reducible rfl)
      (try simp only [Act.put, List.setIfInBounds_toArray, List.set_cons_zero, List.set_cons_succ])
      refine wpAnyH_take (i := 7) (oi := { dst := some 47, op := Go.Op.slice 32 (Go.Operand.tmp 42) (some (Go.Operand.tmp 44)) (some (Go.Operand.tmp 46)) none, type := 32, pos := _, after := #[{ on := 2, ground := Go.Ground.data }, { on := 4, ground := Go.Ground.data }, { on := 6, ground := Go.Ground.data }], guard := none }) (v := ?v28) rfl (by kernel_rfl) (by kernel_rfl) (by kernel_rfl) (fun _ _ _ h => h) (Or.inl ⟨by kernel_rfl, ?hy28⟩) (by assumption) ?_
      case hy28 => intro w hSw; (try dsimp only at hSw); first | (go_simp; done) | (go_simp; with_reducible rfl)
      (try simp only [Act.put, List.setIfInBounds_toArray, List.set_cons_zero, List.set_cons_succ])
      refine wpAnyH_take (i := 8) (oi := { dst := some 48, op := Go.Op.build 70 #[(0, Go.Operand.tmp 41), (1, Go.Operand.tmp 47)], type := 70, pos := _, after := #[{ on := 1, ground := Go.Ground.data }, { on := 7, ground := Go.Ground.data }], guard := none }) (v := ?v29) rfl (by kernel_rfl) (by kernel_rfl) (by kernel_rfl) (fun _ _ _ h => h) (Or.inl ⟨by kernel_rfl, ?hy29⟩) (by assumption) ?_
      case hy29 => intro w hSw; (try dsimp only at hSw); first | (go_simp; done) | (go_simp; with_reducible rfl)
      (try simp only [Act.put, List.setIfInBounds_toArray, List.set_cons_zero, List.set_cons_succ])
      refine wpAnyH_ready (rs := [9]) (by kernel_rfl) (by simp) ?_
      refine AllReadyH.cons (o := { dst := some 49, op := Go.Op.buildSlice 56 1 #[(0, Go.Operand.tmp 48)], type := 56, pos := _, after := #[{ on := 8, ground := Go.Ground.data }], guard := none }) rfl (fun K hK => ?_) AllReadyH.nil
      go_simp
      skip
      (try go_wp2_with fail)
      refine hK.out _ _ ?hS31 (fun hHeld => ?_)
      case hS31 => (try dsimp only); (obtain ⟨s1, s2, s3, s4, s5⟩ := hHeld; exact ⟨kcA _ s1, kcA _ s2, kcA _ s3, kcA _ s4, kcA _ s5⟩)
      clear hK K
      (try simp only [Act.put, List.setIfInBounds_toArray, List.set_cons_zero, List.set_cons_succ])
      refine wpAnyH_ready (rs := [10]) (by kernel_rfl) (by simp) ?_
      refine AllReadyH.cons (o := { dst := some 50, op := Go.Op.call { callee := Go.Callee.builtin Go.Builtin.append, args := #[Go.Operand.tmp 40, Go.Operand.tmp 49], argTypes := #[56, 56] }, type := 56, pos := _, after := #[{ on := 0, ground := Go.Ground.data }, { on := 9, ground := Go.Ground.data }], guard := none }) rfl (fun K hK => ?_) AllReadyH.nil
      (refine step_append_lies _ rfl _ _ 56 rfl W1.heap.size 70 i0 (.agg #[.int .i64 0, .int .i64 0, .slice none 0 0, .slice none 0 0]) 4 64 Try.underlying56 hi hz0 hz1 hz2 rfl (by decide) u6 k _ rfl (own_grow HL6.out ((Grew.drew' (Grew.refl _)).alloc _)) ⟨w6.heap.size, 0, none⟩ 1 1 [.int .i64 (R : Int), .int .i64 (C : Int), .slice (some ⟨P, ow, none⟩) M (N - ow), .slice (some ⟨P, ob, none⟩) R (N - ob)] rfl rfl (cell_four_new w6.drew _ _ _ _ _) four_cells (by decide) (by unfold maxLen; omega) (by omega) (by simp; omega) _ rfl ?_; intro g' c' w7 hown hgrow hat hlt')
      (try go_wp2_with fail)
      refine hK.out _ _ ?hS33 (fun hHeld => ?_)
      case hS33 => (try dsimp only); (obtain ⟨s1, s2, s3, s4, s5⟩ := hHeld; exact ⟨kcG hgrow s1 (fun e => by have h9 := (World.ownsRow.lt HL.out _ e.symm).2; dsimp only at h9; omega), kcG hgrow s2 (fun e => by have h9 := (World.ownsRow.lt HL.out _ e.symm).2; dsimp only at h9; omega), kcG hgrow s3 (fun e => by have h9 := (World.ownsRow.lt HL.out _ e.symm).2; dsimp only at h9; omega), kcG hgrow s4 (fun e => by have h9 := (World.ownsRow.lt HL.out _ e.symm).2; dsimp only at h9; omega), kcG hgrow s5 (fun e => by have h9 := (World.ownsRow.lt HL.out _ e.symm).2; dsimp only at h9; omega)⟩)
      clear hK K
      (try simp only [Act.put, List.setIfInBounds_toArray, List.set_cons_zero, List.set_cons_succ])
      refine wpAnyH_take (i := 11) (oi := { dst := some 6, op := Go.Op.assign (Go.Operand.tmp 50), type := 56, pos := _, after := #[{ on := 10, ground := Go.Ground.data }, { on := 10, ground := Go.Ground.chain }, { on := 0, ground := Go.Ground.phase }, { on := 1, ground := Go.Ground.phase }, { on := 2, ground := Go.Ground.phase }, { on := 3, ground := Go.Ground.phase }, { on := 4, ground := Go.Ground.phase }, { on := 5, ground := Go.Ground.phase }, { on := 6, ground := Go.Ground.phase }, { on := 7, ground := Go.Ground.phase }, { on := 8, ground := Go.Ground.phase }, { on := 9, ground := Go.Ground.phase }, { on := 10, ground := Go.Ground.phase }], guard := none }) (v := ?v34) rfl (by kernel_rfl) (by kernel_rfl) (by kernel_rfl) (fun _ _ _ h => h) (Or.inl ⟨by kernel_rfl, ?hy34⟩) (by assumption) ?_
      case hy34 => intro w hSw; (try dsimp only at hSw); first | (go_simp; done) | (go_simp; with_reducible rfl)
      (try simp only [Act.put, List.setIfInBounds_toArray, List.set_cons_zero, List.set_cons_succ])
      refine wpAnyH_done (by kernel_rfl) ?_ _
      have HLE : Hid (w7.ownsRow W1.heap.size 70 4 (.slice (some ⟨g', 0, none⟩) (k + 1 : Nat) c') (k + 1) (lcells P zs (k + 1))) := Lib.hid (by rw [HLC.out]; exact hown)
      have HGE : Hid (Grew W1 w7) := Lib.hid (Below.grown ((Grew.drew' HG6.out).alloc _) hgrow (by simp; omega) (fun j hj => (World.ownsRow.lt HL6.out j hj).1))
      clear hown hgrow hat hlt' hHeld
      go_wp2
      go_roundw
      case rel => exact ⟨k + 1, by omega, by go_num, HLE, HGE⟩
      case measure => simp [intOf]; omega
    · obtain rfl : k = m := by omega
      have hlm : W1.heap.size ≥ w.heap.size := HG1.out.size
      have HGE := Lib.hid (HG1.out.trans HG.out)
      rcases HL.out.2 with ⟨rfl, h0⟩ | ⟨g, c, cur, rfl, hbg, hrest⟩
      · omega
      · have HLE : Hid (wr.ownsRow w.heap.size 70 4 (.slice (some ⟨g, 0, none⟩) k c) k (lcells P zs k)) := Lib.hid ⟨HL.out.1, .inr ⟨g, c, cur, rfl, Nat.le_trans hlm hbg, hrest⟩⟩
        clear hrest
        go_wp2
        go_ret
        exact ⟨⟨_, _, rfl, HLE.out⟩, HGE.out⟩
end Go.Proofs.Ytciocdjpgknihaa
