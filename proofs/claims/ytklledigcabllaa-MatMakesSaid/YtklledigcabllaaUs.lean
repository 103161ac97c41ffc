/- Turn of the reference. Conditions: elements are within the bounds of int64; at most 2^40 of them. -/
import Derived.Test.YtklledigcabllaaUr
import Derived.Test.YtklledigcabllaaNd
import Derived.Deep.AppendLies
namespace Go.Proofs.Ytklledigcabllaa
open Go.RowKit

theorem keep_b3 {V W W' : World} {D : Nat} {a b c : Addr} {x y z : Value} (k : Below D W W') (h : Below D V W ∧ W.cell? a = some x ∧ W.cell? b = some y ∧ W.cell? c = some z) (ha : a.block < D) (hb : b.block < D) (hc : c.block < D) :
    Below D V W' ∧ W'.cell? a = some x ∧ W'.cell? b = some y ∧ W'.cell? c = some z :=
  ⟨h.1.trans k, (k.cell ha).trans h.2.1, (k.cell hb).trans h.2.2.1, (k.cell hc).trans h.2.2.2⟩
theorem Below.drew1 {D : Nat} {a b : World} (h : Below D a b) : Below D a b.drew := ⟨h.os, h.tape, h.output, h.size, h.block⟩

/-- The first elements of the transposed matrix. -/
def tL (zs : List Int) (R C k : Nat) : List Int := (List.range k).map fun i => el zs (i % R * C + i / R)
theorem tL_succ (zs : List Int) {R C r c : Nat} (hr : r < R) : tL zs R C (c * R + (r + 1)) = tL zs R C (c * R + r) ++ [el zs (r * C + c)] := by
  unfold tL
  rw [← Nat.add_assoc, List.range_succ, List.map_append, List.map_singleton, mod_place hr, div_place hr]

set_option maxHeartbeats 1000000 in
theorem rturn_no (R C : Int) (a : Option Addr) (n cap : Nat) (w : World) (hn : n ≤ 35184372088832) (h : rightB R C n = false) :
    Calls Try.prog 26 #[.agg #[.int .i64 R, .int .i64 C, .slice a n cap]] w fun e w' => e = .returned (.agg #[.int .i64 0, .int .i64 0, .slice none 0 0]) ∧ Grew w w' := by
  have hg : Grew w ((w.alloc (.cells #[.int .i64 R, .int .i64 C, .slice a n cap] 24)).alloc (.cells #[.int .i64 0, .int .i64 0, .slice none 0 0] 24)) := ((Grew.refl w).alloc _).alloc _
  have ht := Three.new (w.alloc (.cells #[.int .i64 R, .int .i64 C, .slice a n cap] 24)) 24 (.int .i64 0) (.int .i64 0) (.slice none 0 0)
  rw [World.size_alloc] at ht
  have HT := Lib.hid ht
  have HG := Lib.hid hg
  have HR := Lib.hid h
  clear hg ht h
  go_enter Try.func26, Try.ntmps26
  go_wp2_with fail
  refine (rright_any R C a n cap _ hn).mono ?_
  rintro e w1 ⟨rfl, g1⟩
  rw [HR.out]
  have HG1 := Lib.hid (HG.out.trans g1)
  have HT1 := Lib.hid (HT.out.grow g1)
  have t0 := HT1.out.c0
  have t1 := HT1.out.c1
  have t2 := HT1.out.c2
  have f0 := HT1.out.f0
  have f1 := HT1.out.f1
  have f2 := HT1.out.f2
  clear g1
  go_wp2
  have ht := HT1.out.all (.int .i64 0) (.int .i64 0) (.slice none 0 0)
  have HG2 := Lib.hid (Grew.three (g := w.heap.size + 1) HG1.out (by omega) (.int .i64 0) (.int .i64 0) (.slice none 0 0))
  generalize ((w1.setCell ⟨w.heap.size + 1, 0, none⟩ (.int .i64 0)).setCell ⟨w.heap.size + 1, 1, none⟩ (.int .i64 0)).setCell ⟨w.heap.size + 1, 2, none⟩ (.slice none 0 0) = W at *
  have c0 := ht.c0
  have c1 := ht.c1
  have c2 := ht.c2
  exact bodyPost_ret (v := .agg #[.int .i64 0, .int .i64 0, .slice none 0 0]) (by simp [results, Try.results26, go_sem, c0, c1, c2]) rfl ⟨rfl, HG2.out⟩

theorem own_set {B n b i : Nat} {W : World} {v x y z u : Value} {xs : List Value} (h : W.ownsRow B 2 1 v n xs) (hT : Three W b 24 x y z) : (W.setCell ⟨b, i, none⟩ u).ownsRow B 2 1 v n xs := by
  refine ⟨h.1, ?_⟩
  rcases h.2 with e | ⟨g, c, cur, e, hb, hg, rest⟩
  · exact .inl e
  · refine .inr ⟨g, c, cur, e, hb, (heap_setCell_other W ⟨b, i, none⟩ g u ?_).trans hg, rest⟩
    intro e2
    exact own_not h hT (by rw [e, show g = b from e2]; rfl)
/-- Out holds the first k elements. -/
def Out (W : World) (O R C k : Nat) (zs : List Int) : Prop := ∃ v, Three W O 24 (.int .i64 C) (.int .i64 R) v ∧ W.ownsRow O 2 1 v k ((tL zs R C k).map (Value.int .i64))

set_option linter.unusedSimpArgs false in
set_option maxRecDepth 100000 in
set_option maxHeartbeats 4000000 in
theorem rturn_yes {R C cap : Nat} {a : Option Addr} {zs : List Int} (w : World) (hz : zs.length = R * C) (hR1 : 1 ≤ R) (hR2 : R ≤ 1048576) (hC : 1 ≤ C) (hC2 : C ≤ 1048576) (hl : zs.length ≤ 1099511627776)
    (hzr : Rd w.heap.size w a zs) :
    Calls Try.prog 26 #[.agg #[.int .i64 R, .int .i64 C, .slice a zs.length cap]] w fun e w' => (∃ s c, e = .returned (.agg #[.int .i64 C, .int .i64 R, .slice s (C * R : Nat) c]) ∧ Buf w.heap.size w' s (C * R) c (turnL zs R C)) ∧ Grew w w' := by
  have hg : Grew w ((w.alloc (.cells #[.int .i64 R, .int .i64 C, .slice a zs.length cap] 24)).alloc (.cells #[.int .i64 0, .int .i64 0, .slice none 0 0] 24)) := ((Grew.refl w).alloc _).alloc _
  have ht := (Three.new w 24 (.int .i64 R) (.int .i64 C) (.slice a zs.length cap)).alloc (.cells #[.int .i64 0, .int .i64 0, .slice none 0 0] 24)
  have ho := Three.new (w.alloc (.cells #[.int .i64 R, .int .i64 C, .slice a zs.length cap] 24)) 24 (.int .i64 0) (.int .i64 0) (.slice none 0 0)
  rw [World.size_alloc] at ho
  have HT := Lib.hid ht
  have HO := Lib.hid ho
  have HG := Lib.hid hg
  have hR : rightB (R : Int) (C : Int) zs.length = true := by rw [hz]; exact rightB_of hR1 hR2 hC hC2
  have HR := Lib.hid hR
  have HA : Hid (∀ r c : Nat, r < R → c < C → atV zs R C r c = el zs (r * C + c)) := Lib.hid (fun r c hr hc => atV_in hR hr hc)
  have HZR := Lib.hid hzr
  have HZ := Lib.hid hz
  have HB : Hid (C * R ≤ 1099511627776) := Lib.hid (by rw [Nat.mul_comm, ← hz]; exact hl)
  obtain ⟨i0, hi, hz0, hz1, hz2⟩ := info_parts info_int
  clear hg ht ho hzr hz hR
  go_enter Try.func26, Try.ntmps26
  go_wp2_with fail
  refine (rright_any (R : Int) (C : Int) a zs.length cap _ (by omega)).mono ?_
  rintro e w1 ⟨rfl, g1⟩
  rw [HR.out]
  have hs1 : w.heap.size + 1 + 1 ≤ w1.heap.size := by have := g1.size; simp at this; omega
  have HG1 := Lib.hid (HG.out.trans g1)
  have HT1 := Lib.hid (HT.out.grow g1)
  have HO1 := Lib.hid (HO.out.grow g1)
  have c0 := HT1.out.c0
  have c1 := HT1.out.c1
  clear g1
  go_wp2_with fail
  have HOUT : Hid (Out (w1.alloc (.cells #[.int .i64 C, .int .i64 R, .slice none 0 0] 24)) w1.heap.size R C (0 * R) zs) := Lib.hid (by rw [Nat.zero_mul]; exact ⟨_, Three.new _ _ _ _ _, World.ownsRow_nil _ _ _ _⟩)
  have HT2 := Lib.hid (HT1.out.alloc (.cells #[.int .i64 C, .int .i64 R, .slice none 0 0] 24))
  have HO2 := Lib.hid (HO1.out.alloc (.cells #[.int .i64 C, .int .i64 R, .slice none 0 0] 24))
  have HG2 := Lib.hid (HG1.out.alloc (.cells #[.int .i64 C, .int .i64 R, .slice none 0 0] 24))
  clear c0 c1 HT1 HO1 HG1
  generalize w1.alloc (.cells #[.int .i64 C, .int .i64 R, .slice none 0 0] 24) = W0 at *
  generalize w1.heap.size = O at *
  go_loopw [4] (fun i wr => ∃ c : Nat, c ≤ C ∧ i = .int .i64 (c : Int) ∧ Hid (Out wr O R C (c * R) zs) ∧ Hid (Three wr w.heap.size 24 (.int .i64 R) (.int .i64 C) (.slice a zs.length cap)) ∧ Hid (Three wr (w.heap.size + 1) 24 (.int .i64 0) (.int .i64 0) (.slice none 0 0)) ∧ Hid (Grew w wr)) (fun i _ => C - (intOf i).toNat)
  case atStart => exact ⟨0, Nat.zero_le _, by simp, HOUT, HT2, HO2, HG2⟩
  case round =>
    obtain ⟨c, hc, rfl, HOc, HTc, HZc, HGc⟩ := hrel
    have c0 := HTc.out.c0
    have c1 := HTc.out.c1
    have c2 := HTc.out.c2
    by_cases hlt : c < C
    · go_wp2_with fail
      clear c0 c1 c2
      rename World => W1
      go_loopw [5] (fun i wr => ∃ r : Nat, r ≤ R ∧ i = .int .i64 (r : Int) ∧ Hid (Out wr O R C (c * R + r) zs) ∧ Hid (Three wr w.heap.size 24 (.int .i64 R) (.int .i64 C) (.slice a zs.length cap)) ∧ Hid (Three wr (w.heap.size + 1) 24 (.int .i64 0) (.int .i64 0) (.slice none 0 0)) ∧ Hid (Grew w wr)) (fun i _ => R - (intOf i).toNat)
      case atStart => exact ⟨0, Nat.zero_le _, by simp, HOc, HTc, HZc, HGc⟩
      case round =>
        obtain ⟨r, hr, rfl, HOr, HTr, HZr, HGr⟩ := hrel
        have c0 := HTr.out.c0
        have c1 := HTr.out.c1
        have c2 := HTr.out.c2
        by_cases hlr : r < R
        · obtain ⟨v, hT3, hown⟩ := HOr.out
          obtain ⟨sa, sc, rfl, _⟩ := own_slice hown
          have hOl := hT3.lt
          have o2 := hT3.c2
          have HT3 := Lib.hid hT3
          have HOW := Lib.hid hown
          have HK : Hid (c * R + r + 1 ≤ 1099511627776) := Lib.hid (Nat.le_trans (show c * R + r + 1 ≤ C * R from place_lt hlt hlr) HB.out)
          have HAt := Lib.hid (HA.out r c hlr hlt)
          have HS := Lib.hid (tL_succ zs (C := C) (c := c) hlr)
          have HKE : Hid (c * R + (r + 1) = c * R + r + 1) := Lib.hid rfl
          have HZRd := Lib.hid (HZR.out.grow (Grew.drew' HGr.out))
          generalize el zs (r * C + c) = zv at *
          generalize c * R + r = k at *
          clear hT3 hown
          go_wp2_with fail
          refine wp_region_held_drew (S := (fun W' => Below O wr W' ∧ W'.cell? ⟨w.heap.size, 0, none⟩ = some (.int .i64 R) ∧ W'.cell? ⟨w.heap.size, 1, none⟩ = some (.int .i64 C) ∧ W'.cell? ⟨w.heap.size, 2, none⟩ = some (.slice a zs.length cap))) (by kernel_rfl) ⟨Below.drew1 (Below.refl O wr), c0, c1, c2⟩ (fun hHeld => ?_)
          refine wpAnyH_take (i := 0) (oi := { dst := some 27, op := Go.Op.fieldAddr 24 (Go.Operand.tmp 3) 2, type := 0, pos := _, after := #[], guard := none }) (v := ?v1) rfl (by kernel_rfl) (by kernel_rfl) (by kernel_rfl) (fun _ _ _ h => h) (Or.inl ⟨by kernel_rfl, ?hy1⟩) (by assumption) ?_
          case hy1 => intro w hSw; (try dsimp only at hSw); first | (go_simp; done) | (go_simp; with_reducible rfl)
          (try simp only [Act.put, List.setIfInBounds_toArray, List.set_cons_zero, List.set_cons_succ])
          refine wpAnyH_take (i := 2) (oi := { dst := some 29, op := Go.Op.load 24 (Go.Operand.tmp 1), type := 24, pos := _, after := #[], guard := none }) (v := ?v2) rfl (by kernel_rfl) (by kernel_rfl) (by kernel_rfl) (fun _ _ _ h => h) (Or.inl ⟨by kernel_rfl, ?hy2⟩) (by assumption) ?_
          case hy2 => intro w hSw; (try dsimp only at hSw); first | (go_simp; done) | (go_simp; with_reducible rfl)
          (try simp only [Act.put, List.setIfInBounds_toArray, List.set_cons_zero, List.set_cons_succ])
          refine wpAnyH_take (i := 3) (oi := { dst := some 30, op := Go.Op.move (Go.Operand.tmp 5), type := 3, pos := _, after := #[], guard := none }) (v := ?v3) rfl (by kernel_rfl) (by kernel_rfl) (by kernel_rfl) (fun _ _ _ h => h) (Or.inl ⟨by kernel_rfl, ?hy3⟩) (by assumption) ?_
          case hy3 => intro w hSw; (try dsimp only at hSw); first | (go_simp; done) | (go_simp; with_reducible rfl)
          (try simp only [Act.put, List.setIfInBounds_toArray, List.set_cons_zero, List.set_cons_succ])
          refine wpAnyH_take (i := 4) (oi := { dst := some 31, op := Go.Op.move (Go.Operand.tmp 4), type := 3, pos := _, after := #[], guard := none }) (v := ?v4) rfl (by kernel_rfl) (by kernel_rfl) (by kernel_rfl) (fun _ _ _ h => h) (Or.inl ⟨by kernel_rfl, ?hy4⟩) (by assumption) ?_
          case hy4 => intro w hSw; (try dsimp only at hSw); first | (go_simp; done) | (go_simp; with_reducible rfl)
          (try simp only [Act.put, List.setIfInBounds_toArray, List.set_cons_zero, List.set_cons_succ])
          refine wpAnyH_ready (rs := [1, 5]) (by kernel_rfl) (by simp) ?_
          refine (AllReadyH.cons (o := { dst := some 28, op := Go.Op.load 22 (Go.Operand.tmp 27), type := 22, pos := _, after := #[{ on := 0, ground := Go.Ground.data }], guard := none }) rfl (fun K hK => ?b5_1) (AllReadyH.cons (o := { dst := some 32, op := Go.Op.call { callee := Go.Callee.value (Go.Operand.func 17), args := #[Go.Operand.tmp 29, Go.Operand.tmp 30, Go.Operand.tmp 31], argTypes := #[24, 3, 3] }, type := 2, pos := _, after := #[{ on := 2, ground := Go.Ground.data }, { on := 3, ground := Go.Ground.data }, { on := 4, ground := Go.Ground.data }], guard := none }) rfl (fun K hK => ?b5_5) AllReadyH.nil))
          case b5_1 =>
            go_simp
            skip
            (try go_wp2_with fail)
            refine hK.out _ _ ?hS6 (fun hHeld => ?_)
            case hS6 => (try dsimp only); assumption
            clear hK K
            (try simp only [Act.put, List.setIfInBounds_toArray, List.set_cons_zero, List.set_cons_succ])
            refine wpAnyH_ready (rs := [5]) (by kernel_rfl) (by simp) ?_
            refine AllReadyH.cons (o := { dst := some 32, op := Go.Op.call { callee := Go.Callee.value (Go.Operand.func 17), args := #[Go.Operand.tmp 29, Go.Operand.tmp 30, Go.Operand.tmp 31], argTypes := #[24, 3, 3] }, type := 2, pos := _, after := #[{ on := 2, ground := Go.Ground.data }, { on := 3, ground := Go.Ground.data }, { on := 4, ground := Go.Ground.data }], guard := none }) rfl (fun K hK => ?_) AllReadyH.nil
            go_simp
            (go_at_call 17; refine (rat_any (R : Int) (C : Int) (r : Int) (c : Int) a cap zs _ (by omega) HZRd.out).mono ?_; rintro e w2 ⟨rfl, g2⟩; rw [HAt.out]; have hT2 := HT3.out.grow ((Grew.drew' (Grew.refl wr)).trans g2); have o22 := hT2.c2; have hO2 := hT2.lt; have HR2 := Lib.hid (own_grow HOW.out ((Grew.drew' (Grew.refl wr)).trans g2)); have HT2 := Lib.hid hT2; have HG2 := Lib.hid g2; clear hT2 g2)
            (try go_wp2_with fail)
            refine hK.out _ _ ?hS8 (fun hHeld => ?_)
            case hS8 => (try dsimp only); exact keep_b3 (Below.mono HG2.out (Nat.le_of_lt hOl)) (by assumption) (by show w.heap.size < O; omega) (by show w.heap.size < O; omega) (by show w.heap.size < O; omega)
            clear hK K
            (try simp only [Act.put, List.setIfInBounds_toArray, List.set_cons_zero, List.set_cons_succ])
            refine wpAnyH_ready (rs := [6]) (by kernel_rfl) (by simp) ?_
            refine AllReadyH.cons (o := { dst := some 33, op := Go.Op.buildSlice 22 1 #[(0, Go.Operand.tmp 32)], type := 22, pos := _, after := #[{ on := 5, ground := Go.Ground.data }], guard := none }) rfl (fun K hK => ?_) AllReadyH.nil
            go_simp
            skip
            (try go_wp2_with fail)
            refine hK.out _ _ ?hS10 (fun hHeld => ?_)
            case hS10 => (try dsimp only); exact keep_b3 ((Below.refl _ _).alloc (Nat.le_of_lt hO2) _) (by assumption) (by show w.heap.size < O; omega) (by show w.heap.size < O; omega) (by show w.heap.size < O; omega)
            clear hK K
            (try simp only [Act.put, List.setIfInBounds_toArray, List.set_cons_zero, List.set_cons_succ])
            refine wpAnyH_ready (rs := [7]) (by kernel_rfl) (by simp) ?_
            refine AllReadyH.cons (o := { dst := some 34, op := Go.Op.call { callee := Go.Callee.builtin Go.Builtin.append, args := #[Go.Operand.tmp 28, Go.Operand.tmp 33], argTypes := #[22, 22] }, type := 22, pos := _, after := #[{ on := 1, ground := Go.Ground.data }, { on := 6, ground := Go.Ground.data }, { on := 5, ground := Go.Ground.chain }], guard := none }) rfl (fun K hK => ?_) AllReadyH.nil
            (refine step_append_lies _ rfl _ _ 22 rfl O 2 i0 (.int .i64 0) 1 8 Try.underlying22 hi hz0 hz1 hz2 rfl (by decide) (.slice sa k sc) k _ rfl (HR2.out.alloc _) ⟨w2.heap.size, 0, none⟩ 1 1 [.int .i64 zv] rfl rfl (cell_one_new _ _ _) (by intro u hu; simp only [List.mem_singleton] at hu; subst hu; rfl) (by decide) (by have := HK.out; unfold maxLen; omega) (by have := HK.out; omega) (by simp; omega) _ rfl ?_; intro g' c' w3 hown hgrow hat hlt'; have hT3' := (HT2.out.alloc (.cells #[.int .i64 zv] 2)).grown hgrow (fun e => own_not HR2.out HT2.out e); have o23 := hT3'.c2; have f23 := hT3'.f2; have HT4 := Lib.hid hT3'; have HOW4 := Lib.hid hown; have HGW4 := Lib.hid hgrow; clear hown hgrow hat hlt' hT3')
            (try go_wp2_with fail)
            refine hK.out _ _ ?hS12 (fun hHeld => ?_)
            case hS12 => (try dsimp only); exact keep_b3 ((Below.refl _ _).grown HGW4.out (by simp; omega) (fun j hj => (World.ownsRow.lt HR2.out j hj).1)) (by assumption) (by show w.heap.size < O; omega) (by show w.heap.size < O; omega) (by show w.heap.size < O; omega)
            clear hK K
            (try simp only [Act.put, List.setIfInBounds_toArray, List.set_cons_zero, List.set_cons_succ])
            refine wpAnyH_take (i := 8) (oi := { dst := some 35, op := Go.Op.fieldAddr 24 (Go.Operand.tmp 3) 2, type := 0, pos := _, after := #[{ on := 0, ground := Go.Ground.phase }, { on := 1, ground := Go.Ground.phase }, { on := 2, ground := Go.Ground.phase }, { on := 3, ground := Go.Ground.phase }, { on := 4, ground := Go.Ground.phase }, { on := 5, ground := Go.Ground.phase }, { on := 6, ground := Go.Ground.phase }, { on := 7, ground := Go.Ground.phase }], guard := none }) (v := ?v13) rfl (by kernel_rfl) (by kernel_rfl) (by kernel_rfl) (fun _ _ _ h => h) (Or.inl ⟨by kernel_rfl, ?hy13⟩) (by assumption) ?_
            case hy13 => intro w hSw; (try dsimp only at hSw); first | (go_simp; done) | (go_simp; with_reducible rfl)
            (try simp only [Act.put, List.setIfInBounds_toArray, List.set_cons_zero, List.set_cons_succ])
            refine wpAnyH_ready (rs := [9]) (by kernel_rfl) (by simp) ?_
            refine AllReadyH.cons (o := { dst := none, op := Go.Op.store 22 (Go.Operand.tmp 35) (Go.Operand.tmp 34), type := 0, pos := _, after := #[{ on := 8, ground := Go.Ground.data }, { on := 7, ground := Go.Ground.data }, { on := 7, ground := Go.Ground.chain }, { on := 0, ground := Go.Ground.phase }, { on := 1, ground := Go.Ground.phase }, { on := 2, ground := Go.Ground.phase }, { on := 3, ground := Go.Ground.phase }, { on := 4, ground := Go.Ground.phase }, { on := 5, ground := Go.Ground.phase }, { on := 6, ground := Go.Ground.phase }, { on := 7, ground := Go.Ground.phase }], guard := none }) rfl (fun K hK => ?_) AllReadyH.nil
            go_simp
            skip
            (try go_wp2_with fail)
            refine hK.out _ _ ?hS15 (fun hHeld => ?_)
            case hS15 => (try dsimp only); exact keep_b3 ((Below.refl _ _).setCell (p := ⟨O, 2, none⟩) (Nat.le_refl _) _) (by assumption) (by show w.heap.size < O; omega) (by show w.heap.size < O; omega) (by show w.heap.size < O; omega)
            clear hK K
            (try simp only [Act.put, List.setIfInBounds_toArray, List.set_cons_zero, List.set_cons_succ])
            refine wpAnyH_done (by kernel_rfl) ?_ _
            obtain ⟨hbe, _, _, _⟩ := hHeld
            have HBE := Lib.hid hbe
            have HOE : Hid (Out (w3.setCell ⟨O, 2, none⟩ (.slice (some ⟨g', 0, none⟩) (k + 1) c')) O R C (c * R + (r + 1)) zs) := Lib.hid ⟨_, HT4.out.set2 _, by rw [HS.out, HKE.out, List.map_append]; exact own_set HOW4.out HT4.out⟩
            clear hbe
            go_wp2
            go_roundw
            case rel => exact ⟨r + 1, by omega, by go_num, HOE, Lib.hid (HTr.out.below HBE.out (by omega)), Lib.hid (HZr.out.below HBE.out (by omega)), Lib.hid (Grew.trans_below HGr.out (Below.mono HBE.out (by omega)) (Nat.le_refl _))⟩
            case measure => simp [intOf]; omega
          case b5_5 =>
            go_simp
            (go_at_call 17; refine (rat_any (R : Int) (C : Int) (r : Int) (c : Int) a cap zs _ (by omega) HZRd.out).mono ?_; rintro e w2 ⟨rfl, g2⟩; rw [HAt.out]; have hT2 := HT3.out.grow ((Grew.drew' (Grew.refl wr)).trans g2); have o22 := hT2.c2; have hO2 := hT2.lt; have HR2 := Lib.hid (own_grow HOW.out ((Grew.drew' (Grew.refl wr)).trans g2)); have HT2 := Lib.hid hT2; have HG2 := Lib.hid g2; clear hT2 g2)
            (try go_wp2_with fail)
            refine hK.out _ _ ?hS16 (fun hHeld => ?_)
            case hS16 => (try dsimp only); exact keep_b3 (Below.mono HG2.out (Nat.le_of_lt hOl)) (by assumption) (by show w.heap.size < O; omega) (by show w.heap.size < O; omega) (by show w.heap.size < O; omega)
            clear hK K
            (try simp only [Act.put, List.setIfInBounds_toArray, List.set_cons_zero, List.set_cons_succ])
            refine wpAnyH_ready (rs := [1, 6]) (by kernel_rfl) (by simp) ?_
            refine (AllReadyH.cons (o := { dst := some 28, op := Go.Op.load 22 (Go.Operand.tmp 27), type := 22, pos := _, after := #[{ on := 0, ground := Go.Ground.data }], guard := none }) rfl (fun K hK => ?b17_1) (AllReadyH.cons (o := { dst := some 33, op := Go.Op.buildSlice 22 1 #[(0, Go.Operand.tmp 32)], type := 22, pos := _, after := #[{ on := 5, ground := Go.Ground.data }], guard := none }) rfl (fun K hK => ?b17_6) AllReadyH.nil))
            case b17_1 =>
              go_simp
              skip
              (try go_wp2_with fail)
              refine hK.out _ _ ?hS18 (fun hHeld => ?_)
              case hS18 => (try dsimp only); assumption
              clear hK K
              (try simp only [Act.put, List.setIfInBounds_toArray, List.set_cons_zero, List.set_cons_succ])
              refine wpAnyH_ready (rs := [6]) (by kernel_rfl) (by simp) ?_
              refine AllReadyH.cons (o := { dst := some 33, op := Go.Op.buildSlice 22 1 #[(0, Go.Operand.tmp 32)], type := 22, pos := _, after := #[{ on := 5, ground := Go.Ground.data }], guard := none }) rfl (fun K hK => ?_) AllReadyH.nil
              go_simp
              skip
              (try go_wp2_with fail)
              refine hK.out _ _ ?hS20 (fun hHeld => ?_)
              case hS20 => (try dsimp only); exact keep_b3 ((Below.refl _ _).alloc (Nat.le_of_lt hO2) _) (by assumption) (by show w.heap.size < O; omega) (by show w.heap.size < O; omega) (by show w.heap.size < O; omega)
              clear hK K
              (try simp only [Act.put, List.setIfInBounds_toArray, List.set_cons_zero, List.set_cons_succ])
              refine wpAnyH_ready (rs := [7]) (by kernel_rfl) (by simp) ?_
              refine AllReadyH.cons (o := { dst := some 34, op := Go.Op.call { callee := Go.Callee.builtin Go.Builtin.append, args := #[Go.Operand.tmp 28, Go.Operand.tmp 33], argTypes := #[22, 22] }, type := 22, pos := _, after := #[{ on := 1, ground := Go.Ground.data }, { on := 6, ground := Go.Ground.data }, { on := 5, ground := Go.Ground.chain }], guard := none }) rfl (fun K hK => ?_) AllReadyH.nil
              (refine step_append_lies _ rfl _ _ 22 rfl O 2 i0 (.int .i64 0) 1 8 Try.underlying22 hi hz0 hz1 hz2 rfl (by decide) (.slice sa k sc) k _ rfl (HR2.out.alloc _) ⟨w2.heap.size, 0, none⟩ 1 1 [.int .i64 zv] rfl rfl (cell_one_new _ _ _) (by intro u hu; simp only [List.mem_singleton] at hu; subst hu; rfl) (by decide) (by have := HK.out; unfold maxLen; omega) (by have := HK.out; omega) (by simp; omega) _ rfl ?_; intro g' c' w3 hown hgrow hat hlt'; have hT3' := (HT2.out.alloc (.cells #[.int .i64 zv] 2)).grown hgrow (fun e => own_not HR2.out HT2.out e); have o23 := hT3'.c2; have f23 := hT3'.f2; have HT4 := Lib.hid hT3'; have HOW4 := Lib.hid hown; have HGW4 := Lib.hid hgrow; clear hown hgrow hat hlt' hT3')
              (try go_wp2_with fail)
              refine hK.out _ _ ?hS22 (fun hHeld => ?_)
              case hS22 => (try dsimp only); exact keep_b3 ((Below.refl _ _).grown HGW4.out (by simp; omega) (fun j hj => (World.ownsRow.lt HR2.out j hj).1)) (by assumption) (by show w.heap.size < O; omega) (by show w.heap.size < O; omega) (by show w.heap.size < O; omega)
              clear hK K
              (try simp only [Act.put, List.setIfInBounds_toArray, List.set_cons_zero, List.set_cons_succ])
              refine wpAnyH_take (i := 8) (oi := { dst := some 35, op := Go.Op.fieldAddr 24 (Go.Operand.tmp 3) 2, type := 0, pos := _, after := #[{ on := 0, ground := Go.Ground.phase }, { on := 1, ground := Go.Ground.phase }, { on := 2, ground := Go.Ground.phase }, { on := 3, ground := Go.Ground.phase }, { on := 4, ground := Go.Ground.phase }, { on := 5, ground := Go.Ground.phase }, { on := 6, ground := Go.Ground.phase }, { on := 7, ground := Go.Ground.phase }], guard := none }) (v := ?v23) rfl (by kernel_rfl) (by kernel_rfl) (by kernel_rfl) (fun _ _ _ h => h) (Or.inl ⟨by kernel_rfl, ?hy23⟩) (by assumption) ?_
              case hy23 => intro w hSw; (try dsimp only at hSw); first | (go_simp; done) | (go_simp; with_reducible rfl)
              (try simp only [Act.put, List.setIfInBounds_toArray, List.set_cons_zero, List.set_cons_succ])
              refine wpAnyH_ready (rs := [9]) (by kernel_rfl) (by simp) ?_
              refine AllReadyH.cons (o := { dst := none, op := Go.Op.store 22 (Go.Operand.tmp 35) (Go.Operand.tmp 34), type := 0, pos := _, after := #[{ on := 8, ground := Go.Ground.data }, { on := 7, ground := Go.Ground.data }, { on := 7, ground := Go.Ground.chain }, { on := 0, ground := Go.Ground.phase }, { on := 1, ground := Go.Ground.phase }, { on := 2, ground := Go.Ground.phase }, { on := 3, ground := Go.Ground.phase }, { on := 4, ground := Go.Ground.phase }, { on := 5, ground := Go.Ground.phase }, { on := 6, ground := Go.Ground.phase }, { on := 7, ground := Go.Ground.phase }], guard := none }) rfl (fun K hK => ?_) AllReadyH.nil
              go_simp
              skip
              (try go_wp2_with fail)
              refine hK.out _ _ ?hS25 (fun hHeld => ?_)
              case hS25 => (try dsimp only); exact keep_b3 ((Below.refl _ _).setCell (p := ⟨O, 2, none⟩) (Nat.le_refl _) _) (by assumption) (by show w.heap.size < O; omega) (by show w.heap.size < O; omega) (by show w.heap.size < O; omega)
              clear hK K
              (try simp only [Act.put, List.setIfInBounds_toArray, List.set_cons_zero, List.set_cons_succ])
              refine wpAnyH_done (by kernel_rfl) ?_ _
              obtain ⟨hbe, _, _, _⟩ := hHeld
              have HBE := Lib.hid hbe
              have HOE : Hid (Out (w3.setCell ⟨O, 2, none⟩ (.slice (some ⟨g', 0, none⟩) (k + 1) c')) O R C (c * R + (r + 1)) zs) := Lib.hid ⟨_, HT4.out.set2 _, by rw [HS.out, HKE.out, List.map_append]; exact own_set HOW4.out HT4.out⟩
              clear hbe
              go_wp2
              go_roundw
              case rel => exact ⟨r + 1, by omega, by go_num, HOE, Lib.hid (HTr.out.below HBE.out (by omega)), Lib.hid (HZr.out.below HBE.out (by omega)), Lib.hid (Grew.trans_below HGr.out (Below.mono HBE.out (by omega)) (Nat.le_refl _))⟩
              case measure => simp [intOf]; omega
            case b17_6 =>
              go_simp
              skip
              (try go_wp2_with fail)
              refine hK.out _ _ ?hS26 (fun hHeld => ?_)
              case hS26 => (try dsimp only); exact keep_b3 ((Below.refl _ _).alloc (Nat.le_of_lt hO2) _) (by assumption) (by show w.heap.size < O; omega) (by show w.heap.size < O; omega) (by show w.heap.size < O; omega)
              clear hK K
              (try simp only [Act.put, List.setIfInBounds_toArray, List.set_cons_zero, List.set_cons_succ])
              refine wpAnyH_ready (rs := [1]) (by kernel_rfl) (by simp) ?_
              refine AllReadyH.cons (o := { dst := some 28, op := Go.Op.load 22 (Go.Operand.tmp 27), type := 22, pos := _, after := #[{ on := 0, ground := Go.Ground.data }], guard := none }) rfl (fun K hK => ?_) AllReadyH.nil
              go_simp
              skip
              (try go_wp2_with fail)
              refine hK.out _ _ ?hS28 (fun hHeld => ?_)
              case hS28 => (try dsimp only); assumption
              clear hK K
              (try simp only [Act.put, List.setIfInBounds_toArray, List.set_cons_zero, List.set_cons_succ])
              refine wpAnyH_ready (rs := [7]) (by kernel_rfl) (by simp) ?_
              refine AllReadyH.cons (o := { dst := some 34, op := Go.Op.call { callee := Go.Callee.builtin Go.Builtin.append, args := #[Go.Operand.tmp 28, Go.Operand.tmp 33], argTypes := #[22, 22] }, type := 22, pos := _, after := #[{ on := 1, ground := Go.Ground.data }, { on := 6, ground := Go.Ground.data }, { on := 5, ground := Go.Ground.chain }], guard := none }) rfl (fun K hK => ?_) AllReadyH.nil
              (refine step_append_lies _ rfl _ _ 22 rfl O 2 i0 (.int .i64 0) 1 8 Try.underlying22 hi hz0 hz1 hz2 rfl (by decide) (.slice sa k sc) k _ rfl (HR2.out.alloc _) ⟨w2.heap.size, 0, none⟩ 1 1 [.int .i64 zv] rfl rfl (cell_one_new _ _ _) (by intro u hu; simp only [List.mem_singleton] at hu; subst hu; rfl) (by decide) (by have := HK.out; unfold maxLen; omega) (by have := HK.out; omega) (by simp; omega) _ rfl ?_; intro g' c' w3 hown hgrow hat hlt'; have hT3' := (HT2.out.alloc (.cells #[.int .i64 zv] 2)).grown hgrow (fun e => own_not HR2.out HT2.out e); have o23 := hT3'.c2; have f23 := hT3'.f2; have HT4 := Lib.hid hT3'; have HOW4 := Lib.hid hown; have HGW4 := Lib.hid hgrow; clear hown hgrow hat hlt' hT3')
              (try go_wp2_with fail)
              refine hK.out _ _ ?hS30 (fun hHeld => ?_)
              case hS30 => (try dsimp only); exact keep_b3 ((Below.refl _ _).grown HGW4.out (by simp; omega) (fun j hj => (World.ownsRow.lt HR2.out j hj).1)) (by assumption) (by show w.heap.size < O; omega) (by show w.heap.size < O; omega) (by show w.heap.size < O; omega)
              clear hK K
              (try simp only [Act.put, List.setIfInBounds_toArray, List.set_cons_zero, List.set_cons_succ])
              refine wpAnyH_take (i := 8) (oi := { dst := some 35, op := Go.Op.fieldAddr 24 (Go.Operand.tmp 3) 2, type := 0, pos := _, after := #[{ on := 0, ground := Go.Ground.phase }, { on := 1, ground := Go.Ground.phase }, { on := 2, ground := Go.Ground.phase }, { on := 3, ground := Go.Ground.phase }, { on := 4, ground := Go.Ground.phase }, { on := 5, ground := Go.Ground.phase }, { on := 6, ground := Go.Ground.phase }, { on := 7, ground := Go.Ground.phase }], guard := none }) (v := ?v31) rfl (by kernel_rfl) (by kernel_rfl) (by kernel_rfl) (fun _ _ _ h => h) (Or.inl ⟨by kernel_rfl, ?hy31⟩) (by assumption) ?_
              case hy31 => intro w hSw; (try dsimp only at hSw); first | (go_simp; done) | (go_simp; with_reducible rfl)
              (try simp only [Act.put, List.setIfInBounds_toArray, List.set_cons_zero, List.set_cons_succ])
              refine wpAnyH_ready (rs := [9]) (by kernel_rfl) (by simp) ?_
              refine AllReadyH.cons (o := { dst := none, op := Go.Op.store 22 (Go.Operand.tmp 35) (Go.Operand.tmp 34), type := 0, pos := _, after := #[{ on := 8, ground := Go.Ground.data }, { on := 7, ground := Go.Ground.data }, { on := 7, ground := Go.Ground.chain }, { on := 0, ground := Go.Ground.phase }, { on := 1, ground := Go.Ground.phase }, { on := 2, ground := Go.Ground.phase }, { on := 3, ground := Go.Ground.phase }, { on := 4, ground := Go.Ground.phase }, { on := 5, ground := Go.Ground.phase }, { on := 6, ground := Go.Ground.phase }, { on := 7, ground := Go.Ground.phase }], guard := none }) rfl (fun K hK => ?_) AllReadyH.nil
              go_simp
              skip
              (try go_wp2_with fail)
              refine hK.out _ _ ?hS33 (fun hHeld => ?_)
              case hS33 => (try dsimp only); exact keep_b3 ((Below.refl _ _).setCell (p := ⟨O, 2, none⟩) (Nat.le_refl _) _) (by assumption) (by show w.heap.size < O; omega) (by show w.heap.size < O; omega) (by show w.heap.size < O; omega)
              clear hK K
              (try simp only [Act.put, List.setIfInBounds_toArray, List.set_cons_zero, List.set_cons_succ])
              refine wpAnyH_done (by kernel_rfl) ?_ _
              obtain ⟨hbe, _, _, _⟩ := hHeld
              have HBE := Lib.hid hbe
              have HOE : Hid (Out (w3.setCell ⟨O, 2, none⟩ (.slice (some ⟨g', 0, none⟩) (k + 1) c')) O R C (c * R + (r + 1)) zs) := Lib.hid ⟨_, HT4.out.set2 _, by rw [HS.out, HKE.out, List.map_append]; exact own_set HOW4.out HT4.out⟩
              clear hbe
              go_wp2
              go_roundw
              case rel => exact ⟨r + 1, by omega, by go_num, HOE, Lib.hid (HTr.out.below HBE.out (by omega)), Lib.hid (HZr.out.below HBE.out (by omega)), Lib.hid (Grew.trans_below HGr.out (Below.mono HBE.out (by omega)) (Nat.le_refl _))⟩
              case measure => simp [intOf]; omega
        · obtain rfl : r = R := by omega
          have HOe : Hid (Out wr O r C ((c + 1) * r) zs) := Lib.hid (by rw [Nat.add_mul, Nat.one_mul]; exact HOr.out)
          go_wp2
          go_roundw
          case rel => exact ⟨c + 1, by omega, by go_num, HOe, HTr, HZr, HGr⟩
          case measure => simp [intOf]; omega
    · obtain rfl : c = C := by omega
      obtain ⟨v, hT3, hown⟩ := HOc.out
      obtain ⟨sa, sc, rfl, hb⟩ := own_slice hown
      have hbu : Buf O wr sa (c * R) sc (turnL zs R c) := hb
      have o0 := hT3.c0
      have o1 := hT3.c1
      have o2 := hT3.c2
      have t0 := HZc.out.c0
      have t1 := HZc.out.c1
      have t2 := HZc.out.c2
      have f0 := HZc.out.f0
      have f1 := HZc.out.f1
      have f2 := HZc.out.f2
      have hk : (c * R : Nat) ≤ 1099511627776 := HB.out
      have HBE := Lib.hid (hbu.aside (g := w.heap.size + 1) (by omega) (.int .i64 c) (.int .i64 R) (.slice sa (c * R) sc))
      have HTE := Lib.hid (HZc.out.all (.int .i64 c) (.int .i64 R) (.slice sa (c * R) sc))
      have HGE := Lib.hid (Grew.three (g := w.heap.size + 1) HGc.out (by omega) (.int .i64 c) (.int .i64 R) (.slice sa (c * R) sc))
      clear hb hbu hown hT3 c2
      go_wp2
      generalize ((wr.setCell ⟨w.heap.size + 1, 0, none⟩ (.int .i64 c)).setCell ⟨w.heap.size + 1, 1, none⟩ (.int .i64 R)).setCell ⟨w.heap.size + 1, 2, none⟩ (.slice sa (c * R) sc) = WE at *
      have d0 := HTE.out.c0
      have d1 := HTE.out.c1
      have d2 := HTE.out.c2
      exact bodyPost_ret (v := .agg #[.int .i64 c, .int .i64 R, .slice sa (c * R) sc]) (by simp [results, Try.results26, go_sem, d0, d1, d2]) rfl ⟨⟨_, _, rfl, HBE.out.mono (by omega)⟩, HGE.out⟩
end Go.Proofs.Ytklledigcabllaa
