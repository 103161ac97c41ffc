/- Range of package data: the least and the greatest number of all examples, or none. Condition: at most 100 examples, each list of at most 1000 numbers. -/
import Derived.Test.YthdkanmpapioeaaDoorEt
import Derived.RangeFuncBox
import Derived.Deep.AppendLies
import Derived.OrdersHeld
import Derived.Deep.RegionHeld
namespace Go.Proofs.YthdkanmpapioeaaDoor
open Go.RowKit Go.Shelf
attribute [local go_sem] Oper.semAt_some

/-- The least and the greatest number so far, as the walk spells them. -/
def mnV (lo x : Int) : Int := min lo x
def mxV (hi x : Int) : Int := max hi x
def loK (zs : List Int) : Nat → Int
  | 0 => 0
  | 1 => el zs 0
  | k + 2 => mnV (loK zs (k + 1)) (el zs (k + 1))
def hiK (zs : List Int) : Nat → Int
  | 0 => 0
  | 1 => el zs 0
  | k + 2 => mxV (hiK zs (k + 1)) (el zs (k + 1))

theorem ob_ne {a b : Nat} (h : a ≠ b) : some a ≠ some b := fun e => h (Option.some.inj e)
theorem Below.drew1' (B : Nat) (w : World) : Below B w w.drew := ⟨rfl, rfl, rfl, Nat.le_refl _, fun _ _ => rfl⟩
/-- The three cells between the last stores. -/
def Keep6 (V W' : World) (L D : Nat) (a b c : Value) : Prop := Boxed W' L 2 a ∧ Boxed W' (L + 1) 2 b ∧ Boxed W' (L + 1 + 1) 4 c ∧ W'.heap[D]? = some (.deferred (some [])) ∧ Below L V W' ∧ W'.cell? ⟨L, 0, none⟩ = some a ∧ W'.frozen? ⟨L, 0, none⟩ = false ∧ W'.cell? ⟨L + 1, 0, none⟩ = some b ∧ W'.frozen? ⟨L + 1, 0, none⟩ = false ∧ W'.cell? ⟨L + 1 + 1, 0, none⟩ = some c ∧ W'.frozen? ⟨L + 1 + 1, 0, none⟩ = false
theorem keep6 {V W' : World} {L D : Nat} {a b c : Value} (h1 : Boxed W' L 2 a) (h2 : Boxed W' (L + 1) 2 b) (h3 : Boxed W' (L + 1 + 1) 4 c) (hK : W'.heap[D]? = some (.deferred (some []))) (hB : Below L V W') : Keep6 V W' L D a b c := ⟨h1, h2, h3, hK, hB, h1.cell, h1.frozen, h2.cell, h2.frozen, h3.cell, h3.frozen⟩
theorem keep6_set1 {V W' : World} {L D : Nat} {a b c : Value} (h1 : Boxed W' L 2 a) (h2 : Boxed W' (L + 1) 2 b) (h3 : Boxed W' (L + 1 + 1) 4 c) (hK : W'.heap[D]? = some (.deferred (some []))) (hB : Below L V W') (_hD : L + 1 + 1 + 1 < D) : Keep6 V (W'.setCell ⟨L, 0, none⟩ a) L D a b c :=
  keep6 (h1.set a) (h2.kept (grownBy_setCell' W' L a) (ob_ne (by omega))) (h3.kept (grownBy_setCell' W' L a) (ob_ne (by omega))) ((KeepsOthers.setCell W' ⟨L, 0, none⟩ a).same D _ hK rfl) (hB.setCell (p := ⟨L, 0, none⟩) (Nat.le_refl _) _)
theorem keep6_set2 {V W' : World} {L D : Nat} {a b c : Value} (h1 : Boxed W' L 2 a) (h2 : Boxed W' (L + 1) 2 b) (h3 : Boxed W' (L + 1 + 1) 4 c) (hK : W'.heap[D]? = some (.deferred (some []))) (hB : Below L V W') (_hD : L + 1 + 1 + 1 < D) : Keep6 V (W'.setCell ⟨L + 1, 0, none⟩ b) L D a b c :=
  keep6 (h1.kept (grownBy_setCell' W' (L + 1) b) (ob_ne (by omega))) (h2.set b) (h3.kept (grownBy_setCell' W' (L + 1) b) (ob_ne (by omega))) ((KeepsOthers.setCell W' ⟨L + 1, 0, none⟩ b).same D _ hK rfl) (hB.setCell (p := ⟨L + 1, 0, none⟩) (by show L ≤ L + 1; omega) _)
theorem keep6_set3 {V W' : World} {L D : Nat} {a b c : Value} (h1 : Boxed W' L 2 a) (h2 : Boxed W' (L + 1) 2 b) (h3 : Boxed W' (L + 1 + 1) 4 c) (hK : W'.heap[D]? = some (.deferred (some []))) (hB : Below L V W') (_hD : L + 1 + 1 + 1 < D) : Keep6 V (W'.setCell ⟨L + 1 + 1, 0, none⟩ c) L D a b c :=
  keep6 (h1.kept (grownBy_setCell' W' (L + 1 + 1) c) (ob_ne (by omega))) (h2.kept (grownBy_setCell' W' (L + 1 + 1) c) (ob_ne (by omega))) (h3.set c) ((KeepsOthers.setCell W' ⟨L + 1 + 1, 0, none⟩ c).same D _ hK rfl) (hB.setCell (p := ⟨L + 1 + 1, 0, none⟩) (by show L ≤ L + 1 + 1; omega) _)
set_option linter.unusedSimpArgs false in
set_option maxRecDepth 100000 in
set_option maxHeartbeats 4000000 in
theorem dRange_any {n : Nat} (a : Option Addr) (c : Nat) (es : List Ex) (w : World) (hn : es.length = n) (hs : SmE es) (hr : RdE w.heap.size w a es) :
    Calls Tryd.prog 22 #[.slice a n c] w fun e w' => e = .returned (.tuple #[.int .i64 (loK (allN es) (allN es).length), .int .i64 (hiK (allN es) (allN es).length), .bool (decide (0 < (allN es).length))]) ∧ Grew w w' := by
  have hg : Grew w ((((w.alloc (.cells #[.int .i64 0] 2)).alloc (.cells #[.int .i64 0] 2)).alloc (.cells #[.bool false] 4)).alloc (.cells #[.slice a n c] 26)) := ((((Grew.refl w).alloc _).alloc _).alloc _).alloc _
  have b1 := (((Boxed.new w 2 (.int .i64 0)).alloc (.cells #[.int .i64 0] 2)).alloc (.cells #[.bool false] 4)).alloc (.cells #[.slice a n c] 26)
  have b2 := ((Boxed.new (w.alloc (.cells #[.int .i64 0] 2)) 2 (.int .i64 0)).alloc (.cells #[.bool false] 4)).alloc (.cells #[.slice a n c] 26)
  have b3 := (Boxed.new ((w.alloc (.cells #[.int .i64 0] 2)).alloc (.cells #[.int .i64 0] 2)) 4 (.bool false)).alloc (.cells #[.slice a n c] 26)
  have b4 := Boxed.new (((w.alloc (.cells #[.int .i64 0] 2)).alloc (.cells #[.int .i64 0] 2)).alloc (.cells #[.bool false] 4)) 26 (.slice a n c)
  rw [World.size_alloc] at b2
  rw [World.size_alloc, World.size_alloc] at b3
  rw [World.size_alloc, World.size_alloc, World.size_alloc] at b4
  have hsz : ((((w.alloc (.cells #[.int .i64 0] 2)).alloc (.cells #[.int .i64 0] 2)).alloc (.cells #[.bool false] 4)).alloc (.cells #[.slice a n c] 26)).heap.size = w.heap.size + 1 + 1 + 1 + 1 := by simp
  have HG := Lib.hid hg
  have B1 := Lib.hid b1
  have B2 := Lib.hid b2
  have B3 := Lib.hid b3
  have B4 := Lib.hid b4
  have HSZ := Lib.hid hsz
  have HR := Lib.hid (hr.below hg)
  have HN := Lib.hid hn
  have HS := Lib.hid hs
  clear hg b1 b2 b3 b4 hsz hr hn hs
  refine (callsIn_wide (n := 9)).1 ?_
  refine callsIn_of_wp_marks Tryd.func22 rfl trivial ?_ rfl
  simp only [Tryd.ntmps22, List.size_toArray, List.length_cons, List.length_nil, Nat.reduceAdd, Nat.reduceSub, Array.replicate_succ, Array.replicate_zero, List.push_toArray, List.append_toArray, List.nil_append, List.cons_append]
  refine wpIn_wide.2 ?_
  go_wp2_with fail
  refine (numbers_any a n c _).mono ?_
  rintro e w1 ⟨rfl, rfl⟩
  rw [World.size_alloc, World.size_alloc, World.size_alloc]
  generalize (((w.alloc (.cells #[.int .i64 0] 2)).alloc (.cells #[.int .i64 0] 2)).alloc (.cells #[.bool false] 4)).alloc (.cells #[.slice a n c] 26) = W0 at *
  obtain ⟨L, hL⟩ : ∃ L, w.heap.size = L := ⟨_, rfl⟩
  have HL := Lib.hid hL
  rw [hL] at B1 B2 B3 B4 HSZ HR ⊢
  clear hL
  obtain ⟨N, hN⟩ : ∃ N, (allN es).length = N := ⟨_, rfl⟩
  have HNN := Lib.hid hN
  clear hN
  have hys := numbers_yields (a := a) (cap := c) 8 (by omega) (B := L + 1 + 1 + 1) (D := L) HN.out HS.out W0 (by rw [HSZ.out]; omega) (by rw [HSZ.out]; omega) B4.out HR.out
  rw [HNN.out] at hys
  have HYS := Lib.hid hys
  clear hys
  go_wp2_with fail
  refine (wpIn_wide (n := 9)).1 (range_own (F := Fence.wide) (n := 9) rfl (by omega) (gf := 56) (lb := #[.pointer (some ⟨L + 1 + 1 + 1, 0, none⟩)]) rfl trivial (enters_of Tryd.func56 (by kernel_rfl) rfl)
    (enc := fun k => #[.int .i64 (el (allN es) k)]) (N := N) (Kp := Below L) (fun x y z h k => h.trans k) (fun x y h => h.mono (by rw [HSZ.out]; omega))
    (Ow := fun V V' => V.grownBy V' none) (fun V V' h b hb hlt => h.block b hlt (fun e => by cases e))
    HYS.out (fun _ => rfl)
    (fun k W => k ≤ N ∧ Hid (Boxed W L 2 (.int .i64 (loK (allN es) k))) ∧ Hid (Boxed W (L + 1) 2 (.int .i64 (hiK (allN es) k))) ∧ Hid (Boxed W (L + 1 + 1) 4 (.bool (decide (0 < k)))) ∧ Hid (Grew w W) ∧ L + 1 + 1 + 1 < W.heap.size)
    (fun _ _ => False) ?hI ?hIx ?hOI ⟨Nat.zero_le _, B1, B2, B3, HG, by rw [HSZ.out]; omega⟩ ?round ?done ?stop)
  case hI =>
    rintro k W W' ⟨h1, h2, h3, h4, h5, h6⟩ g kc
    have hs := g.size
    rw [HSZ.out] at g
    exact ⟨h1, Lib.hid ((g.block _ (by omega)).trans h2.out), Lib.hid ((g.block _ (by omega)).trans h3.out), Lib.hid ((g.block _ (by omega)).trans h4.out), Lib.hid (h5.out.trans_below (g.mono (by rw [HL.out]; omega)) (Nat.le_refl _)), Nat.lt_of_lt_of_le h6 hs⟩
  case hIx => exact fun _ _ _ h _ _ => h
  case hOI =>
    rintro k W W' ⟨h1, h2, h3, h4, h5, h6⟩ g
    exact ⟨h1, Lib.hid (h2.out.kept g (fun e => by cases e)), Lib.hid (h3.out.kept g (fun e => by cases e)), Lib.hid (h4.out.kept g (fun e => by cases e)), Lib.hid (h5.out.trans (grew_none g)), Nat.lt_of_lt_of_le h6 g.size⟩
  case round =>
    rintro l k V hi hk
    clear hi HG B1 B2 B3 B4 HYS HR
    gi_wp2
    refine ⟨trivial, ?_⟩
    rintro V2 ⟨hk2, H1, H2, H3, HG, hs2⟩
    clear hk2
    have r3 := H3.out.cell
    by_cases h0 : k = 0
    · subst h0
      have HLO : Hid (loK (allN es) 1 = el (allN es) 0) := Lib.hid rfl
      have HHI : Hid (hiK (allN es) 1 = el (allN es) 0) := Lib.hid rfl
      generalize el (allN es) 0 = x at *
      have r3 : V2.cell? ⟨L + 1 + 1, 0, none⟩ = some (.bool false) := r3
      have r1 := H1.out.cell
      have r2 := H2.out.cell
      have f1 := H1.out.frozen
      have f2 := H2.out.frozen
      have f3 := H3.out.frozen
      have v1 := H1.out.set (.int .i64 x)
      have v2 := H2.out.kept (grownBy_setCell' V2 L (.int .i64 x)) (ob_ne (by omega))
      have v3 := H3.out.kept (grownBy_setCell' V2 L (.int .i64 x)) (ob_ne (by omega))
      have y2 := v2.set (.int .i64 x)
      have y1 := v1.kept (grownBy_setCell' _ (L + 1) (.int .i64 x)) (ob_ne (by omega))
      have y3 := v3.kept (grownBy_setCell' _ (L + 1) (.int .i64 x)) (ob_ne (by omega))
      have a1 := v2.cell
      have a2 := v2.frozen
      have a3 := y3.cell
      have a4 := y3.frozen
      have X1 := Lib.hid (y1.kept (grownBy_setCell' _ (L + 1 + 1) (.bool true)) (ob_ne (by omega)))
      have X2 := Lib.hid (y2.kept (grownBy_setCell' _ (L + 1 + 1) (.bool true)) (ob_ne (by omega)))
      have X3 := Lib.hid (y3.set (.bool true))
      have HB0 : Hid (Below L V2 (((V2.setCell ⟨L, 0, none⟩ (.int .i64 x)).setCell ⟨L + 1, 0, none⟩ (.int .i64 x)).setCell ⟨L + 1 + 1, 0, none⟩ (.bool true))) := Lib.hid ((((Below.refl L V2).setCell (p := ⟨L, 0, none⟩) (Nat.le_refl _) _).setCell (p := ⟨L + 1, 0, none⟩) (by show L ≤ L + 1; omega) _).setCell (p := ⟨L + 1 + 1, 0, none⟩) (by show L ≤ L + 1 + 1; omega) _)
      have HK0 : Hid (KeepsOthers V2 (((V2.setCell ⟨L, 0, none⟩ (.int .i64 x)).setCell ⟨L + 1, 0, none⟩ (.int .i64 x)).setCell ⟨L + 1 + 1, 0, none⟩ (.bool true))) := Lib.hid (((KeepsOthers.setCell _ _ _).trans (KeepsOthers.setCell _ _ _)).trans (KeepsOthers.setCell _ _ _))
      clear v1 v2 v3 y1 y2 y3
      gi_wp2
      generalize ((V2.setCell ⟨L, 0, none⟩ (.int .i64 x)).setCell ⟨L + 1, 0, none⟩ (.int .i64 x)).setCell ⟨L + 1 + 1, 0, none⟩ (.bool true) = V3 at *
      clear r1 r2 r3 f1 f2 f3 a1 a2 a3 a4
      have k1 : Boxed V3 L 2 (.int .i64 x) := X1.out
      have k2 : Boxed V3 (L + 1) 2 (.int .i64 x) := X2.out
      have k3 : Boxed V3 (L + 1 + 1) 4 (.bool true) := X3.out
      have q1 := k1.cell
      have q2 := k1.frozen
      have q3 := k2.cell
      have q4 := k2.frozen
      have m1 := k1.set (.int .i64 x)
      have m2 := k2.kept (grownBy_setCell' V3 L (.int .i64 x)) (ob_ne (by omega))
      have q5 := m2.cell
      have q6 := m2.frozen
      have HA := Lib.hid (m1.kept (grownBy_setCell' _ (L + 1) (.int .i64 x)) (ob_ne (by omega)))
      have HBB := Lib.hid (m2.set (.int .i64 x))
      have HCC := Lib.hid ((k3.kept (grownBy_setCell' V3 L (.int .i64 x)) (ob_ne (by omega))).kept (grownBy_setCell' _ (L + 1) (.int .i64 x)) (ob_ne (by omega)))
      have HBE : Hid (Below L V2 ((V3.setCell ⟨L, 0, none⟩ (.int .i64 x)).setCell ⟨L + 1, 0, none⟩ (.int .i64 x)).drew) := Lib.hid ((Below.setCell (p := ⟨L + 1, 0, none⟩) (Below.setCell (p := ⟨L, 0, none⟩) (HB0.out) (Nat.le_refl _) _) (by show L ≤ L + 1; omega) _).trans (Below.drew1' L _))
      have HKO : Hid (KeepsOthers V2 ((V3.setCell ⟨L, 0, none⟩ (.int .i64 x)).setCell ⟨L + 1, 0, none⟩ (.int .i64 x)).drew) := Lib.hid (((HK0.out.trans (KeepsOthers.setCell _ _ _)).trans (KeepsOthers.setCell _ _ _)).trans (KeepsOthers.drew _))
      clear k1 k2 k3 m1 m2
      refine wp_round_held_drew (S := (fun _ => True)) (by kernel_rfl) (by kernel_rfl) (fun h => by obtain ⟨_, _, h⟩ := h; exact h) trivial (fun hHeld => ?_)
      refine wpAnyH_take (i := 1) (oi := { dst := some 14, op := Go.Op.move (Go.Operand.tmp 5), type := 2, pos := _, after := #[], guard := none }) (v := ?v1) rfl (by kernel_rfl) (by kernel_rfl) (by kernel_rfl) (fun _ _ _ h => h) (Or.inl ⟨by kernel_rfl, ?hy1⟩) (by assumption) ?_
      case hy1 => intro w hSw; (try dsimp only at hSw); first | (go_simp; done) | (go_simp; with_reducible rfl)
      (try simp only [Act.put, List.setIfInBounds_toArray, List.set_cons_zero, List.set_cons_succ])
      refine wpAnyH_take (i := 4) (oi := { dst := some 17, op := Go.Op.move (Go.Operand.tmp 5), type := 2, pos := _, after := #[], guard := none }) (v := ?v2) rfl (by kernel_rfl) (by kernel_rfl) (by kernel_rfl) (fun _ _ _ h => h) (Or.inl ⟨by kernel_rfl, ?hy2⟩) (by assumption) ?_
      case hy2 => intro w hSw; (try dsimp only at hSw); first | (go_simp; done) | (go_simp; with_reducible rfl)
      (try simp only [Act.put, List.setIfInBounds_toArray, List.set_cons_zero, List.set_cons_succ])
      refine wpAnyH_ready (rs := [0, 3]) (by kernel_rfl) (by simp) ?_
      refine (AllReadyH.cons (o := { dst := some 13, op := Go.Op.load 2 (Go.Operand.tmp 2), type := 2, pos := _, after := #[], guard := none }) rfl (fun K hK => ?b3_0) (AllReadyH.cons (o := { dst := some 16, op := Go.Op.load 2 (Go.Operand.tmp 3), type := 2, pos := _, after := #[], guard := none }) rfl (fun K hK => ?b3_3) AllReadyH.nil))
      case b3_0 =>
        go_simp
        skip
        (try go_wp2_with fail)
        refine hK.out _ _ ?hS4 (fun hHeld => ?_)
        case hS4 => (try dsimp only); (try trivial)
        clear hK K
        (try simp only [Act.put, List.setIfInBounds_toArray, List.set_cons_zero, List.set_cons_succ])
        refine wpAnyH_take (i := 2) (oi := { dst := some 15, op := Go.Op.call { callee := Go.Callee.builtin Go.Builtin.min, args := #[Go.Operand.tmp 13, Go.Operand.tmp 14], argTypes := #[2, 2] }, type := 2, pos := _, after := #[{ on := 0, ground := Go.Ground.data }, { on := 1, ground := Go.Ground.data }], guard := none }) (v := ?v5) rfl (by kernel_rfl) (by kernel_rfl) (by kernel_rfl) (fun _ _ _ h => h) (Or.inl ⟨by kernel_rfl, ?hy5⟩) (by assumption) ?_
        case hy5 => intro w hSw; (try dsimp only at hSw); first | (go_simp; done) | (go_simp; with_reducible rfl)
        (try simp only [Act.put, List.setIfInBounds_toArray, List.set_cons_zero, List.set_cons_succ])
        refine wpAnyH_ready (rs := [3, 6]) (by kernel_rfl) (by simp) ?_
        refine (AllReadyH.cons (o := { dst := some 16, op := Go.Op.load 2 (Go.Operand.tmp 3), type := 2, pos := _, after := #[], guard := none }) rfl (fun K hK => ?b6_3) (AllReadyH.cons (o := { dst := none, op := Go.Op.store 2 (Go.Operand.tmp 2) (Go.Operand.tmp 15), type := 0, pos := _, after := #[{ on := 2, ground := Go.Ground.data }, { on := 0, ground := Go.Ground.phase }, { on := 1, ground := Go.Ground.phase }, { on := 2, ground := Go.Ground.phase }, { on := 3, ground := Go.Ground.textOnly Go.Departure.inlinedCapture }, { on := 4, ground := Go.Ground.textOnly Go.Departure.lateStores }, { on := 5, ground := Go.Ground.textOnly Go.Departure.lateStoresUnsure }], guard := none }) rfl (fun K hK => ?b6_6) AllReadyH.nil))
        case b6_3 =>
          go_simp
          skip
          (try go_wp2_with fail)
          refine hK.out _ _ ?hS7 (fun hHeld => ?_)
          case hS7 => (try dsimp only); (try trivial)
          clear hK K
          (try simp only [Act.put, List.setIfInBounds_toArray, List.set_cons_zero, List.set_cons_succ])
          refine wpAnyH_take (i := 5) (oi := { dst := some 18, op := Go.Op.call { callee := Go.Callee.builtin Go.Builtin.max, args := #[Go.Operand.tmp 16, Go.Operand.tmp 17], argTypes := #[2, 2] }, type := 2, pos := _, after := #[{ on := 3, ground := Go.Ground.data }, { on := 4, ground := Go.Ground.data }], guard := none }) (v := ?v8) rfl (by kernel_rfl) (by kernel_rfl) (by kernel_rfl) (fun _ _ _ h => h) (Or.inl ⟨by kernel_rfl, ?hy8⟩) (by assumption) ?_
          case hy8 => intro w hSw; (try dsimp only at hSw); first | (go_simp; done) | (go_simp; with_reducible rfl)
          (try simp only [Act.put, List.setIfInBounds_toArray, List.set_cons_zero, List.set_cons_succ])
          refine wpAnyH_ready (rs := [6]) (by kernel_rfl) (by simp) ?_
          refine AllReadyH.cons (o := { dst := none, op := Go.Op.store 2 (Go.Operand.tmp 2) (Go.Operand.tmp 15), type := 0, pos := _, after := #[{ on := 2, ground := Go.Ground.data }, { on := 0, ground := Go.Ground.phase }, { on := 1, ground := Go.Ground.phase }, { on := 2, ground := Go.Ground.phase }, { on := 3, ground := Go.Ground.textOnly Go.Departure.inlinedCapture }, { on := 4, ground := Go.Ground.textOnly Go.Departure.lateStores }, { on := 5, ground := Go.Ground.textOnly Go.Departure.lateStoresUnsure }], guard := none }) rfl (fun K hK => ?_) AllReadyH.nil
          go_simp
          skip
          (try go_wp2_with fail)
          refine hK.out _ _ ?hS10 (fun hHeld => ?_)
          case hS10 => (try dsimp only); (try trivial)
          clear hK K
          (try simp only [Act.put, List.setIfInBounds_toArray, List.set_cons_zero, List.set_cons_succ])
          refine wpAnyH_ready (rs := [7]) (by kernel_rfl) (by simp) ?_
          refine AllReadyH.cons (o := { dst := none, op := Go.Op.store 2 (Go.Operand.tmp 3) (Go.Operand.tmp 18), type := 0, pos := _, after := #[{ on := 5, ground := Go.Ground.data }, { on := 6, ground := Go.Ground.chain }, { on := 0, ground := Go.Ground.phase }, { on := 1, ground := Go.Ground.phase }, { on := 2, ground := Go.Ground.phase }, { on := 3, ground := Go.Ground.phase }, { on := 4, ground := Go.Ground.phase }, { on := 5, ground := Go.Ground.phase }, { on := 6, ground := Go.Ground.phase }], guard := none }) rfl (fun K hK => ?_) AllReadyH.nil
          go_simp
          skip
          (try go_wp2_with fail)
          refine hK.out _ _ ?hS12 (fun hHeld => ?_)
          case hS12 => (try dsimp only); (try trivial)
          clear hK K
          (try simp only [Act.put, List.setIfInBounds_toArray, List.set_cons_zero, List.set_cons_succ])
          refine wpAnyH_done (by kernel_rfl) ?_ _
          exact ⟨HKO.out, HBE.out, by omega, Lib.hid (by rw [HLO.out]; exact HA.out), Lib.hid (by rw [HHI.out]; exact HBB.out), Lib.hid HCC.out, Lib.hid (HG.out.trans_below HBE.out (by rw [HL.out]; exact Nat.le_refl _)), Nat.lt_of_lt_of_le hs2 HBE.out.size⟩
        case b6_6 =>
          go_simp
          skip
          (try go_wp2_with fail)
          refine hK.out _ _ ?hS13 (fun hHeld => ?_)
          case hS13 => (try dsimp only); (try trivial)
          clear hK K
          (try simp only [Act.put, List.setIfInBounds_toArray, List.set_cons_zero, List.set_cons_succ])
          refine wpAnyH_ready (rs := [3]) (by kernel_rfl) (by simp) ?_
          refine AllReadyH.cons (o := { dst := some 16, op := Go.Op.load 2 (Go.Operand.tmp 3), type := 2, pos := _, after := #[], guard := none }) rfl (fun K hK => ?_) AllReadyH.nil
          go_simp
          skip
          (try go_wp2_with fail)
          refine hK.out _ _ ?hS15 (fun hHeld => ?_)
          case hS15 => (try dsimp only); (try trivial)
          clear hK K
          (try simp only [Act.put, List.setIfInBounds_toArray, List.set_cons_zero, List.set_cons_succ])
          refine wpAnyH_take (i := 5) (oi := { dst := some 18, op := Go.Op.call { callee := Go.Callee.builtin Go.Builtin.max, args := #[Go.Operand.tmp 16, Go.Operand.tmp 17], argTypes := #[2, 2] }, type := 2, pos := _, after := #[{ on := 3, ground := Go.Ground.data }, { on := 4, ground := Go.Ground.data }], guard := none }) (v := ?v16) rfl (by kernel_rfl) (by kernel_rfl) (by kernel_rfl) (fun _ _ _ h => h) (Or.inl ⟨by kernel_rfl, ?hy16⟩) (by assumption) ?_
          case hy16 => intro w hSw; (try dsimp only at hSw); first | (go_simp; done) | (go_simp; with_reducible rfl)
          (try simp only [Act.put, List.setIfInBounds_toArray, List.set_cons_zero, List.set_cons_succ])
          refine wpAnyH_ready (rs := [7]) (by kernel_rfl) (by simp) ?_
          refine AllReadyH.cons (o := { dst := none, op := Go.Op.store 2 (Go.Operand.tmp 3) (Go.Operand.tmp 18), type := 0, pos := _, after := #[{ on := 5, ground := Go.Ground.data }, { on := 6, ground := Go.Ground.chain }, { on := 0, ground := Go.Ground.phase }, { on := 1, ground := Go.Ground.phase }, { on := 2, ground := Go.Ground.phase }, { on := 3, ground := Go.Ground.phase }, { on := 4, ground := Go.Ground.phase }, { on := 5, ground := Go.Ground.phase }, { on := 6, ground := Go.Ground.phase }], guard := none }) rfl (fun K hK => ?_) AllReadyH.nil
          go_simp
          skip
          (try go_wp2_with fail)
          refine hK.out _ _ ?hS18 (fun hHeld => ?_)
          case hS18 => (try dsimp only); (try trivial)
          clear hK K
          (try simp only [Act.put, List.setIfInBounds_toArray, List.set_cons_zero, List.set_cons_succ])
          refine wpAnyH_done (by kernel_rfl) ?_ _
          exact ⟨HKO.out, HBE.out, by omega, Lib.hid (by rw [HLO.out]; exact HA.out), Lib.hid (by rw [HHI.out]; exact HBB.out), Lib.hid HCC.out, Lib.hid (HG.out.trans_below HBE.out (by rw [HL.out]; exact Nat.le_refl _)), Nat.lt_of_lt_of_le hs2 HBE.out.size⟩
      case b3_3 =>
        go_simp
        skip
        (try go_wp2_with fail)
        refine hK.out _ _ ?hS19 (fun hHeld => ?_)
        case hS19 => (try dsimp only); (try trivial)
        clear hK K
        (try simp only [Act.put, List.setIfInBounds_toArray, List.set_cons_zero, List.set_cons_succ])
        refine wpAnyH_take (i := 5) (oi := { dst := some 18, op := Go.Op.call { callee := Go.Callee.builtin Go.Builtin.max, args := #[Go.Operand.tmp 16, Go.Operand.tmp 17], argTypes := #[2, 2] }, type := 2, pos := _, after := #[{ on := 3, ground := Go.Ground.data }, { on := 4, ground := Go.Ground.data }], guard := none }) (v := ?v20) rfl (by kernel_rfl) (by kernel_rfl) (by kernel_rfl) (fun _ _ _ h => h) (Or.inl ⟨by kernel_rfl, ?hy20⟩) (by assumption) ?_
        case hy20 => intro w hSw; (try dsimp only at hSw); first | (go_simp; done) | (go_simp; with_reducible rfl)
        (try simp only [Act.put, List.setIfInBounds_toArray, List.set_cons_zero, List.set_cons_succ])
        refine wpAnyH_ready (rs := [0]) (by kernel_rfl) (by simp) ?_
        refine AllReadyH.cons (o := { dst := some 13, op := Go.Op.load 2 (Go.Operand.tmp 2), type := 2, pos := _, after := #[], guard := none }) rfl (fun K hK => ?_) AllReadyH.nil
        go_simp
        skip
        (try go_wp2_with fail)
        refine hK.out _ _ ?hS22 (fun hHeld => ?_)
        case hS22 => (try dsimp only); (try trivial)
        clear hK K
        (try simp only [Act.put, List.setIfInBounds_toArray, List.set_cons_zero, List.set_cons_succ])
        refine wpAnyH_take (i := 2) (oi := { dst := some 15, op := Go.Op.call { callee := Go.Callee.builtin Go.Builtin.min, args := #[Go.Operand.tmp 13, Go.Operand.tmp 14], argTypes := #[2, 2] }, type := 2, pos := _, after := #[{ on := 0, ground := Go.Ground.data }, { on := 1, ground := Go.Ground.data }], guard := none }) (v := ?v23) rfl (by kernel_rfl) (by kernel_rfl) (by kernel_rfl) (fun _ _ _ h => h) (Or.inl ⟨by kernel_rfl, ?hy23⟩) (by assumption) ?_
        case hy23 => intro w hSw; (try dsimp only at hSw); first | (go_simp; done) | (go_simp; with_reducible rfl)
        (try simp only [Act.put, List.setIfInBounds_toArray, List.set_cons_zero, List.set_cons_succ])
        refine wpAnyH_ready (rs := [6]) (by kernel_rfl) (by simp) ?_
        refine AllReadyH.cons (o := { dst := none, op := Go.Op.store 2 (Go.Operand.tmp 2) (Go.Operand.tmp 15), type := 0, pos := _, after := #[{ on := 2, ground := Go.Ground.data }, { on := 0, ground := Go.Ground.phase }, { on := 1, ground := Go.Ground.phase }, { on := 2, ground := Go.Ground.phase }, { on := 3, ground := Go.Ground.textOnly Go.Departure.inlinedCapture }, { on := 4, ground := Go.Ground.textOnly Go.Departure.lateStores }, { on := 5, ground := Go.Ground.textOnly Go.Departure.lateStoresUnsure }], guard := none }) rfl (fun K hK => ?_) AllReadyH.nil
        go_simp
        skip
        (try go_wp2_with fail)
        refine hK.out _ _ ?hS25 (fun hHeld => ?_)
        case hS25 => (try dsimp only); (try trivial)
        clear hK K
        (try simp only [Act.put, List.setIfInBounds_toArray, List.set_cons_zero, List.set_cons_succ])
        refine wpAnyH_ready (rs := [7]) (by kernel_rfl) (by simp) ?_
        refine AllReadyH.cons (o := { dst := none, op := Go.Op.store 2 (Go.Operand.tmp 3) (Go.Operand.tmp 18), type := 0, pos := _, after := #[{ on := 5, ground := Go.Ground.data }, { on := 6, ground := Go.Ground.chain }, { on := 0, ground := Go.Ground.phase }, { on := 1, ground := Go.Ground.phase }, { on := 2, ground := Go.Ground.phase }, { on := 3, ground := Go.Ground.phase }, { on := 4, ground := Go.Ground.phase }, { on := 5, ground := Go.Ground.phase }, { on := 6, ground := Go.Ground.phase }], guard := none }) rfl (fun K hK => ?_) AllReadyH.nil
        go_simp
        skip
        (try go_wp2_with fail)
        refine hK.out _ _ ?hS27 (fun hHeld => ?_)
        case hS27 => (try dsimp only); (try trivial)
        clear hK K
        (try simp only [Act.put, List.setIfInBounds_toArray, List.set_cons_zero, List.set_cons_succ])
        refine wpAnyH_done (by kernel_rfl) ?_ _
        exact ⟨HKO.out, HBE.out, by omega, Lib.hid (by rw [HLO.out]; exact HA.out), Lib.hid (by rw [HHI.out]; exact HBB.out), Lib.hid HCC.out, Lib.hid (HG.out.trans_below HBE.out (by rw [HL.out]; exact Nat.le_refl _)), Nat.lt_of_lt_of_le hs2 HBE.out.size⟩
    · obtain ⟨j, rfl⟩ : ∃ j, k = j + 1 := ⟨k - 1, by omega⟩
      have HLO : Hid (loK (allN es) (j + 1 + 1) = min (loK (allN es) (j + 1)) (el (allN es) (j + 1))) := Lib.hid rfl
      have HHI : Hid (hiK (allN es) (j + 1 + 1) = max (hiK (allN es) (j + 1)) (el (allN es) (j + 1))) := Lib.hid rfl
      have H3' : Hid (Boxed V2 (L + 1 + 1) 4 (.bool true)) := Lib.hid H3.out
      have r3 : V2.cell? ⟨L + 1 + 1, 0, none⟩ = some (.bool true) := r3
      generalize el (allN es) (j + 1) = x at *
      generalize loK (allN es) (j + 1) = lo at *
      generalize hiK (allN es) (j + 1) = hi at *
      gi_wp2
      have k1 : Boxed V2 L 2 (.int .i64 lo) := H1.out
      have k2 : Boxed V2 (L + 1) 2 (.int .i64 hi) := H2.out
      have k3 : Boxed V2 (L + 1 + 1) 4 (.bool true) := H3'.out
      have q1 := k1.cell
      have q2 := k1.frozen
      have q3 := k2.cell
      have q4 := k2.frozen
      have m1 := k1.set (.int .i64 (min lo x))
      have m2 := k2.kept (grownBy_setCell' V2 L (.int .i64 (min lo x))) (ob_ne (by omega))
      have q5 := m2.cell
      have q6 := m2.frozen
      have HA := Lib.hid (m1.kept (grownBy_setCell' _ (L + 1) (.int .i64 (max hi x))) (ob_ne (by omega)))
      have HBB := Lib.hid (m2.set (.int .i64 (max hi x)))
      have HCC := Lib.hid ((k3.kept (grownBy_setCell' V2 L (.int .i64 (min lo x))) (ob_ne (by omega))).kept (grownBy_setCell' _ (L + 1) (.int .i64 (max hi x))) (ob_ne (by omega)))
      have HBE : Hid (Below L V2 ((V2.setCell ⟨L, 0, none⟩ (.int .i64 (min lo x))).setCell ⟨L + 1, 0, none⟩ (.int .i64 (max hi x))).drew) := Lib.hid ((Below.setCell (p := ⟨L + 1, 0, none⟩) (Below.setCell (p := ⟨L, 0, none⟩) (Below.refl L V2) (Nat.le_refl _) _) (by show L ≤ L + 1; omega) _).trans (Below.drew1' L _))
      have HKO : Hid (KeepsOthers V2 ((V2.setCell ⟨L, 0, none⟩ (.int .i64 (min lo x))).setCell ⟨L + 1, 0, none⟩ (.int .i64 (max hi x))).drew) := Lib.hid ((((KeepsOthers.refl V2).trans (KeepsOthers.setCell _ _ _)).trans (KeepsOthers.setCell _ _ _)).trans (KeepsOthers.drew _))
      clear k1 k2 k3 m1 m2
      refine wp_round_held_drew (S := (fun _ => True)) (by kernel_rfl) (by kernel_rfl) (fun h => by obtain ⟨_, _, h⟩ := h; exact h) trivial (fun hHeld => ?_)
      refine wpAnyH_take (i := 1) (oi := { dst := some 14, op := Go.Op.move (Go.Operand.tmp 5), type := 2, pos := _, after := #[], guard := none }) (v := ?v28) rfl (by kernel_rfl) (by kernel_rfl) (by kernel_rfl) (fun _ _ _ h => h) (Or.inl ⟨by kernel_rfl, ?hy28⟩) (by assumption) ?_
      case hy28 => intro w hSw; (try dsimp only at hSw); first | (go_simp; done) | (go_simp; with_reducible rfl)
      (try simp only [Act.put, List.setIfInBounds_toArray, List.set_cons_zero, List.set_cons_succ])
      refine wpAnyH_take (i := 4) (oi := { dst := some 17, op := Go.Op.move (Go.Operand.tmp 5), type := 2, pos := _, after := #[], guard := none }) (v := ?v29) rfl (by kernel_rfl) (by kernel_rfl) (by kernel_rfl) (fun _ _ _ h => h) (Or.inl ⟨by kernel_rfl, ?hy29⟩) (by assumption) ?_
      case hy29 => intro w hSw; (try dsimp only at hSw); first | (go_simp; done) | (go_simp; with_reducible rfl)
      (try simp only [Act.put, List.setIfInBounds_toArray, List.set_cons_zero, List.set_cons_succ])
      refine wpAnyH_ready (rs := [0, 3]) (by kernel_rfl) (by simp) ?_
      refine (AllReadyH.cons (o := { dst := some 13, op := Go.Op.load 2 (Go.Operand.tmp 2), type := 2, pos := _, after := #[], guard := none }) rfl (fun K hK => ?b30_0) (AllReadyH.cons (o := { dst := some 16, op := Go.Op.load 2 (Go.Operand.tmp 3), type := 2, pos := _, after := #[], guard := none }) rfl (fun K hK => ?b30_3) AllReadyH.nil))
      case b30_0 =>
        go_simp
        skip
        (try go_wp2_with fail)
        refine hK.out _ _ ?hS31 (fun hHeld => ?_)
        case hS31 => (try dsimp only); (try trivial)
        clear hK K
        (try simp only [Act.put, List.setIfInBounds_toArray, List.set_cons_zero, List.set_cons_succ])
        refine wpAnyH_take (i := 2) (oi := { dst := some 15, op := Go.Op.call { callee := Go.Callee.builtin Go.Builtin.min, args := #[Go.Operand.tmp 13, Go.Operand.tmp 14], argTypes := #[2, 2] }, type := 2, pos := _, after := #[{ on := 0, ground := Go.Ground.data }, { on := 1, ground := Go.Ground.data }], guard := none }) (v := ?v32) rfl (by kernel_rfl) (by kernel_rfl) (by kernel_rfl) (fun _ _ _ h => h) (Or.inl ⟨by kernel_rfl, ?hy32⟩) (by assumption) ?_
        case hy32 => intro w hSw; (try dsimp only at hSw); first | (go_simp; done) | (go_simp; with_reducible rfl)
        (try simp only [Act.put, List.setIfInBounds_toArray, List.set_cons_zero, List.set_cons_succ])
        refine wpAnyH_ready (rs := [3, 6]) (by kernel_rfl) (by simp) ?_
        refine (AllReadyH.cons (o := { dst := some 16, op := Go.Op.load 2 (Go.Operand.tmp 3), type := 2, pos := _, after := #[], guard := none }) rfl (fun K hK => ?b33_3) (AllReadyH.cons (o := { dst := none, op := Go.Op.store 2 (Go.Operand.tmp 2) (Go.Operand.tmp 15), type := 0, pos := _, after := #[{ on := 2, ground := Go.Ground.data }, { on := 0, ground := Go.Ground.phase }, { on := 1, ground := Go.Ground.phase }, { on := 2, ground := Go.Ground.phase }, { on := 3, ground := Go.Ground.textOnly Go.Departure.inlinedCapture }, { on := 4, ground := Go.Ground.textOnly Go.Departure.lateStores }, { on := 5, ground := Go.Ground.textOnly Go.Departure.lateStoresUnsure }], guard := none }) rfl (fun K hK => ?b33_6) AllReadyH.nil))
        case b33_3 =>
          go_simp
          skip
          (try go_wp2_with fail)
          refine hK.out _ _ ?hS34 (fun hHeld => ?_)
          case hS34 => (try dsimp only); (try trivial)
          clear hK K
          (try simp only [Act.put, List.setIfInBounds_toArray, List.set_cons_zero, List.set_cons_succ])
          refine wpAnyH_take (i := 5) (oi := { dst := some 18, op := Go.Op.call { callee := Go.Callee.builtin Go.Builtin.max, args := #[Go.Operand.tmp 16, Go.Operand.tmp 17], argTypes := #[2, 2] }, type := 2, pos := _, after := #[{ on := 3, ground := Go.Ground.data }, { on := 4, ground := Go.Ground.data }], guard := none }) (v := ?v35) rfl (by kernel_rfl) (by kernel_rfl) (by kernel_rfl) (fun _ _ _ h => h) (Or.inl ⟨by kernel_rfl, ?hy35⟩) (by assumption) ?_
          case hy35 => intro w hSw; (try dsimp only at hSw); first | (go_simp; done) | (go_simp; with_reducible rfl)
          (try simp only [Act.put, List.setIfInBounds_toArray, List.set_cons_zero, List.set_cons_succ])
          refine wpAnyH_ready (rs := [6]) (by kernel_rfl) (by simp) ?_
          refine AllReadyH.cons (o := { dst := none, op := Go.Op.store 2 (Go.Operand.tmp 2) (Go.Operand.tmp 15), type := 0, pos := _, after := #[{ on := 2, ground := Go.Ground.data }, { on := 0, ground := Go.Ground.phase }, { on := 1, ground := Go.Ground.phase }, { on := 2, ground := Go.Ground.phase }, { on := 3, ground := Go.Ground.textOnly Go.Departure.inlinedCapture }, { on := 4, ground := Go.Ground.textOnly Go.Departure.lateStores }, { on := 5, ground := Go.Ground.textOnly Go.Departure.lateStoresUnsure }], guard := none }) rfl (fun K hK => ?_) AllReadyH.nil
          go_simp
          skip
          (try go_wp2_with fail)
          refine hK.out _ _ ?hS37 (fun hHeld => ?_)
          case hS37 => (try dsimp only); (try trivial)
          clear hK K
          (try simp only [Act.put, List.setIfInBounds_toArray, List.set_cons_zero, List.set_cons_succ])
          refine wpAnyH_ready (rs := [7]) (by kernel_rfl) (by simp) ?_
          refine AllReadyH.cons (o := { dst := none, op := Go.Op.store 2 (Go.Operand.tmp 3) (Go.Operand.tmp 18), type := 0, pos := _, after := #[{ on := 5, ground := Go.Ground.data }, { on := 6, ground := Go.Ground.chain }, { on := 0, ground := Go.Ground.phase }, { on := 1, ground := Go.Ground.phase }, { on := 2, ground := Go.Ground.phase }, { on := 3, ground := Go.Ground.phase }, { on := 4, ground := Go.Ground.phase }, { on := 5, ground := Go.Ground.phase }, { on := 6, ground := Go.Ground.phase }], guard := none }) rfl (fun K hK => ?_) AllReadyH.nil
          go_simp
          skip
          (try go_wp2_with fail)
          refine hK.out _ _ ?hS39 (fun hHeld => ?_)
          case hS39 => (try dsimp only); (try trivial)
          clear hK K
          (try simp only [Act.put, List.setIfInBounds_toArray, List.set_cons_zero, List.set_cons_succ])
          refine wpAnyH_done (by kernel_rfl) ?_ _
          exact ⟨HKO.out, HBE.out, by omega, Lib.hid (by rw [HLO.out]; exact HA.out), Lib.hid (by rw [HHI.out]; exact HBB.out), Lib.hid HCC.out, Lib.hid (HG.out.trans_below HBE.out (by rw [HL.out]; exact Nat.le_refl _)), Nat.lt_of_lt_of_le hs2 HBE.out.size⟩
        case b33_6 =>
          go_simp
          skip
          (try go_wp2_with fail)
          refine hK.out _ _ ?hS40 (fun hHeld => ?_)
          case hS40 => (try dsimp only); (try trivial)
          clear hK K
          (try simp only [Act.put, List.setIfInBounds_toArray, List.set_cons_zero, List.set_cons_succ])
          refine wpAnyH_ready (rs := [3]) (by kernel_rfl) (by simp) ?_
          refine AllReadyH.cons (o := { dst := some 16, op := Go.Op.load 2 (Go.Operand.tmp 3), type := 2, pos := _, after := #[], guard := none }) rfl (fun K hK => ?_) AllReadyH.nil
          go_simp
          skip
          (try go_wp2_with fail)
          refine hK.out _ _ ?hS42 (fun hHeld => ?_)
          case hS42 => (try dsimp only); (try trivial)
          clear hK K
          (try simp only [Act.put, List.setIfInBounds_toArray, List.set_cons_zero, List.set_cons_succ])
          refine wpAnyH_take (i := 5) (oi := { dst := some 18, op := Go.Op.call { callee := Go.Callee.builtin Go.Builtin.max, args := #[Go.Operand.tmp 16, Go.Operand.tmp 17], argTypes := #[2, 2] }, type := 2, pos := _, after := #[{ on := 3, ground := Go.Ground.data }, { on := 4, ground := Go.Ground.data }], guard := none }) (v := ?v43) rfl (by kernel_rfl) (by kernel_rfl) (by kernel_rfl) (fun _ _ _ h => h) (Or.inl ⟨by kernel_rfl, ?hy43⟩) (by assumption) ?_
          case hy43 => intro w hSw; (try dsimp only at hSw); first | (go_simp; done) | (go_simp; with_reducible rfl)
          (try simp only [Act.put, List.setIfInBounds_toArray, List.set_cons_zero, List.set_cons_succ])
          refine wpAnyH_ready (rs := [7]) (by kernel_rfl) (by simp) ?_
          refine AllReadyH.cons (o := { dst := none, op := Go.Op.store 2 (Go.Operand.tmp 3) (Go.Operand.tmp 18), type := 0, pos := _, after := #[{ on := 5, ground := Go.Ground.data }, { on := 6, ground := Go.Ground.chain }, { on := 0, ground := Go.Ground.phase }, { on := 1, ground := Go.Ground.phase }, { on := 2, ground := Go.Ground.phase }, { on := 3, ground := Go.Ground.phase }, { on := 4, ground := Go.Ground.phase }, { on := 5, ground := Go.Ground.phase }, { on := 6, ground := Go.Ground.phase }], guard := none }) rfl (fun K hK => ?_) AllReadyH.nil
          go_simp
          skip
          (try go_wp2_with fail)
          refine hK.out _ _ ?hS45 (fun hHeld => ?_)
          case hS45 => (try dsimp only); (try trivial)
          clear hK K
          (try simp only [Act.put, List.setIfInBounds_toArray, List.set_cons_zero, List.set_cons_succ])
          refine wpAnyH_done (by kernel_rfl) ?_ _
          exact ⟨HKO.out, HBE.out, by omega, Lib.hid (by rw [HLO.out]; exact HA.out), Lib.hid (by rw [HHI.out]; exact HBB.out), Lib.hid HCC.out, Lib.hid (HG.out.trans_below HBE.out (by rw [HL.out]; exact Nat.le_refl _)), Nat.lt_of_lt_of_le hs2 HBE.out.size⟩
      case b30_3 =>
        go_simp
        skip
        (try go_wp2_with fail)
        refine hK.out _ _ ?hS46 (fun hHeld => ?_)
        case hS46 => (try dsimp only); (try trivial)
        clear hK K
        (try simp only [Act.put, List.setIfInBounds_toArray, List.set_cons_zero, List.set_cons_succ])
        refine wpAnyH_take (i := 5) (oi := { dst := some 18, op := Go.Op.call { callee := Go.Callee.builtin Go.Builtin.max, args := #[Go.Operand.tmp 16, Go.Operand.tmp 17], argTypes := #[2, 2] }, type := 2, pos := _, after := #[{ on := 3, ground := Go.Ground.data }, { on := 4, ground := Go.Ground.data }], guard := none }) (v := ?v47) rfl (by kernel_rfl) (by kernel_rfl) (by kernel_rfl) (fun _ _ _ h => h) (Or.inl ⟨by kernel_rfl, ?hy47⟩) (by assumption) ?_
        case hy47 => intro w hSw; (try dsimp only at hSw); first | (go_simp; done) | (go_simp; with_reducible rfl)
        (try simp only [Act.put, List.setIfInBounds_toArray, List.set_cons_zero, List.set_cons_succ])
        refine wpAnyH_ready (rs := [0]) (by kernel_rfl) (by simp) ?_
        refine AllReadyH.cons (o := { dst := some 13, op := Go.Op.load 2 (Go.Operand.tmp 2), type := 2, pos := _, after := #[], guard := none }) rfl (fun K hK => ?_) AllReadyH.nil
        go_simp
        skip
        (try go_wp2_with fail)
        refine hK.out _ _ ?hS49 (fun hHeld => ?_)
        case hS49 => (try dsimp only); (try trivial)
        clear hK K
        (try simp only [Act.put, List.setIfInBounds_toArray, List.set_cons_zero, List.set_cons_succ])
        refine wpAnyH_take (i := 2) (oi := { dst := some 15, op := Go.Op.call { callee := Go.Callee.builtin Go.Builtin.min, args := #[Go.Operand.tmp 13, Go.Operand.tmp 14], argTypes := #[2, 2] }, type := 2, pos := _, after := #[{ on := 0, ground := Go.Ground.data }, { on := 1, ground := Go.Ground.data }], guard := none }) (v := ?v50) rfl (by kernel_rfl) (by kernel_rfl) (by kernel_rfl) (fun _ _ _ h => h) (Or.inl ⟨by kernel_rfl, ?hy50⟩) (by assumption) ?_
        case hy50 => intro w hSw; (try dsimp only at hSw); first | (go_simp; done) | (go_simp; with_reducible rfl)
        (try simp only [Act.put, List.setIfInBounds_toArray, List.set_cons_zero, List.set_cons_succ])
        refine wpAnyH_ready (rs := [6]) (by kernel_rfl) (by simp) ?_
        refine AllReadyH.cons (o := { dst := none, op := Go.Op.store 2 (Go.Operand.tmp 2) (Go.Operand.tmp 15), type := 0, pos := _, after := #[{ on := 2, ground := Go.Ground.data }, { on := 0, ground := Go.Ground.phase }, { on := 1, ground := Go.Ground.phase }, { on := 2, ground := Go.Ground.phase }, { on := 3, ground := Go.Ground.textOnly Go.Departure.inlinedCapture }, { on := 4, ground := Go.Ground.textOnly Go.Departure.lateStores }, { on := 5, ground := Go.Ground.textOnly Go.Departure.lateStoresUnsure }], guard := none }) rfl (fun K hK => ?_) AllReadyH.nil
        go_simp
        skip
        (try go_wp2_with fail)
        refine hK.out _ _ ?hS52 (fun hHeld => ?_)
        case hS52 => (try dsimp only); (try trivial)
        clear hK K
        (try simp only [Act.put, List.setIfInBounds_toArray, List.set_cons_zero, List.set_cons_succ])
        refine wpAnyH_ready (rs := [7]) (by kernel_rfl) (by simp) ?_
        refine AllReadyH.cons (o := { dst := none, op := Go.Op.store 2 (Go.Operand.tmp 3) (Go.Operand.tmp 18), type := 0, pos := _, after := #[{ on := 5, ground := Go.Ground.data }, { on := 6, ground := Go.Ground.chain }, { on := 0, ground := Go.Ground.phase }, { on := 1, ground := Go.Ground.phase }, { on := 2, ground := Go.Ground.phase }, { on := 3, ground := Go.Ground.phase }, { on := 4, ground := Go.Ground.phase }, { on := 5, ground := Go.Ground.phase }, { on := 6, ground := Go.Ground.phase }], guard := none }) rfl (fun K hK => ?_) AllReadyH.nil
        go_simp
        skip
        (try go_wp2_with fail)
        refine hK.out _ _ ?hS54 (fun hHeld => ?_)
        case hS54 => (try dsimp only); (try trivial)
        clear hK K
        (try simp only [Act.put, List.setIfInBounds_toArray, List.set_cons_zero, List.set_cons_succ])
        refine wpAnyH_done (by kernel_rfl) ?_ _
        exact ⟨HKO.out, HBE.out, by omega, Lib.hid (by rw [HLO.out]; exact HA.out), Lib.hid (by rw [HHI.out]; exact HBB.out), Lib.hid HCC.out, Lib.hid (HG.out.trans_below HBE.out (by rw [HL.out]; exact Nat.le_refl _)), Nat.lt_of_lt_of_le hs2 HBE.out.size⟩
  case done =>
    rintro D V hD ⟨hk, H1, H2, H3, HGr, hs2⟩ hK
    have hL3 : L + 1 + 1 + 1 < D := by rw [HSZ.out] at hD; omega
    have q1 := H1.out.cell
    have q2 := H1.out.frozen
    have q3 := H2.out.cell
    have q4 := H2.out.frozen
    have q5 := H3.out.cell
    have q6 := H3.out.frozen
    have HAX := Lib.hid (fun v => H1.out.set v)
    go_wp2_with fail
    refine wp_region_held_drew (S := (fun W' => Boxed W' L 2 (.int .i64 (loK (allN es) N)) ∧ Boxed W' (L + 1) 2 (.int .i64 (hiK (allN es) N)) ∧ Boxed W' (L + 1 + 1) 4 (.bool (decide (0 < N))) ∧ W'.heap[D]? = some (.deferred (some [])) ∧ Below L V W' ∧ W'.cell? ⟨L, 0, none⟩ = some (.int .i64 (loK (allN es) N)) ∧ W'.frozen? ⟨L, 0, none⟩ = false ∧ W'.cell? ⟨L + 1, 0, none⟩ = some (.int .i64 (hiK (allN es) N)) ∧ W'.frozen? ⟨L + 1, 0, none⟩ = false ∧ W'.cell? ⟨L + 1 + 1, 0, none⟩ = some (.bool (decide (0 < N))) ∧ W'.frozen? ⟨L + 1 + 1, 0, none⟩ = false)) (by kernel_rfl) (keep6 H1.out H2.out H3.out hK (Below.drew1' L V)) (fun hHeld => ?_)
    refine wpAnyH_ready (rs := [0, 1, 2]) (by kernel_rfl) (by simp) ?_
    refine (AllReadyH.cons (o := { dst := some 19, op := Go.Op.load 2 (Go.Operand.tmp 2), type := 2, pos := _, after := #[], guard := none }) rfl (fun K hK => ?b55_0) (AllReadyH.cons (o := { dst := some 20, op := Go.Op.load 2 (Go.Operand.tmp 3), type := 2, pos := _, after := #[], guard := none }) rfl (fun K hK => ?b55_1) (AllReadyH.cons (o := { dst := some 21, op := Go.Op.load 4 (Go.Operand.tmp 4), type := 4, pos := _, after := #[], guard := none }) rfl (fun K hK => ?b55_2) AllReadyH.nil)))
    case b55_0 =>
      go_simp
      skip
      (try go_wp2_with fail)
      refine hK.out _ _ ?hS56 (fun hHeld => ?_)
      case hS56 => (try dsimp only); exact hHeld
      clear hK K
      (try simp only [Act.put, List.setIfInBounds_toArray, List.set_cons_zero, List.set_cons_succ])
      refine wpAnyH_ready (rs := [1, 2, 3]) (by kernel_rfl) (by simp) ?_
      refine (AllReadyH.cons (o := { dst := some 20, op := Go.Op.load 2 (Go.Operand.tmp 3), type := 2, pos := _, after := #[], guard := none }) rfl (fun K hK => ?b57_1) (AllReadyH.cons (o := { dst := some 21, op := Go.Op.load 4 (Go.Operand.tmp 4), type := 4, pos := _, after := #[], guard := none }) rfl (fun K hK => ?b57_2) (AllReadyH.cons (o := { dst := none, op := Go.Op.store 2 (Go.Operand.tmp 2) (Go.Operand.tmp 19), type := 0, pos := _, after := #[{ on := 0, ground := Go.Ground.data }, { on := 0, ground := Go.Ground.phase }, { on := 1, ground := Go.Ground.textOnly Go.Departure.inlinedCapture }, { on := 2, ground := Go.Ground.textOnly Go.Departure.inlinedCapture }], guard := none }) rfl (fun K hK => ?b57_3) AllReadyH.nil)))
      case b57_1 =>
        go_simp
        skip
        (try go_wp2_with fail)
        refine hK.out _ _ ?hS58 (fun hHeld => ?_)
        case hS58 => (try dsimp only); exact hHeld
        clear hK K
        (try simp only [Act.put, List.setIfInBounds_toArray, List.set_cons_zero, List.set_cons_succ])
        refine wpAnyH_ready (rs := [2, 3]) (by kernel_rfl) (by simp) ?_
        refine (AllReadyH.cons (o := { dst := some 21, op := Go.Op.load 4 (Go.Operand.tmp 4), type := 4, pos := _, after := #[], guard := none }) rfl (fun K hK => ?b59_2) (AllReadyH.cons (o := { dst := none, op := Go.Op.store 2 (Go.Operand.tmp 2) (Go.Operand.tmp 19), type := 0, pos := _, after := #[{ on := 0, ground := Go.Ground.data }, { on := 0, ground := Go.Ground.phase }, { on := 1, ground := Go.Ground.textOnly Go.Departure.inlinedCapture }, { on := 2, ground := Go.Ground.textOnly Go.Departure.inlinedCapture }], guard := none }) rfl (fun K hK => ?b59_3) AllReadyH.nil))
        case b59_2 =>
          go_simp
          skip
          (try go_wp2_with fail)
          refine hK.out _ _ ?hS60 (fun hHeld => ?_)
          case hS60 => (try dsimp only); exact hHeld
          clear hK K
          (try simp only [Act.put, List.setIfInBounds_toArray, List.set_cons_zero, List.set_cons_succ])
          refine wpAnyH_ready (rs := [3]) (by kernel_rfl) (by simp) ?_
          refine AllReadyH.cons (o := { dst := none, op := Go.Op.store 2 (Go.Operand.tmp 2) (Go.Operand.tmp 19), type := 0, pos := _, after := #[{ on := 0, ground := Go.Ground.data }, { on := 0, ground := Go.Ground.phase }, { on := 1, ground := Go.Ground.textOnly Go.Departure.inlinedCapture }, { on := 2, ground := Go.Ground.textOnly Go.Departure.inlinedCapture }], guard := none }) rfl (fun K hK => ?_) AllReadyH.nil
          go_simp
          skip
          (try go_wp2_with fail)
          refine hK.out _ _ ?hS62 (fun hHeld => ?_)
          case hS62 => (try dsimp only); exact (by obtain ⟨z1, z2, z3, z4, z5, _⟩ := hHeld; exact keep6_set1 z1 z2 z3 z4 z5 hL3)
          clear hK K
          (try simp only [Act.put, List.setIfInBounds_toArray, List.set_cons_zero, List.set_cons_succ])
          refine wpAnyH_ready (rs := [4]) (by kernel_rfl) (by simp) ?_
          refine AllReadyH.cons (o := { dst := none, op := Go.Op.store 2 (Go.Operand.tmp 3) (Go.Operand.tmp 20), type := 0, pos := _, after := #[{ on := 1, ground := Go.Ground.data }, { on := 3, ground := Go.Ground.chain }, { on := 0, ground := Go.Ground.phase }, { on := 1, ground := Go.Ground.phase }, { on := 2, ground := Go.Ground.textOnly Go.Departure.inlinedCapture }, { on := 3, ground := Go.Ground.phase }], guard := none }) rfl (fun K hK => ?_) AllReadyH.nil
          go_simp
          skip
          (try go_wp2_with fail)
          refine hK.out _ _ ?hS64 (fun hHeld => ?_)
          case hS64 => (try dsimp only); exact (by obtain ⟨z1, z2, z3, z4, z5, _⟩ := hHeld; exact keep6_set2 z1 z2 z3 z4 z5 hL3)
          clear hK K
          (try simp only [Act.put, List.setIfInBounds_toArray, List.set_cons_zero, List.set_cons_succ])
          refine wpAnyH_ready (rs := [5]) (by kernel_rfl) (by simp) ?_
          refine AllReadyH.cons (o := { dst := none, op := Go.Op.store 4 (Go.Operand.tmp 4) (Go.Operand.tmp 21), type := 0, pos := _, after := #[{ on := 2, ground := Go.Ground.data }, { on := 4, ground := Go.Ground.chain }, { on := 0, ground := Go.Ground.phase }, { on := 1, ground := Go.Ground.phase }, { on := 2, ground := Go.Ground.phase }, { on := 3, ground := Go.Ground.phase }, { on := 4, ground := Go.Ground.phase }], guard := none }) rfl (fun K hK => ?_) AllReadyH.nil
          go_simp
          skip
          (try go_wp2_with fail)
          refine hK.out _ _ ?hS66 (fun hHeld => ?_)
          case hS66 => (try dsimp only); exact (by obtain ⟨z1, z2, z3, z4, z5, _⟩ := hHeld; exact keep6_set3 z1 z2 z3 z4 z5 hL3)
          clear hK K
          (try simp only [Act.put, List.setIfInBounds_toArray, List.set_cons_zero, List.set_cons_succ])
          refine wpAnyH_done (by kernel_rfl) ?_ _
          obtain ⟨z1, z2, z3, z4, z5, z6, _, z8, _, z10, _⟩ := hHeld
          have Z1 := Lib.hid z1
          have Z2 := Lib.hid z2
          have Z3 := Lib.hid z3
          have Z4 := Lib.hid z4
          have Z5 := Lib.hid z5
          clear z1 z2 z3 z5 z6 z8 z10
          go_wp2
          refine ⟨by simp, .inl ⟨_, _, rfl, run_takeDeferred z4, ?_⟩⟩
          have r1 := Boxed.cell ((World.putObj_heap_other (o := .deferred none) (show L ≠ D by omega)).trans Z1.out)
          have r2 := Boxed.cell ((World.putObj_heap_other (o := .deferred none) (show L + 1 ≠ D by omega)).trans Z2.out)
          have r3 := Boxed.cell ((World.putObj_heap_other (o := .deferred none) (show L + 1 + 1 ≠ D by omega)).trans Z3.out)
          exact ⟨.tuple #[.int .i64 (loK (allN es) N), .int .i64 (hiK (allN es) N), .bool (decide (0 < N))], by simp [results, Tryd.results22, go_sem, r1, r2, r3], by rw [HNN.out], HGr.out.trans_below (Z5.out.trans (below_put (B := L) (o' := .deferred none) (by omega) z4)) (by rw [HL.out]; exact Nat.le_refl _)⟩
        case b59_3 =>
          go_simp
          skip
          (try go_wp2_with fail)
          refine hK.out _ _ ?hS67 (fun hHeld => ?_)
          case hS67 => (try dsimp only); exact (by obtain ⟨z1, z2, z3, z4, z5, _⟩ := hHeld; exact keep6_set1 z1 z2 z3 z4 z5 hL3)
          clear hK K
          (try simp only [Act.put, List.setIfInBounds_toArray, List.set_cons_zero, List.set_cons_succ])
          refine wpAnyH_ready (rs := [2, 4]) (by kernel_rfl) (by simp) ?_
          refine (AllReadyH.cons (o := { dst := some 21, op := Go.Op.load 4 (Go.Operand.tmp 4), type := 4, pos := _, after := #[], guard := none }) rfl (fun K hK => ?b68_2) (AllReadyH.cons (o := { dst := none, op := Go.Op.store 2 (Go.Operand.tmp 3) (Go.Operand.tmp 20), type := 0, pos := _, after := #[{ on := 1, ground := Go.Ground.data }, { on := 3, ground := Go.Ground.chain }, { on := 0, ground := Go.Ground.phase }, { on := 1, ground := Go.Ground.phase }, { on := 2, ground := Go.Ground.textOnly Go.Departure.inlinedCapture }, { on := 3, ground := Go.Ground.phase }], guard := none }) rfl (fun K hK => ?b68_4) AllReadyH.nil))
          case b68_2 =>
            go_simp
            skip
            (try go_wp2_with fail)
            refine hK.out _ _ ?hS69 (fun hHeld => ?_)
            case hS69 => (try dsimp only); exact hHeld
            clear hK K
            (try simp only [Act.put, List.setIfInBounds_toArray, List.set_cons_zero, List.set_cons_succ])
            refine wpAnyH_ready (rs := [4]) (by kernel_rfl) (by simp) ?_
            refine AllReadyH.cons (o := { dst := none, op := Go.Op.store 2 (Go.Operand.tmp 3) (Go.Operand.tmp 20), type := 0, pos := _, after := #[{ on := 1, ground := Go.Ground.data }, { on := 3, ground := Go.Ground.chain }, { on := 0, ground := Go.Ground.phase }, { on := 1, ground := Go.Ground.phase }, { on := 2, ground := Go.Ground.textOnly Go.Departure.inlinedCapture }, { on := 3, ground := Go.Ground.phase }], guard := none }) rfl (fun K hK => ?_) AllReadyH.nil
            go_simp
            skip
            (try go_wp2_with fail)
            refine hK.out _ _ ?hS71 (fun hHeld => ?_)
            case hS71 => (try dsimp only); exact (by obtain ⟨z1, z2, z3, z4, z5, _⟩ := hHeld; exact keep6_set2 z1 z2 z3 z4 z5 hL3)
            clear hK K
            (try simp only [Act.put, List.setIfInBounds_toArray, List.set_cons_zero, List.set_cons_succ])
            refine wpAnyH_ready (rs := [5]) (by kernel_rfl) (by simp) ?_
            refine AllReadyH.cons (o := { dst := none, op := Go.Op.store 4 (Go.Operand.tmp 4) (Go.Operand.tmp 21), type := 0, pos := _, after := #[{ on := 2, ground := Go.Ground.data }, { on := 4, ground := Go.Ground.chain }, { on := 0, ground := Go.Ground.phase }, { on := 1, ground := Go.Ground.phase }, { on := 2, ground := Go.Ground.phase }, { on := 3, ground := Go.Ground.phase }, { on := 4, ground := Go.Ground.phase }], guard := none }) rfl (fun K hK => ?_) AllReadyH.nil
            go_simp
            skip
            (try go_wp2_with fail)
            refine hK.out _ _ ?hS73 (fun hHeld => ?_)
            case hS73 => (try dsimp only); exact (by obtain ⟨z1, z2, z3, z4, z5, _⟩ := hHeld; exact keep6_set3 z1 z2 z3 z4 z5 hL3)
            clear hK K
            (try simp only [Act.put, List.setIfInBounds_toArray, List.set_cons_zero, List.set_cons_succ])
            refine wpAnyH_done (by kernel_rfl) ?_ _
            obtain ⟨z1, z2, z3, z4, z5, z6, _, z8, _, z10, _⟩ := hHeld
            have Z1 := Lib.hid z1
            have Z2 := Lib.hid z2
            have Z3 := Lib.hid z3
            have Z4 := Lib.hid z4
            have Z5 := Lib.hid z5
            clear z1 z2 z3 z5 z6 z8 z10
            go_wp2
            refine ⟨by simp, .inl ⟨_, _, rfl, run_takeDeferred z4, ?_⟩⟩
            have r1 := Boxed.cell ((World.putObj_heap_other (o := .deferred none) (show L ≠ D by omega)).trans Z1.out)
            have r2 := Boxed.cell ((World.putObj_heap_other (o := .deferred none) (show L + 1 ≠ D by omega)).trans Z2.out)
            have r3 := Boxed.cell ((World.putObj_heap_other (o := .deferred none) (show L + 1 + 1 ≠ D by omega)).trans Z3.out)
            exact ⟨.tuple #[.int .i64 (loK (allN es) N), .int .i64 (hiK (allN es) N), .bool (decide (0 < N))], by simp [results, Tryd.results22, go_sem, r1, r2, r3], by rw [HNN.out], HGr.out.trans_below (Z5.out.trans (below_put (B := L) (o' := .deferred none) (by omega) z4)) (by rw [HL.out]; exact Nat.le_refl _)⟩
          case b68_4 =>
            go_simp
            skip
            (try go_wp2_with fail)
            refine hK.out _ _ ?hS74 (fun hHeld => ?_)
            case hS74 => (try dsimp only); exact (by obtain ⟨z1, z2, z3, z4, z5, _⟩ := hHeld; exact keep6_set2 z1 z2 z3 z4 z5 hL3)
            clear hK K
            (try simp only [Act.put, List.setIfInBounds_toArray, List.set_cons_zero, List.set_cons_succ])
            refine wpAnyH_ready (rs := [2]) (by kernel_rfl) (by simp) ?_
            refine AllReadyH.cons (o := { dst := some 21, op := Go.Op.load 4 (Go.Operand.tmp 4), type := 4, pos := _, after := #[], guard := none }) rfl (fun K hK => ?_) AllReadyH.nil
            go_simp
            skip
            (try go_wp2_with fail)
            refine hK.out _ _ ?hS76 (fun hHeld => ?_)
            case hS76 => (try dsimp only); exact hHeld
            clear hK K
            (try simp only [Act.put, List.setIfInBounds_toArray, List.set_cons_zero, List.set_cons_succ])
            refine wpAnyH_ready (rs := [5]) (by kernel_rfl) (by simp) ?_
            refine AllReadyH.cons (o := { dst := none, op := Go.Op.store 4 (Go.Operand.tmp 4) (Go.Operand.tmp 21), type := 0, pos := _, after := #[{ on := 2, ground := Go.Ground.data }, { on := 4, ground := Go.Ground.chain }, { on := 0, ground := Go.Ground.phase }, { on := 1, ground := Go.Ground.phase }, { on := 2, ground := Go.Ground.phase }, { on := 3, ground := Go.Ground.phase }, { on := 4, ground := Go.Ground.phase }], guard := none }) rfl (fun K hK => ?_) AllReadyH.nil
            go_simp
            skip
            (try go_wp2_with fail)
            refine hK.out _ _ ?hS78 (fun hHeld => ?_)
            case hS78 => (try dsimp only); exact (by obtain ⟨z1, z2, z3, z4, z5, _⟩ := hHeld; exact keep6_set3 z1 z2 z3 z4 z5 hL3)
            clear hK K
            (try simp only [Act.put, List.setIfInBounds_toArray, List.set_cons_zero, List.set_cons_succ])
            refine wpAnyH_done (by kernel_rfl) ?_ _
            obtain ⟨z1, z2, z3, z4, z5, z6, _, z8, _, z10, _⟩ := hHeld
            have Z1 := Lib.hid z1
            have Z2 := Lib.hid z2
            have Z3 := Lib.hid z3
            have Z4 := Lib.hid z4
            have Z5 := Lib.hid z5
            clear z1 z2 z3 z5 z6 z8 z10
            go_wp2
            refine ⟨by simp, .inl ⟨_, _, rfl, run_takeDeferred z4, ?_⟩⟩
            have r1 := Boxed.cell ((World.putObj_heap_other (o := .deferred none) (show L ≠ D by omega)).trans Z1.out)
            have r2 := Boxed.cell ((World.putObj_heap_other (o := .deferred none) (show L + 1 ≠ D by omega)).trans Z2.out)
            have r3 := Boxed.cell ((World.putObj_heap_other (o := .deferred none) (show L + 1 + 1 ≠ D by omega)).trans Z3.out)
            exact ⟨.tuple #[.int .i64 (loK (allN es) N), .int .i64 (hiK (allN es) N), .bool (decide (0 < N))], by simp [results, Tryd.results22, go_sem, r1, r2, r3], by rw [HNN.out], HGr.out.trans_below (Z5.out.trans (below_put (B := L) (o' := .deferred none) (by omega) z4)) (by rw [HL.out]; exact Nat.le_refl _)⟩
      case b57_2 =>
        go_simp
        skip
        (try go_wp2_with fail)
        refine hK.out _ _ ?hS79 (fun hHeld => ?_)
        case hS79 => (try dsimp only); exact hHeld
        clear hK K
        (try simp only [Act.put, List.setIfInBounds_toArray, List.set_cons_zero, List.set_cons_succ])
        refine wpAnyH_ready (rs := [1, 3]) (by kernel_rfl) (by simp) ?_
        refine (AllReadyH.cons (o := { dst := some 20, op := Go.Op.load 2 (Go.Operand.tmp 3), type := 2, pos := _, after := #[], guard := none }) rfl (fun K hK => ?b80_1) (AllReadyH.cons (o := { dst := none, op := Go.Op.store 2 (Go.Operand.tmp 2) (Go.Operand.tmp 19), type := 0, pos := _, after := #[{ on := 0, ground := Go.Ground.data }, { on := 0, ground := Go.Ground.phase }, { on := 1, ground := Go.Ground.textOnly Go.Departure.inlinedCapture }, { on := 2, ground := Go.Ground.textOnly Go.Departure.inlinedCapture }], guard := none }) rfl (fun K hK => ?b80_3) AllReadyH.nil))
        case b80_1 =>
          go_simp
          skip
          (try go_wp2_with fail)
          refine hK.out _ _ ?hS81 (fun hHeld => ?_)
          case hS81 => (try dsimp only); exact hHeld
          clear hK K
          (try simp only [Act.put, List.setIfInBounds_toArray, List.set_cons_zero, List.set_cons_succ])
          refine wpAnyH_ready (rs := [3]) (by kernel_rfl) (by simp) ?_
          refine AllReadyH.cons (o := { dst := none, op := Go.Op.store 2 (Go.Operand.tmp 2) (Go.Operand.tmp 19), type := 0, pos := _, after := #[{ on := 0, ground := Go.Ground.data }, { on := 0, ground := Go.Ground.phase }, { on := 1, ground := Go.Ground.textOnly Go.Departure.inlinedCapture }, { on := 2, ground := Go.Ground.textOnly Go.Departure.inlinedCapture }], guard := none }) rfl (fun K hK => ?_) AllReadyH.nil
          go_simp
          skip
          (try go_wp2_with fail)
          refine hK.out _ _ ?hS83 (fun hHeld => ?_)
          case hS83 => (try dsimp only); exact (by obtain ⟨z1, z2, z3, z4, z5, _⟩ := hHeld; exact keep6_set1 z1 z2 z3 z4 z5 hL3)
          clear hK K
          (try simp only [Act.put, List.setIfInBounds_toArray, List.set_cons_zero, List.set_cons_succ])
          refine wpAnyH_ready (rs := [4]) (by kernel_rfl) (by simp) ?_
          refine AllReadyH.cons (o := { dst := none, op := Go.Op.store 2 (Go.Operand.tmp 3) (Go.Operand.tmp 20), type := 0, pos := _, after := #[{ on := 1, ground := Go.Ground.data }, { on := 3, ground := Go.Ground.chain }, { on := 0, ground := Go.Ground.phase }, { on := 1, ground := Go.Ground.phase }, { on := 2, ground := Go.Ground.textOnly Go.Departure.inlinedCapture }, { on := 3, ground := Go.Ground.phase }], guard := none }) rfl (fun K hK => ?_) AllReadyH.nil
          go_simp
          skip
          (try go_wp2_with fail)
          refine hK.out _ _ ?hS85 (fun hHeld => ?_)
          case hS85 => (try dsimp only); exact (by obtain ⟨z1, z2, z3, z4, z5, _⟩ := hHeld; exact keep6_set2 z1 z2 z3 z4 z5 hL3)
          clear hK K
          (try simp only [Act.put, List.setIfInBounds_toArray, List.set_cons_zero, List.set_cons_succ])
          refine wpAnyH_ready (rs := [5]) (by kernel_rfl) (by simp) ?_
          refine AllReadyH.cons (o := { dst := none, op := Go.Op.store 4 (Go.Operand.tmp 4) (Go.Operand.tmp 21), type := 0, pos := _, after := #[{ on := 2, ground := Go.Ground.data }, { on := 4, ground := Go.Ground.chain }, { on := 0, ground := Go.Ground.phase }, { on := 1, ground := Go.Ground.phase }, { on := 2, ground := Go.Ground.phase }, { on := 3, ground := Go.Ground.phase }, { on := 4, ground := Go.Ground.phase }], guard := none }) rfl (fun K hK => ?_) AllReadyH.nil
          go_simp
          skip
          (try go_wp2_with fail)
          refine hK.out _ _ ?hS87 (fun hHeld => ?_)
          case hS87 => (try dsimp only); exact (by obtain ⟨z1, z2, z3, z4, z5, _⟩ := hHeld; exact keep6_set3 z1 z2 z3 z4 z5 hL3)
          clear hK K
          (try simp only [Act.put, List.setIfInBounds_toArray, List.set_cons_zero, List.set_cons_succ])
          refine wpAnyH_done (by kernel_rfl) ?_ _
          obtain ⟨z1, z2, z3, z4, z5, z6, _, z8, _, z10, _⟩ := hHeld
          have Z1 := Lib.hid z1
          have Z2 := Lib.hid z2
          have Z3 := Lib.hid z3
          have Z4 := Lib.hid z4
          have Z5 := Lib.hid z5
          clear z1 z2 z3 z5 z6 z8 z10
          go_wp2
          refine ⟨by simp, .inl ⟨_, _, rfl, run_takeDeferred z4, ?_⟩⟩
          have r1 := Boxed.cell ((World.putObj_heap_other (o := .deferred none) (show L ≠ D by omega)).trans Z1.out)
          have r2 := Boxed.cell ((World.putObj_heap_other (o := .deferred none) (show L + 1 ≠ D by omega)).trans Z2.out)
          have r3 := Boxed.cell ((World.putObj_heap_other (o := .deferred none) (show L + 1 + 1 ≠ D by omega)).trans Z3.out)
          exact ⟨.tuple #[.int .i64 (loK (allN es) N), .int .i64 (hiK (allN es) N), .bool (decide (0 < N))], by simp [results, Tryd.results22, go_sem, r1, r2, r3], by rw [HNN.out], HGr.out.trans_below (Z5.out.trans (below_put (B := L) (o' := .deferred none) (by omega) z4)) (by rw [HL.out]; exact Nat.le_refl _)⟩
        case b80_3 =>
          go_simp
          skip
          (try go_wp2_with fail)
          refine hK.out _ _ ?hS88 (fun hHeld => ?_)
          case hS88 => (try dsimp only); exact (by obtain ⟨z1, z2, z3, z4, z5, _⟩ := hHeld; exact keep6_set1 z1 z2 z3 z4 z5 hL3)
          clear hK K
          (try simp only [Act.put, List.setIfInBounds_toArray, List.set_cons_zero, List.set_cons_succ])
          refine wpAnyH_ready (rs := [1]) (by kernel_rfl) (by simp) ?_
          refine AllReadyH.cons (o := { dst := some 20, op := Go.Op.load 2 (Go.Operand.tmp 3), type := 2, pos := _, after := #[], guard := none }) rfl (fun K hK => ?_) AllReadyH.nil
          go_simp
          skip
          (try go_wp2_with fail)
          refine hK.out _ _ ?hS90 (fun hHeld => ?_)
          case hS90 => (try dsimp only); exact hHeld
          clear hK K
          (try simp only [Act.put, List.setIfInBounds_toArray, List.set_cons_zero, List.set_cons_succ])
          refine wpAnyH_ready (rs := [4]) (by kernel_rfl) (by simp) ?_
          refine AllReadyH.cons (o := { dst := none, op := Go.Op.store 2 (Go.Operand.tmp 3) (Go.Operand.tmp 20), type := 0, pos := _, after := #[{ on := 1, ground := Go.Ground.data }, { on := 3, ground := Go.Ground.chain }, { on := 0, ground := Go.Ground.phase }, { on := 1, ground := Go.Ground.phase }, { on := 2, ground := Go.Ground.textOnly Go.Departure.inlinedCapture }, { on := 3, ground := Go.Ground.phase }], guard := none }) rfl (fun K hK => ?_) AllReadyH.nil
          go_simp
          skip
          (try go_wp2_with fail)
          refine hK.out _ _ ?hS92 (fun hHeld => ?_)
          case hS92 => (try dsimp only); exact (by obtain ⟨z1, z2, z3, z4, z5, _⟩ := hHeld; exact keep6_set2 z1 z2 z3 z4 z5 hL3)
          clear hK K
          (try simp only [Act.put, List.setIfInBounds_toArray, List.set_cons_zero, List.set_cons_succ])
          refine wpAnyH_ready (rs := [5]) (by kernel_rfl) (by simp) ?_
          refine AllReadyH.cons (o := { dst := none, op := Go.Op.store 4 (Go.Operand.tmp 4) (Go.Operand.tmp 21), type := 0, pos := _, after := #[{ on := 2, ground := Go.Ground.data }, { on := 4, ground := Go.Ground.chain }, { on := 0, ground := Go.Ground.phase }, { on := 1, ground := Go.Ground.phase }, { on := 2, ground := Go.Ground.phase }, { on := 3, ground := Go.Ground.phase }, { on := 4, ground := Go.Ground.phase }], guard := none }) rfl (fun K hK => ?_) AllReadyH.nil
          go_simp
          skip
          (try go_wp2_with fail)
          refine hK.out _ _ ?hS94 (fun hHeld => ?_)
          case hS94 => (try dsimp only); exact (by obtain ⟨z1, z2, z3, z4, z5, _⟩ := hHeld; exact keep6_set3 z1 z2 z3 z4 z5 hL3)
          clear hK K
          (try simp only [Act.put, List.setIfInBounds_toArray, List.set_cons_zero, List.set_cons_succ])
          refine wpAnyH_done (by kernel_rfl) ?_ _
          obtain ⟨z1, z2, z3, z4, z5, z6, _, z8, _, z10, _⟩ := hHeld
          have Z1 := Lib.hid z1
          have Z2 := Lib.hid z2
          have Z3 := Lib.hid z3
          have Z4 := Lib.hid z4
          have Z5 := Lib.hid z5
          clear z1 z2 z3 z5 z6 z8 z10
          go_wp2
          refine ⟨by simp, .inl ⟨_, _, rfl, run_takeDeferred z4, ?_⟩⟩
          have r1 := Boxed.cell ((World.putObj_heap_other (o := .deferred none) (show L ≠ D by omega)).trans Z1.out)
          have r2 := Boxed.cell ((World.putObj_heap_other (o := .deferred none) (show L + 1 ≠ D by omega)).trans Z2.out)
          have r3 := Boxed.cell ((World.putObj_heap_other (o := .deferred none) (show L + 1 + 1 ≠ D by omega)).trans Z3.out)
          exact ⟨.tuple #[.int .i64 (loK (allN es) N), .int .i64 (hiK (allN es) N), .bool (decide (0 < N))], by simp [results, Tryd.results22, go_sem, r1, r2, r3], by rw [HNN.out], HGr.out.trans_below (Z5.out.trans (below_put (B := L) (o' := .deferred none) (by omega) z4)) (by rw [HL.out]; exact Nat.le_refl _)⟩
      case b57_3 =>
        go_simp
        skip
        (try go_wp2_with fail)
        refine hK.out _ _ ?hS95 (fun hHeld => ?_)
        case hS95 => (try dsimp only); exact (by obtain ⟨z1, z2, z3, z4, z5, _⟩ := hHeld; exact keep6_set1 z1 z2 z3 z4 z5 hL3)
        clear hK K
        (try simp only [Act.put, List.setIfInBounds_toArray, List.set_cons_zero, List.set_cons_succ])
        refine wpAnyH_ready (rs := [1, 2]) (by kernel_rfl) (by simp) ?_
        refine (AllReadyH.cons (o := { dst := some 20, op := Go.Op.load 2 (Go.Operand.tmp 3), type := 2, pos := _, after := #[], guard := none }) rfl (fun K hK => ?b96_1) (AllReadyH.cons (o := { dst := some 21, op := Go.Op.load 4 (Go.Operand.tmp 4), type := 4, pos := _, after := #[], guard := none }) rfl (fun K hK => ?b96_2) AllReadyH.nil))
        case b96_1 =>
          go_simp
          skip
          (try go_wp2_with fail)
          refine hK.out _ _ ?hS97 (fun hHeld => ?_)
          case hS97 => (try dsimp only); exact hHeld
          clear hK K
          (try simp only [Act.put, List.setIfInBounds_toArray, List.set_cons_zero, List.set_cons_succ])
          refine wpAnyH_ready (rs := [2, 4]) (by kernel_rfl) (by simp) ?_
          refine (AllReadyH.cons (o := { dst := some 21, op := Go.Op.load 4 (Go.Operand.tmp 4), type := 4, pos := _, after := #[], guard := none }) rfl (fun K hK => ?b98_2) (AllReadyH.cons (o := { dst := none, op := Go.Op.store 2 (Go.Operand.tmp 3) (Go.Operand.tmp 20), type := 0, pos := _, after := #[{ on := 1, ground := Go.Ground.data }, { on := 3, ground := Go.Ground.chain }, { on := 0, ground := Go.Ground.phase }, { on := 1, ground := Go.Ground.phase }, { on := 2, ground := Go.Ground.textOnly Go.Departure.inlinedCapture }, { on := 3, ground := Go.Ground.phase }], guard := none }) rfl (fun K hK => ?b98_4) AllReadyH.nil))
          case b98_2 =>
            go_simp
            skip
            (try go_wp2_with fail)
            refine hK.out _ _ ?hS99 (fun hHeld => ?_)
            case hS99 => (try dsimp only); exact hHeld
            clear hK K
            (try simp only [Act.put, List.setIfInBounds_toArray, List.set_cons_zero, List.set_cons_succ])
            refine wpAnyH_ready (rs := [4]) (by kernel_rfl) (by simp) ?_
            refine AllReadyH.cons (o := { dst := none, op := Go.Op.store 2 (Go.Operand.tmp 3) (Go.Operand.tmp 20), type := 0, pos := _, after := #[{ on := 1, ground := Go.Ground.data }, { on := 3, ground := Go.Ground.chain }, { on := 0, ground := Go.Ground.phase }, { on := 1, ground := Go.Ground.phase }, { on := 2, ground := Go.Ground.textOnly Go.Departure.inlinedCapture }, { on := 3, ground := Go.Ground.phase }], guard := none }) rfl (fun K hK => ?_) AllReadyH.nil
            go_simp
            skip
            (try go_wp2_with fail)
            refine hK.out _ _ ?hS101 (fun hHeld => ?_)
            case hS101 => (try dsimp only); exact (by obtain ⟨z1, z2, z3, z4, z5, _⟩ := hHeld; exact keep6_set2 z1 z2 z3 z4 z5 hL3)
            clear hK K
            (try simp only [Act.put, List.setIfInBounds_toArray, List.set_cons_zero, List.set_cons_succ])
            refine wpAnyH_ready (rs := [5]) (by kernel_rfl) (by simp) ?_
            refine AllReadyH.cons (o := { dst := none, op := Go.Op.store 4 (Go.Operand.tmp 4) (Go.Operand.tmp 21), type := 0, pos := _, after := #[{ on := 2, ground := Go.Ground.data }, { on := 4, ground := Go.Ground.chain }, { on := 0, ground := Go.Ground.phase }, { on := 1, ground := Go.Ground.phase }, { on := 2, ground := Go.Ground.phase }, { on := 3, ground := Go.Ground.phase }, { on := 4, ground := Go.Ground.phase }], guard := none }) rfl (fun K hK => ?_) AllReadyH.nil
            go_simp
            skip
            (try go_wp2_with fail)
            refine hK.out _ _ ?hS103 (fun hHeld => ?_)
            case hS103 => (try dsimp only); exact (by obtain ⟨z1, z2, z3, z4, z5, _⟩ := hHeld; exact keep6_set3 z1 z2 z3 z4 z5 hL3)
            clear hK K
            (try simp only [Act.put, List.setIfInBounds_toArray, List.set_cons_zero, List.set_cons_succ])
            refine wpAnyH_done (by kernel_rfl) ?_ _
            obtain ⟨z1, z2, z3, z4, z5, z6, _, z8, _, z10, _⟩ := hHeld
            have Z1 := Lib.hid z1
            have Z2 := Lib.hid z2
            have Z3 := Lib.hid z3
            have Z4 := Lib.hid z4
            have Z5 := Lib.hid z5
            clear z1 z2 z3 z5 z6 z8 z10
            go_wp2
            refine ⟨by simp, .inl ⟨_, _, rfl, run_takeDeferred z4, ?_⟩⟩
            have r1 := Boxed.cell ((World.putObj_heap_other (o := .deferred none) (show L ≠ D by omega)).trans Z1.out)
            have r2 := Boxed.cell ((World.putObj_heap_other (o := .deferred none) (show L + 1 ≠ D by omega)).trans Z2.out)
            have r3 := Boxed.cell ((World.putObj_heap_other (o := .deferred none) (show L + 1 + 1 ≠ D by omega)).trans Z3.out)
            exact ⟨.tuple #[.int .i64 (loK (allN es) N), .int .i64 (hiK (allN es) N), .bool (decide (0 < N))], by simp [results, Tryd.results22, go_sem, r1, r2, r3], by rw [HNN.out], HGr.out.trans_below (Z5.out.trans (below_put (B := L) (o' := .deferred none) (by omega) z4)) (by rw [HL.out]; exact Nat.le_refl _)⟩
          case b98_4 =>
            go_simp
            skip
            (try go_wp2_with fail)
            refine hK.out _ _ ?hS104 (fun hHeld => ?_)
            case hS104 => (try dsimp only); exact (by obtain ⟨z1, z2, z3, z4, z5, _⟩ := hHeld; exact keep6_set2 z1 z2 z3 z4 z5 hL3)
            clear hK K
            (try simp only [Act.put, List.setIfInBounds_toArray, List.set_cons_zero, List.set_cons_succ])
            refine wpAnyH_ready (rs := [2]) (by kernel_rfl) (by simp) ?_
            refine AllReadyH.cons (o := { dst := some 21, op := Go.Op.load 4 (Go.Operand.tmp 4), type := 4, pos := _, after := #[], guard := none }) rfl (fun K hK => ?_) AllReadyH.nil
            go_simp
            skip
            (try go_wp2_with fail)
            refine hK.out _ _ ?hS106 (fun hHeld => ?_)
            case hS106 => (try dsimp only); exact hHeld
            clear hK K
            (try simp only [Act.put, List.setIfInBounds_toArray, List.set_cons_zero, List.set_cons_succ])
            refine wpAnyH_ready (rs := [5]) (by kernel_rfl) (by simp) ?_
            refine AllReadyH.cons (o := { dst := none, op := Go.Op.store 4 (Go.Operand.tmp 4) (Go.Operand.tmp 21), type := 0, pos := _, after := #[{ on := 2, ground := Go.Ground.data }, { on := 4, ground := Go.Ground.chain }, { on := 0, ground := Go.Ground.phase }, { on := 1, ground := Go.Ground.phase }, { on := 2, ground := Go.Ground.phase }, { on := 3, ground := Go.Ground.phase }, { on := 4, ground := Go.Ground.phase }], guard := none }) rfl (fun K hK => ?_) AllReadyH.nil
            go_simp
            skip
            (try go_wp2_with fail)
            refine hK.out _ _ ?hS108 (fun hHeld => ?_)
            case hS108 => (try dsimp only); exact (by obtain ⟨z1, z2, z3, z4, z5, _⟩ := hHeld; exact keep6_set3 z1 z2 z3 z4 z5 hL3)
            clear hK K
            (try simp only [Act.put, List.setIfInBounds_toArray, List.set_cons_zero, List.set_cons_succ])
            refine wpAnyH_done (by kernel_rfl) ?_ _
            obtain ⟨z1, z2, z3, z4, z5, z6, _, z8, _, z10, _⟩ := hHeld
            have Z1 := Lib.hid z1
            have Z2 := Lib.hid z2
            have Z3 := Lib.hid z3
            have Z4 := Lib.hid z4
            have Z5 := Lib.hid z5
            clear z1 z2 z3 z5 z6 z8 z10
            go_wp2
            refine ⟨by simp, .inl ⟨_, _, rfl, run_takeDeferred z4, ?_⟩⟩
            have r1 := Boxed.cell ((World.putObj_heap_other (o := .deferred none) (show L ≠ D by omega)).trans Z1.out)
            have r2 := Boxed.cell ((World.putObj_heap_other (o := .deferred none) (show L + 1 ≠ D by omega)).trans Z2.out)
            have r3 := Boxed.cell ((World.putObj_heap_other (o := .deferred none) (show L + 1 + 1 ≠ D by omega)).trans Z3.out)
            exact ⟨.tuple #[.int .i64 (loK (allN es) N), .int .i64 (hiK (allN es) N), .bool (decide (0 < N))], by simp [results, Tryd.results22, go_sem, r1, r2, r3], by rw [HNN.out], HGr.out.trans_below (Z5.out.trans (below_put (B := L) (o' := .deferred none) (by omega) z4)) (by rw [HL.out]; exact Nat.le_refl _)⟩
        case b96_2 =>
          go_simp
          skip
          (try go_wp2_with fail)
          refine hK.out _ _ ?hS109 (fun hHeld => ?_)
          case hS109 => (try dsimp only); exact hHeld
          clear hK K
          (try simp only [Act.put, List.setIfInBounds_toArray, List.set_cons_zero, List.set_cons_succ])
          refine wpAnyH_ready (rs := [1]) (by kernel_rfl) (by simp) ?_
          refine AllReadyH.cons (o := { dst := some 20, op := Go.Op.load 2 (Go.Operand.tmp 3), type := 2, pos := _, after := #[], guard := none }) rfl (fun K hK => ?_) AllReadyH.nil
          go_simp
          skip
          (try go_wp2_with fail)
          refine hK.out _ _ ?hS111 (fun hHeld => ?_)
          case hS111 => (try dsimp only); exact hHeld
          clear hK K
          (try simp only [Act.put, List.setIfInBounds_toArray, List.set_cons_zero, List.set_cons_succ])
          refine wpAnyH_ready (rs := [4]) (by kernel_rfl) (by simp) ?_
          refine AllReadyH.cons (o := { dst := none, op := Go.Op.store 2 (Go.Operand.tmp 3) (Go.Operand.tmp 20), type := 0, pos := _, after := #[{ on := 1, ground := Go.Ground.data }, { on := 3, ground := Go.Ground.chain }, { on := 0, ground := Go.Ground.phase }, { on := 1, ground := Go.Ground.phase }, { on := 2, ground := Go.Ground.textOnly Go.Departure.inlinedCapture }, { on := 3, ground := Go.Ground.phase }], guard := none }) rfl (fun K hK => ?_) AllReadyH.nil
          go_simp
          skip
          (try go_wp2_with fail)
          refine hK.out _ _ ?hS113 (fun hHeld => ?_)
          case hS113 => (try dsimp only); exact (by obtain ⟨z1, z2, z3, z4, z5, _⟩ := hHeld; exact keep6_set2 z1 z2 z3 z4 z5 hL3)
          clear hK K
          (try simp only [Act.put, List.setIfInBounds_toArray, List.set_cons_zero, List.set_cons_succ])
          refine wpAnyH_ready (rs := [5]) (by kernel_rfl) (by simp) ?_
          refine AllReadyH.cons (o := { dst := none, op := Go.Op.store 4 (Go.Operand.tmp 4) (Go.Operand.tmp 21), type := 0, pos := _, after := #[{ on := 2, ground := Go.Ground.data }, { on := 4, ground := Go.Ground.chain }, { on := 0, ground := Go.Ground.phase }, { on := 1, ground := Go.Ground.phase }, { on := 2, ground := Go.Ground.phase }, { on := 3, ground := Go.Ground.phase }, { on := 4, ground := Go.Ground.phase }], guard := none }) rfl (fun K hK => ?_) AllReadyH.nil
          go_simp
          skip
          (try go_wp2_with fail)
          refine hK.out _ _ ?hS115 (fun hHeld => ?_)
          case hS115 => (try dsimp only); exact (by obtain ⟨z1, z2, z3, z4, z5, _⟩ := hHeld; exact keep6_set3 z1 z2 z3 z4 z5 hL3)
          clear hK K
          (try simp only [Act.put, List.setIfInBounds_toArray, List.set_cons_zero, List.set_cons_succ])
          refine wpAnyH_done (by kernel_rfl) ?_ _
          obtain ⟨z1, z2, z3, z4, z5, z6, _, z8, _, z10, _⟩ := hHeld
          have Z1 := Lib.hid z1
          have Z2 := Lib.hid z2
          have Z3 := Lib.hid z3
          have Z4 := Lib.hid z4
          have Z5 := Lib.hid z5
          clear z1 z2 z3 z5 z6 z8 z10
          go_wp2
          refine ⟨by simp, .inl ⟨_, _, rfl, run_takeDeferred z4, ?_⟩⟩
          have r1 := Boxed.cell ((World.putObj_heap_other (o := .deferred none) (show L ≠ D by omega)).trans Z1.out)
          have r2 := Boxed.cell ((World.putObj_heap_other (o := .deferred none) (show L + 1 ≠ D by omega)).trans Z2.out)
          have r3 := Boxed.cell ((World.putObj_heap_other (o := .deferred none) (show L + 1 + 1 ≠ D by omega)).trans Z3.out)
          exact ⟨.tuple #[.int .i64 (loK (allN es) N), .int .i64 (hiK (allN es) N), .bool (decide (0 < N))], by simp [results, Tryd.results22, go_sem, r1, r2, r3], by rw [HNN.out], HGr.out.trans_below (Z5.out.trans (below_put (B := L) (o' := .deferred none) (by omega) z4)) (by rw [HL.out]; exact Nat.le_refl _)⟩
    case b55_1 =>
      go_simp
      skip
      (try go_wp2_with fail)
      refine hK.out _ _ ?hS116 (fun hHeld => ?_)
      case hS116 => (try dsimp only); exact hHeld
      clear hK K
      (try simp only [Act.put, List.setIfInBounds_toArray, List.set_cons_zero, List.set_cons_succ])
      refine wpAnyH_ready (rs := [0, 2]) (by kernel_rfl) (by simp) ?_
      refine (AllReadyH.cons (o := { dst := some 19, op := Go.Op.load 2 (Go.Operand.tmp 2), type := 2, pos := _, after := #[], guard := none }) rfl (fun K hK => ?b117_0) (AllReadyH.cons (o := { dst := some 21, op := Go.Op.load 4 (Go.Operand.tmp 4), type := 4, pos := _, after := #[], guard := none }) rfl (fun K hK => ?b117_2) AllReadyH.nil))
      case b117_0 =>
        go_simp
        skip
        (try go_wp2_with fail)
        refine hK.out _ _ ?hS118 (fun hHeld => ?_)
        case hS118 => (try dsimp only); exact hHeld
        clear hK K
        (try simp only [Act.put, List.setIfInBounds_toArray, List.set_cons_zero, List.set_cons_succ])
        refine wpAnyH_ready (rs := [2, 3]) (by kernel_rfl) (by simp) ?_
        refine (AllReadyH.cons (o := { dst := some 21, op := Go.Op.load 4 (Go.Operand.tmp 4), type := 4, pos := _, after := #[], guard := none }) rfl (fun K hK => ?b119_2) (AllReadyH.cons (o := { dst := none, op := Go.Op.store 2 (Go.Operand.tmp 2) (Go.Operand.tmp 19), type := 0, pos := _, after := #[{ on := 0, ground := Go.Ground.data }, { on := 0, ground := Go.Ground.phase }, { on := 1, ground := Go.Ground.textOnly Go.Departure.inlinedCapture }, { on := 2, ground := Go.Ground.textOnly Go.Departure.inlinedCapture }], guard := none }) rfl (fun K hK => ?b119_3) AllReadyH.nil))
        case b119_2 =>
          go_simp
          skip
          (try go_wp2_with fail)
          refine hK.out _ _ ?hS120 (fun hHeld => ?_)
          case hS120 => (try dsimp only); exact hHeld
          clear hK K
          (try simp only [Act.put, List.setIfInBounds_toArray, List.set_cons_zero, List.set_cons_succ])
          refine wpAnyH_ready (rs := [3]) (by kernel_rfl) (by simp) ?_
          refine AllReadyH.cons (o := { dst := none, op := Go.Op.store 2 (Go.Operand.tmp 2) (Go.Operand.tmp 19), type := 0, pos := _, after := #[{ on := 0, ground := Go.Ground.data }, { on := 0, ground := Go.Ground.phase }, { on := 1, ground := Go.Ground.textOnly Go.Departure.inlinedCapture }, { on := 2, ground := Go.Ground.textOnly Go.Departure.inlinedCapture }], guard := none }) rfl (fun K hK => ?_) AllReadyH.nil
          go_simp
          skip
          (try go_wp2_with fail)
          refine hK.out _ _ ?hS122 (fun hHeld => ?_)
          case hS122 => (try dsimp only); exact (by obtain ⟨z1, z2, z3, z4, z5, _⟩ := hHeld; exact keep6_set1 z1 z2 z3 z4 z5 hL3)
          clear hK K
          (try simp only [Act.put, List.setIfInBounds_toArray, List.set_cons_zero, List.set_cons_succ])
          refine wpAnyH_ready (rs := [4]) (by kernel_rfl) (by simp) ?_
          refine AllReadyH.cons (o := { dst := none, op := Go.Op.store 2 (Go.Operand.tmp 3) (Go.Operand.tmp 20), type := 0, pos := _, after := #[{ on := 1, ground := Go.Ground.data }, { on := 3, ground := Go.Ground.chain }, { on := 0, ground := Go.Ground.phase }, { on := 1, ground := Go.Ground.phase }, { on := 2, ground := Go.Ground.textOnly Go.Departure.inlinedCapture }, { on := 3, ground := Go.Ground.phase }], guard := none }) rfl (fun K hK => ?_) AllReadyH.nil
          go_simp
          skip
          (try go_wp2_with fail)
          refine hK.out _ _ ?hS124 (fun hHeld => ?_)
          case hS124 => (try dsimp only); exact (by obtain ⟨z1, z2, z3, z4, z5, _⟩ := hHeld; exact keep6_set2 z1 z2 z3 z4 z5 hL3)
          clear hK K
          (try simp only [Act.put, List.setIfInBounds_toArray, List.set_cons_zero, List.set_cons_succ])
          refine wpAnyH_ready (rs := [5]) (by kernel_rfl) (by simp) ?_
          refine AllReadyH.cons (o := { dst := none, op := Go.Op.store 4 (Go.Operand.tmp 4) (Go.Operand.tmp 21), type := 0, pos := _, after := #[{ on := 2, ground := Go.Ground.data }, { on := 4, ground := Go.Ground.chain }, { on := 0, ground := Go.Ground.phase }, { on := 1, ground := Go.Ground.phase }, { on := 2, ground := Go.Ground.phase }, { on := 3, ground := Go.Ground.phase }, { on := 4, ground := Go.Ground.phase }], guard := none }) rfl (fun K hK => ?_) AllReadyH.nil
          go_simp
          skip
          (try go_wp2_with fail)
          refine hK.out _ _ ?hS126 (fun hHeld => ?_)
          case hS126 => (try dsimp only); exact (by obtain ⟨z1, z2, z3, z4, z5, _⟩ := hHeld; exact keep6_set3 z1 z2 z3 z4 z5 hL3)
          clear hK K
          (try simp only [Act.put, List.setIfInBounds_toArray, List.set_cons_zero, List.set_cons_succ])
          refine wpAnyH_done (by kernel_rfl) ?_ _
          obtain ⟨z1, z2, z3, z4, z5, z6, _, z8, _, z10, _⟩ := hHeld
          have Z1 := Lib.hid z1
          have Z2 := Lib.hid z2
          have Z3 := Lib.hid z3
          have Z4 := Lib.hid z4
          have Z5 := Lib.hid z5
          clear z1 z2 z3 z5 z6 z8 z10
          go_wp2
          refine ⟨by simp, .inl ⟨_, _, rfl, run_takeDeferred z4, ?_⟩⟩
          have r1 := Boxed.cell ((World.putObj_heap_other (o := .deferred none) (show L ≠ D by omega)).trans Z1.out)
          have r2 := Boxed.cell ((World.putObj_heap_other (o := .deferred none) (show L + 1 ≠ D by omega)).trans Z2.out)
          have r3 := Boxed.cell ((World.putObj_heap_other (o := .deferred none) (show L + 1 + 1 ≠ D by omega)).trans Z3.out)
          exact ⟨.tuple #[.int .i64 (loK (allN es) N), .int .i64 (hiK (allN es) N), .bool (decide (0 < N))], by simp [results, Tryd.results22, go_sem, r1, r2, r3], by rw [HNN.out], HGr.out.trans_below (Z5.out.trans (below_put (B := L) (o' := .deferred none) (by omega) z4)) (by rw [HL.out]; exact Nat.le_refl _)⟩
        case b119_3 =>
          go_simp
          skip
          (try go_wp2_with fail)
          refine hK.out _ _ ?hS127 (fun hHeld => ?_)
          case hS127 => (try dsimp only); exact (by obtain ⟨z1, z2, z3, z4, z5, _⟩ := hHeld; exact keep6_set1 z1 z2 z3 z4 z5 hL3)
          clear hK K
          (try simp only [Act.put, List.setIfInBounds_toArray, List.set_cons_zero, List.set_cons_succ])
          refine wpAnyH_ready (rs := [2, 4]) (by kernel_rfl) (by simp) ?_
          refine (AllReadyH.cons (o := { dst := some 21, op := Go.Op.load 4 (Go.Operand.tmp 4), type := 4, pos := _, after := #[], guard := none }) rfl (fun K hK => ?b128_2) (AllReadyH.cons (o := { dst := none, op := Go.Op.store 2 (Go.Operand.tmp 3) (Go.Operand.tmp 20), type := 0, pos := _, after := #[{ on := 1, ground := Go.Ground.data }, { on := 3, ground := Go.Ground.chain }, { on := 0, ground := Go.Ground.phase }, { on := 1, ground := Go.Ground.phase }, { on := 2, ground := Go.Ground.textOnly Go.Departure.inlinedCapture }, { on := 3, ground := Go.Ground.phase }], guard := none }) rfl (fun K hK => ?b128_4) AllReadyH.nil))
          case b128_2 =>
            go_simp
            skip
            (try go_wp2_with fail)
            refine hK.out _ _ ?hS129 (fun hHeld => ?_)
            case hS129 => (try dsimp only); exact hHeld
            clear hK K
            (try simp only [Act.put, List.setIfInBounds_toArray, List.set_cons_zero, List.set_cons_succ])
            refine wpAnyH_ready (rs := [4]) (by kernel_rfl) (by simp) ?_
            refine AllReadyH.cons (o := { dst := none, op := Go.Op.store 2 (Go.Operand.tmp 3) (Go.Operand.tmp 20), type := 0, pos := _, after := #[{ on := 1, ground := Go.Ground.data }, { on := 3, ground := Go.Ground.chain }, { on := 0, ground := Go.Ground.phase }, { on := 1, ground := Go.Ground.phase }, { on := 2, ground := Go.Ground.textOnly Go.Departure.inlinedCapture }, { on := 3, ground := Go.Ground.phase }], guard := none }) rfl (fun K hK => ?_) AllReadyH.nil
            go_simp
            skip
            (try go_wp2_with fail)
            refine hK.out _ _ ?hS131 (fun hHeld => ?_)
            case hS131 => (try dsimp only); exact (by obtain ⟨z1, z2, z3, z4, z5, _⟩ := hHeld; exact keep6_set2 z1 z2 z3 z4 z5 hL3)
            clear hK K
            (try simp only [Act.put, List.setIfInBounds_toArray, List.set_cons_zero, List.set_cons_succ])
            refine wpAnyH_ready (rs := [5]) (by kernel_rfl) (by simp) ?_
            refine AllReadyH.cons (o := { dst := none, op := Go.Op.store 4 (Go.Operand.tmp 4) (Go.Operand.tmp 21), type := 0, pos := _, after := #[{ on := 2, ground := Go.Ground.data }, { on := 4, ground := Go.Ground.chain }, { on := 0, ground := Go.Ground.phase }, { on := 1, ground := Go.Ground.phase }, { on := 2, ground := Go.Ground.phase }, { on := 3, ground := Go.Ground.phase }, { on := 4, ground := Go.Ground.phase }], guard := none }) rfl (fun K hK => ?_) AllReadyH.nil
            go_simp
            skip
            (try go_wp2_with fail)
            refine hK.out _ _ ?hS133 (fun hHeld => ?_)
            case hS133 => (try dsimp only); exact (by obtain ⟨z1, z2, z3, z4, z5, _⟩ := hHeld; exact keep6_set3 z1 z2 z3 z4 z5 hL3)
            clear hK K
            (try simp only [Act.put, List.setIfInBounds_toArray, List.set_cons_zero, List.set_cons_succ])
            refine wpAnyH_done (by kernel_rfl) ?_ _
            obtain ⟨z1, z2, z3, z4, z5, z6, _, z8, _, z10, _⟩ := hHeld
            have Z1 := Lib.hid z1
            have Z2 := Lib.hid z2
            have Z3 := Lib.hid z3
            have Z4 := Lib.hid z4
            have Z5 := Lib.hid z5
            clear z1 z2 z3 z5 z6 z8 z10
            go_wp2
            refine ⟨by simp, .inl ⟨_, _, rfl, run_takeDeferred z4, ?_⟩⟩
            have r1 := Boxed.cell ((World.putObj_heap_other (o := .deferred none) (show L ≠ D by omega)).trans Z1.out)
            have r2 := Boxed.cell ((World.putObj_heap_other (o := .deferred none) (show L + 1 ≠ D by omega)).trans Z2.out)
            have r3 := Boxed.cell ((World.putObj_heap_other (o := .deferred none) (show L + 1 + 1 ≠ D by omega)).trans Z3.out)
            exact ⟨.tuple #[.int .i64 (loK (allN es) N), .int .i64 (hiK (allN es) N), .bool (decide (0 < N))], by simp [results, Tryd.results22, go_sem, r1, r2, r3], by rw [HNN.out], HGr.out.trans_below (Z5.out.trans (below_put (B := L) (o' := .deferred none) (by omega) z4)) (by rw [HL.out]; exact Nat.le_refl _)⟩
          case b128_4 =>
            go_simp
            skip
            (try go_wp2_with fail)
            refine hK.out _ _ ?hS134 (fun hHeld => ?_)
            case hS134 => (try dsimp only); exact (by obtain ⟨z1, z2, z3, z4, z5, _⟩ := hHeld; exact keep6_set2 z1 z2 z3 z4 z5 hL3)
            clear hK K
            (try simp only [Act.put, List.setIfInBounds_toArray, List.set_cons_zero, List.set_cons_succ])
            refine wpAnyH_ready (rs := [2]) (by kernel_rfl) (by simp) ?_
            refine AllReadyH.cons (o := { dst := some 21, op := Go.Op.load 4 (Go.Operand.tmp 4), type := 4, pos := _, after := #[], guard := none }) rfl (fun K hK => ?_) AllReadyH.nil
            go_simp
            skip
            (try go_wp2_with fail)
            refine hK.out _ _ ?hS136 (fun hHeld => ?_)
            case hS136 => (try dsimp only); exact hHeld
            clear hK K
            (try simp only [Act.put, List.setIfInBounds_toArray, List.set_cons_zero, List.set_cons_succ])
            refine wpAnyH_ready (rs := [5]) (by kernel_rfl) (by simp) ?_
            refine AllReadyH.cons (o := { dst := none, op := Go.Op.store 4 (Go.Operand.tmp 4) (Go.Operand.tmp 21), type := 0, pos := _, after := #[{ on := 2, ground := Go.Ground.data }, { on := 4, ground := Go.Ground.chain }, { on := 0, ground := Go.Ground.phase }, { on := 1, ground := Go.Ground.phase }, { on := 2, ground := Go.Ground.phase }, { on := 3, ground := Go.Ground.phase }, { on := 4, ground := Go.Ground.phase }], guard := none }) rfl (fun K hK => ?_) AllReadyH.nil
            go_simp
            skip
            (try go_wp2_with fail)
            refine hK.out _ _ ?hS138 (fun hHeld => ?_)
            case hS138 => (try dsimp only); exact (by obtain ⟨z1, z2, z3, z4, z5, _⟩ := hHeld; exact keep6_set3 z1 z2 z3 z4 z5 hL3)
            clear hK K
            (try simp only [Act.put, List.setIfInBounds_toArray, List.set_cons_zero, List.set_cons_succ])
            refine wpAnyH_done (by kernel_rfl) ?_ _
            obtain ⟨z1, z2, z3, z4, z5, z6, _, z8, _, z10, _⟩ := hHeld
            have Z1 := Lib.hid z1
            have Z2 := Lib.hid z2
            have Z3 := Lib.hid z3
            have Z4 := Lib.hid z4
            have Z5 := Lib.hid z5
            clear z1 z2 z3 z5 z6 z8 z10
            go_wp2
            refine ⟨by simp, .inl ⟨_, _, rfl, run_takeDeferred z4, ?_⟩⟩
            have r1 := Boxed.cell ((World.putObj_heap_other (o := .deferred none) (show L ≠ D by omega)).trans Z1.out)
            have r2 := Boxed.cell ((World.putObj_heap_other (o := .deferred none) (show L + 1 ≠ D by omega)).trans Z2.out)
            have r3 := Boxed.cell ((World.putObj_heap_other (o := .deferred none) (show L + 1 + 1 ≠ D by omega)).trans Z3.out)
            exact ⟨.tuple #[.int .i64 (loK (allN es) N), .int .i64 (hiK (allN es) N), .bool (decide (0 < N))], by simp [results, Tryd.results22, go_sem, r1, r2, r3], by rw [HNN.out], HGr.out.trans_below (Z5.out.trans (below_put (B := L) (o' := .deferred none) (by omega) z4)) (by rw [HL.out]; exact Nat.le_refl _)⟩
      case b117_2 =>
        go_simp
        skip
        (try go_wp2_with fail)
        refine hK.out _ _ ?hS139 (fun hHeld => ?_)
        case hS139 => (try dsimp only); exact hHeld
        clear hK K
        (try simp only [Act.put, List.setIfInBounds_toArray, List.set_cons_zero, List.set_cons_succ])
        refine wpAnyH_ready (rs := [0]) (by kernel_rfl) (by simp) ?_
        refine AllReadyH.cons (o := { dst := some 19, op := Go.Op.load 2 (Go.Operand.tmp 2), type := 2, pos := _, after := #[], guard := none }) rfl (fun K hK => ?_) AllReadyH.nil
        go_simp
        skip
        (try go_wp2_with fail)
        refine hK.out _ _ ?hS141 (fun hHeld => ?_)
        case hS141 => (try dsimp only); exact hHeld
        clear hK K
        (try simp only [Act.put, List.setIfInBounds_toArray, List.set_cons_zero, List.set_cons_succ])
        refine wpAnyH_ready (rs := [3]) (by kernel_rfl) (by simp) ?_
        refine AllReadyH.cons (o := { dst := none, op := Go.Op.store 2 (Go.Operand.tmp 2) (Go.Operand.tmp 19), type := 0, pos := _, after := #[{ on := 0, ground := Go.Ground.data }, { on := 0, ground := Go.Ground.phase }, { on := 1, ground := Go.Ground.textOnly Go.Departure.inlinedCapture }, { on := 2, ground := Go.Ground.textOnly Go.Departure.inlinedCapture }], guard := none }) rfl (fun K hK => ?_) AllReadyH.nil
        go_simp
        skip
        (try go_wp2_with fail)
        refine hK.out _ _ ?hS143 (fun hHeld => ?_)
        case hS143 => (try dsimp only); exact (by obtain ⟨z1, z2, z3, z4, z5, _⟩ := hHeld; exact keep6_set1 z1 z2 z3 z4 z5 hL3)
        clear hK K
        (try simp only [Act.put, List.setIfInBounds_toArray, List.set_cons_zero, List.set_cons_succ])
        refine wpAnyH_ready (rs := [4]) (by kernel_rfl) (by simp) ?_
        refine AllReadyH.cons (o := { dst := none, op := Go.Op.store 2 (Go.Operand.tmp 3) (Go.Operand.tmp 20), type := 0, pos := _, after := #[{ on := 1, ground := Go.Ground.data }, { on := 3, ground := Go.Ground.chain }, { on := 0, ground := Go.Ground.phase }, { on := 1, ground := Go.Ground.phase }, { on := 2, ground := Go.Ground.textOnly Go.Departure.inlinedCapture }, { on := 3, ground := Go.Ground.phase }], guard := none }) rfl (fun K hK => ?_) AllReadyH.nil
        go_simp
        skip
        (try go_wp2_with fail)
        refine hK.out _ _ ?hS145 (fun hHeld => ?_)
        case hS145 => (try dsimp only); exact (by obtain ⟨z1, z2, z3, z4, z5, _⟩ := hHeld; exact keep6_set2 z1 z2 z3 z4 z5 hL3)
        clear hK K
        (try simp only [Act.put, List.setIfInBounds_toArray, List.set_cons_zero, List.set_cons_succ])
        refine wpAnyH_ready (rs := [5]) (by kernel_rfl) (by simp) ?_
        refine AllReadyH.cons (o := { dst := none, op := Go.Op.store 4 (Go.Operand.tmp 4) (Go.Operand.tmp 21), type := 0, pos := _, after := #[{ on := 2, ground := Go.Ground.data }, { on := 4, ground := Go.Ground.chain }, { on := 0, ground := Go.Ground.phase }, { on := 1, ground := Go.Ground.phase }, { on := 2, ground := Go.Ground.phase }, { on := 3, ground := Go.Ground.phase }, { on := 4, ground := Go.Ground.phase }], guard := none }) rfl (fun K hK => ?_) AllReadyH.nil
        go_simp
        skip
        (try go_wp2_with fail)
        refine hK.out _ _ ?hS147 (fun hHeld => ?_)
        case hS147 => (try dsimp only); exact (by obtain ⟨z1, z2, z3, z4, z5, _⟩ := hHeld; exact keep6_set3 z1 z2 z3 z4 z5 hL3)
        clear hK K
        (try simp only [Act.put, List.setIfInBounds_toArray, List.set_cons_zero, List.set_cons_succ])
        refine wpAnyH_done (by kernel_rfl) ?_ _
        obtain ⟨z1, z2, z3, z4, z5, z6, _, z8, _, z10, _⟩ := hHeld
        have Z1 := Lib.hid z1
        have Z2 := Lib.hid z2
        have Z3 := Lib.hid z3
        have Z4 := Lib.hid z4
        have Z5 := Lib.hid z5
        clear z1 z2 z3 z5 z6 z8 z10
        go_wp2
        refine ⟨by simp, .inl ⟨_, _, rfl, run_takeDeferred z4, ?_⟩⟩
        have r1 := Boxed.cell ((World.putObj_heap_other (o := .deferred none) (show L ≠ D by omega)).trans Z1.out)
        have r2 := Boxed.cell ((World.putObj_heap_other (o := .deferred none) (show L + 1 ≠ D by omega)).trans Z2.out)
        have r3 := Boxed.cell ((World.putObj_heap_other (o := .deferred none) (show L + 1 + 1 ≠ D by omega)).trans Z3.out)
        exact ⟨.tuple #[.int .i64 (loK (allN es) N), .int .i64 (hiK (allN es) N), .bool (decide (0 < N))], by simp [results, Tryd.results22, go_sem, r1, r2, r3], by rw [HNN.out], HGr.out.trans_below (Z5.out.trans (below_put (B := L) (o' := .deferred none) (by omega) z4)) (by rw [HL.out]; exact Nat.le_refl _)⟩
    case b55_2 =>
      go_simp
      skip
      (try go_wp2_with fail)
      refine hK.out _ _ ?hS148 (fun hHeld => ?_)
      case hS148 => (try dsimp only); exact hHeld
      clear hK K
      (try simp only [Act.put, List.setIfInBounds_toArray, List.set_cons_zero, List.set_cons_succ])
      refine wpAnyH_ready (rs := [0, 1]) (by kernel_rfl) (by simp) ?_
      refine (AllReadyH.cons (o := { dst := some 19, op := Go.Op.load 2 (Go.Operand.tmp 2), type := 2, pos := _, after := #[], guard := none }) rfl (fun K hK => ?b149_0) (AllReadyH.cons (o := { dst := some 20, op := Go.Op.load 2 (Go.Operand.tmp 3), type := 2, pos := _, after := #[], guard := none }) rfl (fun K hK => ?b149_1) AllReadyH.nil))
      case b149_0 =>
        go_simp
        skip
        (try go_wp2_with fail)
        refine hK.out _ _ ?hS150 (fun hHeld => ?_)
        case hS150 => (try dsimp only); exact hHeld
        clear hK K
        (try simp only [Act.put, List.setIfInBounds_toArray, List.set_cons_zero, List.set_cons_succ])
        refine wpAnyH_ready (rs := [1, 3]) (by kernel_rfl) (by simp) ?_
        refine (AllReadyH.cons (o := { dst := some 20, op := Go.Op.load 2 (Go.Operand.tmp 3), type := 2, pos := _, after := #[], guard := none }) rfl (fun K hK => ?b151_1) (AllReadyH.cons (o := { dst := none, op := Go.Op.store 2 (Go.Operand.tmp 2) (Go.Operand.tmp 19), type := 0, pos := _, after := #[{ on := 0, ground := Go.Ground.data }, { on := 0, ground := Go.Ground.phase }, { on := 1, ground := Go.Ground.textOnly Go.Departure.inlinedCapture }, { on := 2, ground := Go.Ground.textOnly Go.Departure.inlinedCapture }], guard := none }) rfl (fun K hK => ?b151_3) AllReadyH.nil))
        case b151_1 =>
          go_simp
          skip
          (try go_wp2_with fail)
          refine hK.out _ _ ?hS152 (fun hHeld => ?_)
          case hS152 => (try dsimp only); exact hHeld
          clear hK K
          (try simp only [Act.put, List.setIfInBounds_toArray, List.set_cons_zero, List.set_cons_succ])
          refine wpAnyH_ready (rs := [3]) (by kernel_rfl) (by simp) ?_
          refine AllReadyH.cons (o := { dst := none, op := Go.Op.store 2 (Go.Operand.tmp 2) (Go.Operand.tmp 19), type := 0, pos := _, after := #[{ on := 0, ground := Go.Ground.data }, { on := 0, ground := Go.Ground.phase }, { on := 1, ground := Go.Ground.textOnly Go.Departure.inlinedCapture }, { on := 2, ground := Go.Ground.textOnly Go.Departure.inlinedCapture }], guard := none }) rfl (fun K hK => ?_) AllReadyH.nil
          go_simp
          skip
          (try go_wp2_with fail)
          refine hK.out _ _ ?hS154 (fun hHeld => ?_)
          case hS154 => (try dsimp only); exact (by obtain ⟨z1, z2, z3, z4, z5, _⟩ := hHeld; exact keep6_set1 z1 z2 z3 z4 z5 hL3)
          clear hK K
          (try simp only [Act.put, List.setIfInBounds_toArray, List.set_cons_zero, List.set_cons_succ])
          refine wpAnyH_ready (rs := [4]) (by kernel_rfl) (by simp) ?_
          refine AllReadyH.cons (o := { dst := none, op := Go.Op.store 2 (Go.Operand.tmp 3) (Go.Operand.tmp 20), type := 0, pos := _, after := #[{ on := 1, ground := Go.Ground.data }, { on := 3, ground := Go.Ground.chain }, { on := 0, ground := Go.Ground.phase }, { on := 1, ground := Go.Ground.phase }, { on := 2, ground := Go.Ground.textOnly Go.Departure.inlinedCapture }, { on := 3, ground := Go.Ground.phase }], guard := none }) rfl (fun K hK => ?_) AllReadyH.nil
          go_simp
          skip
          (try go_wp2_with fail)
          refine hK.out _ _ ?hS156 (fun hHeld => ?_)
          case hS156 => (try dsimp only); exact (by obtain ⟨z1, z2, z3, z4, z5, _⟩ := hHeld; exact keep6_set2 z1 z2 z3 z4 z5 hL3)
          clear hK K
          (try simp only [Act.put, List.setIfInBounds_toArray, List.set_cons_zero, List.set_cons_succ])
          refine wpAnyH_ready (rs := [5]) (by kernel_rfl) (by simp) ?_
          refine AllReadyH.cons (o := { dst := none, op := Go.Op.store 4 (Go.Operand.tmp 4) (Go.Operand.tmp 21), type := 0, pos := _, after := #[{ on := 2, ground := Go.Ground.data }, { on := 4, ground := Go.Ground.chain }, { on := 0, ground := Go.Ground.phase }, { on := 1, ground := Go.Ground.phase }, { on := 2, ground := Go.Ground.phase }, { on := 3, ground := Go.Ground.phase }, { on := 4, ground := Go.Ground.phase }], guard := none }) rfl (fun K hK => ?_) AllReadyH.nil
          go_simp
          skip
          (try go_wp2_with fail)
          refine hK.out _ _ ?hS158 (fun hHeld => ?_)
          case hS158 => (try dsimp only); exact (by obtain ⟨z1, z2, z3, z4, z5, _⟩ := hHeld; exact keep6_set3 z1 z2 z3 z4 z5 hL3)
          clear hK K
          (try simp only [Act.put, List.setIfInBounds_toArray, List.set_cons_zero, List.set_cons_succ])
          refine wpAnyH_done (by kernel_rfl) ?_ _
          obtain ⟨z1, z2, z3, z4, z5, z6, _, z8, _, z10, _⟩ := hHeld
          have Z1 := Lib.hid z1
          have Z2 := Lib.hid z2
          have Z3 := Lib.hid z3
          have Z4 := Lib.hid z4
          have Z5 := Lib.hid z5
          clear z1 z2 z3 z5 z6 z8 z10
          go_wp2
          refine ⟨by simp, .inl ⟨_, _, rfl, run_takeDeferred z4, ?_⟩⟩
          have r1 := Boxed.cell ((World.putObj_heap_other (o := .deferred none) (show L ≠ D by omega)).trans Z1.out)
          have r2 := Boxed.cell ((World.putObj_heap_other (o := .deferred none) (show L + 1 ≠ D by omega)).trans Z2.out)
          have r3 := Boxed.cell ((World.putObj_heap_other (o := .deferred none) (show L + 1 + 1 ≠ D by omega)).trans Z3.out)
          exact ⟨.tuple #[.int .i64 (loK (allN es) N), .int .i64 (hiK (allN es) N), .bool (decide (0 < N))], by simp [results, Tryd.results22, go_sem, r1, r2, r3], by rw [HNN.out], HGr.out.trans_below (Z5.out.trans (below_put (B := L) (o' := .deferred none) (by omega) z4)) (by rw [HL.out]; exact Nat.le_refl _)⟩
        case b151_3 =>
          go_simp
          skip
          (try go_wp2_with fail)
          refine hK.out _ _ ?hS159 (fun hHeld => ?_)
          case hS159 => (try dsimp only); exact (by obtain ⟨z1, z2, z3, z4, z5, _⟩ := hHeld; exact keep6_set1 z1 z2 z3 z4 z5 hL3)
          clear hK K
          (try simp only [Act.put, List.setIfInBounds_toArray, List.set_cons_zero, List.set_cons_succ])
          refine wpAnyH_ready (rs := [1]) (by kernel_rfl) (by simp) ?_
          refine AllReadyH.cons (o := { dst := some 20, op := Go.Op.load 2 (Go.Operand.tmp 3), type := 2, pos := _, after := #[], guard := none }) rfl (fun K hK => ?_) AllReadyH.nil
          go_simp
          skip
          (try go_wp2_with fail)
          refine hK.out _ _ ?hS161 (fun hHeld => ?_)
          case hS161 => (try dsimp only); exact hHeld
          clear hK K
          (try simp only [Act.put, List.setIfInBounds_toArray, List.set_cons_zero, List.set_cons_succ])
          refine wpAnyH_ready (rs := [4]) (by kernel_rfl) (by simp) ?_
          refine AllReadyH.cons (o := { dst := none, op := Go.Op.store 2 (Go.Operand.tmp 3) (Go.Operand.tmp 20), type := 0, pos := _, after := #[{ on := 1, ground := Go.Ground.data }, { on := 3, ground := Go.Ground.chain }, { on := 0, ground := Go.Ground.phase }, { on := 1, ground := Go.Ground.phase }, { on := 2, ground := Go.Ground.textOnly Go.Departure.inlinedCapture }, { on := 3, ground := Go.Ground.phase }], guard := none }) rfl (fun K hK => ?_) AllReadyH.nil
          go_simp
          skip
          (try go_wp2_with fail)
          refine hK.out _ _ ?hS163 (fun hHeld => ?_)
          case hS163 => (try dsimp only); exact (by obtain ⟨z1, z2, z3, z4, z5, _⟩ := hHeld; exact keep6_set2 z1 z2 z3 z4 z5 hL3)
          clear hK K
          (try simp only [Act.put, List.setIfInBounds_toArray, List.set_cons_zero, List.set_cons_succ])
          refine wpAnyH_ready (rs := [5]) (by kernel_rfl) (by simp) ?_
          refine AllReadyH.cons (o := { dst := none, op := Go.Op.store 4 (Go.Operand.tmp 4) (Go.Operand.tmp 21), type := 0, pos := _, after := #[{ on := 2, ground := Go.Ground.data }, { on := 4, ground := Go.Ground.chain }, { on := 0, ground := Go.Ground.phase }, { on := 1, ground := Go.Ground.phase }, { on := 2, ground := Go.Ground.phase }, { on := 3, ground := Go.Ground.phase }, { on := 4, ground := Go.Ground.phase }], guard := none }) rfl (fun K hK => ?_) AllReadyH.nil
          go_simp
          skip
          (try go_wp2_with fail)
          refine hK.out _ _ ?hS165 (fun hHeld => ?_)
          case hS165 => (try dsimp only); exact (by obtain ⟨z1, z2, z3, z4, z5, _⟩ := hHeld; exact keep6_set3 z1 z2 z3 z4 z5 hL3)
          clear hK K
          (try simp only [Act.put, List.setIfInBounds_toArray, List.set_cons_zero, List.set_cons_succ])
          refine wpAnyH_done (by kernel_rfl) ?_ _
          obtain ⟨z1, z2, z3, z4, z5, z6, _, z8, _, z10, _⟩ := hHeld
          have Z1 := Lib.hid z1
          have Z2 := Lib.hid z2
          have Z3 := Lib.hid z3
          have Z4 := Lib.hid z4
          have Z5 := Lib.hid z5
          clear z1 z2 z3 z5 z6 z8 z10
          go_wp2
          refine ⟨by simp, .inl ⟨_, _, rfl, run_takeDeferred z4, ?_⟩⟩
          have r1 := Boxed.cell ((World.putObj_heap_other (o := .deferred none) (show L ≠ D by omega)).trans Z1.out)
          have r2 := Boxed.cell ((World.putObj_heap_other (o := .deferred none) (show L + 1 ≠ D by omega)).trans Z2.out)
          have r3 := Boxed.cell ((World.putObj_heap_other (o := .deferred none) (show L + 1 + 1 ≠ D by omega)).trans Z3.out)
          exact ⟨.tuple #[.int .i64 (loK (allN es) N), .int .i64 (hiK (allN es) N), .bool (decide (0 < N))], by simp [results, Tryd.results22, go_sem, r1, r2, r3], by rw [HNN.out], HGr.out.trans_below (Z5.out.trans (below_put (B := L) (o' := .deferred none) (by omega) z4)) (by rw [HL.out]; exact Nat.le_refl _)⟩
      case b149_1 =>
        go_simp
        skip
        (try go_wp2_with fail)
        refine hK.out _ _ ?hS166 (fun hHeld => ?_)
        case hS166 => (try dsimp only); exact hHeld
        clear hK K
        (try simp only [Act.put, List.setIfInBounds_toArray, List.set_cons_zero, List.set_cons_succ])
        refine wpAnyH_ready (rs := [0]) (by kernel_rfl) (by simp) ?_
        refine AllReadyH.cons (o := { dst := some 19, op := Go.Op.load 2 (Go.Operand.tmp 2), type := 2, pos := _, after := #[], guard := none }) rfl (fun K hK => ?_) AllReadyH.nil
        go_simp
        skip
        (try go_wp2_with fail)
        refine hK.out _ _ ?hS168 (fun hHeld => ?_)
        case hS168 => (try dsimp only); exact hHeld
        clear hK K
        (try simp only [Act.put, List.setIfInBounds_toArray, List.set_cons_zero, List.set_cons_succ])
        refine wpAnyH_ready (rs := [3]) (by kernel_rfl) (by simp) ?_
        refine AllReadyH.cons (o := { dst := none, op := Go.Op.store 2 (Go.Operand.tmp 2) (Go.Operand.tmp 19), type := 0, pos := _, after := #[{ on := 0, ground := Go.Ground.data }, { on := 0, ground := Go.Ground.phase }, { on := 1, ground := Go.Ground.textOnly Go.Departure.inlinedCapture }, { on := 2, ground := Go.Ground.textOnly Go.Departure.inlinedCapture }], guard := none }) rfl (fun K hK => ?_) AllReadyH.nil
        go_simp
        skip
        (try go_wp2_with fail)
        refine hK.out _ _ ?hS170 (fun hHeld => ?_)
        case hS170 => (try dsimp only); exact (by obtain ⟨z1, z2, z3, z4, z5, _⟩ := hHeld; exact keep6_set1 z1 z2 z3 z4 z5 hL3)
        clear hK K
        (try simp only [Act.put, List.setIfInBounds_toArray, List.set_cons_zero, List.set_cons_succ])
        refine wpAnyH_ready (rs := [4]) (by kernel_rfl) (by simp) ?_
        refine AllReadyH.cons (o := { dst := none, op := Go.Op.store 2 (Go.Operand.tmp 3) (Go.Operand.tmp 20), type := 0, pos := _, after := #[{ on := 1, ground := Go.Ground.data }, { on := 3, ground := Go.Ground.chain }, { on := 0, ground := Go.Ground.phase }, { on := 1, ground := Go.Ground.phase }, { on := 2, ground := Go.Ground.textOnly Go.Departure.inlinedCapture }, { on := 3, ground := Go.Ground.phase }], guard := none }) rfl (fun K hK => ?_) AllReadyH.nil
        go_simp
        skip
        (try go_wp2_with fail)
        refine hK.out _ _ ?hS172 (fun hHeld => ?_)
        case hS172 => (try dsimp only); exact (by obtain ⟨z1, z2, z3, z4, z5, _⟩ := hHeld; exact keep6_set2 z1 z2 z3 z4 z5 hL3)
        clear hK K
        (try simp only [Act.put, List.setIfInBounds_toArray, List.set_cons_zero, List.set_cons_succ])
        refine wpAnyH_ready (rs := [5]) (by kernel_rfl) (by simp) ?_
        refine AllReadyH.cons (o := { dst := none, op := Go.Op.store 4 (Go.Operand.tmp 4) (Go.Operand.tmp 21), type := 0, pos := _, after := #[{ on := 2, ground := Go.Ground.data }, { on := 4, ground := Go.Ground.chain }, { on := 0, ground := Go.Ground.phase }, { on := 1, ground := Go.Ground.phase }, { on := 2, ground := Go.Ground.phase }, { on := 3, ground := Go.Ground.phase }, { on := 4, ground := Go.Ground.phase }], guard := none }) rfl (fun K hK => ?_) AllReadyH.nil
        go_simp
        skip
        (try go_wp2_with fail)
        refine hK.out _ _ ?hS174 (fun hHeld => ?_)
        case hS174 => (try dsimp only); exact (by obtain ⟨z1, z2, z3, z4, z5, _⟩ := hHeld; exact keep6_set3 z1 z2 z3 z4 z5 hL3)
        clear hK K
        (try simp only [Act.put, List.setIfInBounds_toArray, List.set_cons_zero, List.set_cons_succ])
        refine wpAnyH_done (by kernel_rfl) ?_ _
        obtain ⟨z1, z2, z3, z4, z5, z6, _, z8, _, z10, _⟩ := hHeld
        have Z1 := Lib.hid z1
        have Z2 := Lib.hid z2
        have Z3 := Lib.hid z3
        have Z4 := Lib.hid z4
        have Z5 := Lib.hid z5
        clear z1 z2 z3 z5 z6 z8 z10
        go_wp2
        refine ⟨by simp, .inl ⟨_, _, rfl, run_takeDeferred z4, ?_⟩⟩
        have r1 := Boxed.cell ((World.putObj_heap_other (o := .deferred none) (show L ≠ D by omega)).trans Z1.out)
        have r2 := Boxed.cell ((World.putObj_heap_other (o := .deferred none) (show L + 1 ≠ D by omega)).trans Z2.out)
        have r3 := Boxed.cell ((World.putObj_heap_other (o := .deferred none) (show L + 1 + 1 ≠ D by omega)).trans Z3.out)
        exact ⟨.tuple #[.int .i64 (loK (allN es) N), .int .i64 (hiK (allN es) N), .bool (decide (0 < N))], by simp [results, Tryd.results22, go_sem, r1, r2, r3], by rw [HNN.out], HGr.out.trans_below (Z5.out.trans (below_put (B := L) (o' := .deferred none) (by omega) z4)) (by rw [HL.out]; exact Nat.le_refl _)⟩
  case stop => exact fun _ _ _ _ h => h.elim
end Go.Proofs.YthdkanmpapioeaaDoor
