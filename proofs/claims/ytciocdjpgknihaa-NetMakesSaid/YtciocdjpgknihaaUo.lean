/- Outer of package mat: the matrix of all products of two columns, or none. Conditions: elements are within the bounds of int64; the columns have at most 2^20 elements. -/
import Derived.Test.YtciocdjpgknihaaUl
namespace Go.Proofs.Ytciocdjpgknihaa
open Go.RowKit Go.Shelf
attribute [local go_sem] Oper.semAt_some

theorem keep_g4 {V W W' : World} {g : Nat} {a b c d : Addr} {x y z u : Value} (k : W.grownBy W' (some g)) (h : V.grownBy W (some g) ∧ W.cell? a = some x ∧ W.cell? b = some y ∧ W.cell? c = some z ∧ W.cell? d = some u) (ha : g ≠ a.block) (hb : g ≠ b.block) (hc : g ≠ c.block) (hd : g ≠ d.block) :
    V.grownBy W' (some g) ∧ W'.cell? a = some x ∧ W'.cell? b = some y ∧ W'.cell? c = some z ∧ W'.cell? d = some u := by
  have key : ∀ (p : Addr) (v : Value), W.cell? p = some v → g ≠ p.block → W'.cell? p = some v := fun p v h hne => by
    have hb := k.block p.block (World.block_lt_of_cell? W p h) (fun e => by injection e with e; exact hne e.symm)
    unfold World.cell? at h ⊢
    rw [hb]
    exact h
  exact ⟨grownBy_trans h.1 k, key _ _ h.2.1 ha, key _ _ h.2.2.1 hb, key _ _ h.2.2.2.1 hc, key _ _ h.2.2.2.2 hd⟩
theorem vscale_n {n : Nat} (s : Option Addr) (c : Nat) (xs : List Int) (a q : Int) (w : World) (hn : xs.length = n) (hx : n ≤ 35184372088832) (rx : Rd w.heap.size w s xs) (fx : Fit xs) (fa : In64 a) :
    Calls Try.prog 63 #[.slice s n c, .int .i64 a, .int .i64 q] w fun e w' => (∃ s' c', e = .returned (.slice s' n c') ∧ Buf w.heap.size w' s' n c' (scV xs a q)) ∧ Grew w w' := by
  subst hn
  exact vscale_any s c xs a q w hx rx fx fa
/-- The blocks that Outer has made first. -/
def OuterIn (w W : World) (ay ax : Option Addr) (R C cy cx : Nat) (q : Int) : Prop :=
  Boxed W w.heap.size 32 (.slice ay R cy) ∧ Boxed W (w.heap.size + 1) 32 (.slice ax C cx) ∧ Boxed W (w.heap.size + 1 + 1) 3 (.int .i64 q) ∧ Three W (w.heap.size + 1 + 1 + 1) 68 (.int .i64 0) (.int .i64 0) (.slice none 0 0) ∧ Grew w W
section
variable {w W W' : World} {ay ax : Option Addr} {R C cy cx D : Nat} {q : Int}
theorem OuterIn.below (h : OuterIn w W ay ax R C cy cx q) (k : Below D W W') (hD : w.heap.size + 1 + 1 + 1 < D) : OuterIn w W' ay ax R C cy cx q :=
  ⟨boxed_below h.1 k (by omega), boxed_below h.2.1 k (by omega), boxed_below h.2.2.1 k (by omega), h.2.2.2.1.below k hD, Grew.trans_below h.2.2.2.2 (k.mono (by omega)) (Nat.le_refl _)⟩
theorem OuterIn.grow (h : OuterIn w W ay ax R C cy cx q) (k : Grew W W') : OuterIn w W' ay ax R C cy cx q := h.below k h.2.2.2.1.lt
theorem OuterIn.grown {g : Nat} (h : OuterIn w W ay ax R C cy cx q) (k : W.grownBy W' (some g)) (hg : w.heap.size + 1 + 1 + 1 < g) : OuterIn w W' ay ax R C cy cx q :=
  h.below (grownBy_below (B := w.heap.size + 1 + 1 + 1 + 1) k hg h.2.2.2.1.lt) (Nat.lt_succ_self _)
end
theorem outer_in (w : World) (ay ax : Option Addr) (R C cy cx : Nat) (q : Int) :
    OuterIn w ((((w.alloc (.cells #[.slice ay R cy] 32)).alloc (.cells #[.slice ax C cx] 32)).alloc (.cells #[.int .i64 q] 3)).alloc (.cells #[.int .i64 0, .int .i64 0, .slice none 0 0] 68)) ay ax R C cy cx q := by
  have h0 := (((Boxed.new w 32 (.slice ay R cy)).alloc (.cells #[.slice ax C cx] 32)).alloc (.cells #[.int .i64 q] 3)).alloc (.cells #[.int .i64 0, .int .i64 0, .slice none 0 0] 68)
  have h1 := ((Boxed.new (w.alloc (.cells #[.slice ay R cy] 32)) 32 (.slice ax C cx)).alloc (.cells #[.int .i64 q] 3)).alloc (.cells #[.int .i64 0, .int .i64 0, .slice none 0 0] 68)
  have h2 := (Boxed.new ((w.alloc (.cells #[.slice ay R cy] 32)).alloc (.cells #[.slice ax C cx] 32)) 3 (.int .i64 q)).alloc (.cells #[.int .i64 0, .int .i64 0, .slice none 0 0] 68)
  have h3 := Three.new (((w.alloc (.cells #[.slice ay R cy] 32)).alloc (.cells #[.slice ax C cx] 32)).alloc (.cells #[.int .i64 q] 3)) 68 (.int .i64 0) (.int .i64 0) (.slice none 0 0)
  rw [World.size_alloc] at h1
  rw [World.size_alloc, World.size_alloc] at h2
  rw [World.size_alloc, World.size_alloc, World.size_alloc] at h3
  exact ⟨h0, h1, h2, h3, ((((Grew.refl w).alloc _).alloc _).alloc _).alloc _⟩

set_option maxRecDepth 100000 in
set_option maxHeartbeats 4000000 in
theorem outer_no {R C : Nat} (ay ax : Option Addr) (cy cx : Nat) (q : Int) (w : World) (hR : R ≤ 1048576) (hC : C ≤ 1048576) (h : newB (R : Int) (C : Int) = false) :
    Calls Try.prog 38 #[.slice ay R cy, .slice ax C cx, .int .i64 q] w fun e w' => e = .returned (.agg #[.int .i64 0, .int .i64 0, .slice none 0 0]) ∧ Grew w w' := by
  have HO := Lib.hid (outer_in w ay ax R C cy cx q)
  have HN := Lib.hid h
  clear h
  refine (callsIn_wide (n := 9)).1 ?_
  refine callsIn_of_wp_marks Try.func38 rfl trivial ?_ rfl
  simp only [Try.ntmps38, List.size_toArray, List.length_cons, List.length_nil, Nat.reduceAdd, Nat.reduceSub, Array.replicate_succ, Array.replicate_zero, List.push_toArray, List.append_toArray, List.nil_append, List.cons_append]
  refine wpIn_wide.2 ?_
  go_wp2_with fail
  generalize (((w.alloc (.cells #[.slice ay R cy] 32)).alloc (.cells #[.slice ax C cx] 32)).alloc (.cells #[.int .i64 q] 3)).alloc (.cells #[.int .i64 0, .int .i64 0, .slice none 0 0] 68) = w0 at *
  refine (new_no (R := (R : Int)) (C := (C : Int)) w0 (by omega) (by omega) HN.out).mono ?_
  rintro e w1 ⟨rfl, g1⟩
  have HO1 := Lib.hid (HO.out.grow g1)
  have hl1 := HO1.out.2.2.2.1.lt
  clear g1
  go_wp2_with fail
  have hgA : Grew w1 ((w1.alloc (.cells #[.int .i64 0, .int .i64 0, .slice none 0 0] 68)).alloc (.cells #[.int .i64 0, .int .i64 0, .slice none 0 0] 68)) := ((Grew.refl w1).alloc _).alloc _
  have HOB := Lib.hid (HO1.out.grow hgA)
  have hm := (Three.new w1 68 (.int .i64 0) (.int .i64 0) (.slice none 0 0)).alloc (.cells #[.int .i64 0, .int .i64 0, .slice none 0 0] 68)
  have hb := Three.new (w1.alloc (.cells #[.int .i64 0, .int .i64 0, .slice none 0 0] 68)) 68 (.int .i64 0) (.int .i64 0) (.slice none 0 0)
  rw [World.size_alloc] at hb
  have hsz : ((w1.alloc (.cells #[.int .i64 0, .int .i64 0, .slice none 0 0] 68)).alloc (.cells #[.int .i64 0, .int .i64 0, .slice none 0 0] 68)).heap.size = w1.heap.size + 1 + 1 := by simp
  have HMM := Lib.hid hm
  have HBT := Lib.hid hb
  have HSZ := Lib.hid hsz
  clear hgA hm hb hsz
  refine (rows_any 0 0 none 0 0 _).mono ?_
  rintro e w2 ⟨rfl, rfl⟩
  rw [World.size_alloc]
  generalize (w1.alloc (.cells #[.int .i64 0, .int .i64 0, .slice none 0 0] 68)).alloc (.cells #[.int .i64 0, .int .i64 0, .slice none 0 0] 68) = W0 at *
  generalize w1.heap.size = M at *
  clear HO1
  go_wp2_with fail
  refine (wpIn_wide (n := 9)).1 (range_closure (F := Fence.wide) (n := 9) rfl (by omega) (gf := 81) (lb := #[.pointer (some ⟨M + 1, 0, none⟩)]) rfl trivial (enters_of Try.func81 (by kernel_rfl) rfl)
    (enc := rowAt 0 0 0) (N := 0) (Kp := Keeps (M + 1)) (keeps_trans _) (keeps_below (by rw [HSZ.out]; omega))
    (rows_none_yields 8 _ HBT.out _) (fun _ => rfl)
    (fun _ W => Hid (Three W M 68 (.int .i64 0) (.int .i64 0) (.slice none 0 0)) ∧ Hid (OuterIn w W ay ax R C cy cx q))
    (fun _ _ => False) ?hI ?hIx ⟨HMM, HOB⟩ ?round ?done ?stop)
  case hI =>
    rintro k W W' ⟨h1, h2⟩ k2
    rw [HSZ.out] at k2
    exact ⟨Lib.hid (h1.out.below k2 (by omega)), Lib.hid (h2.out.below k2 (by omega))⟩
  case round => exact fun l k V _ hk => absurd hk (Nat.not_lt_zero _)
  case hIx => exact fun _ _ _ h _ => h
  case done =>
    rintro D V hD ⟨HMr, HOr⟩ hK
    rw [HSZ.out] at hD
    have m0 := HMr.out.c0
    have m1 := HMr.out.c1
    have m2 := HMr.out.c2
    have t0 := HOr.out.2.2.2.1.c0
    have t1 := HOr.out.2.2.2.1.c1
    have t2 := HOr.out.2.2.2.1.c2
    have f0 := HOr.out.2.2.2.1.f0
    have f1 := HOr.out.2.2.2.1.f1
    have f2 := HOr.out.2.2.2.1.f2
    go_wp2
    have ht := HOr.out.2.2.2.1.all (.int .i64 0) (.int .i64 0) (.slice none 0 0)
    have hg := Grew.three (g := w.heap.size + 1 + 1 + 1) HOr.out.2.2.2.2 (by omega) (.int .i64 0) (.int .i64 0) (.slice none 0 0)
    have hk := (heap_three V (w.heap.size + 1 + 1 + 1) D (.int .i64 0) (.int .i64 0) (.slice none 0 0) (by omega)).trans hK
    generalize ((V.setCell ⟨w.heap.size + 1 + 1 + 1, 0, none⟩ (.int .i64 0)).setCell ⟨w.heap.size + 1 + 1 + 1, 1, none⟩ (.int .i64 0)).setCell ⟨w.heap.size + 1 + 1 + 1, 2, none⟩ (.slice none 0 0) = WE at *
    have HTE : Hid (Three (WE.putObj D (.deferred none)) (w.heap.size + 1 + 1 + 1) 68 (.int .i64 0) (.int .i64 0) (.slice none 0 0)) := Lib.hid ((World.putObj_heap_other (by omega)).trans ht)
    have d0 := HTE.out.c0
    have d1 := HTE.out.c1
    have d2 := HTE.out.c2
    refine ⟨by simp, .inl ⟨_, _, rfl, run_takeDeferred hk, ?_⟩⟩
    exact ⟨.agg #[(.int .i64 0), (.int .i64 0), (.slice none 0 0)], by simp [results, Try.results38, go_sem, d0, d1, d2], rfl, Grew.trans_below hg (below_put (B := w.heap.size) (by omega) hk) (Nat.le_refl _)⟩
  case stop => exact fun _ _ _ _ h => h.elim

theorem newB_of {R C : Nat} (h1 : 1 ≤ R) (h2 : 1 ≤ C) (h3 : R * C ≤ 1048576) : newB (R : Int) (C : Int) = true := by
  unfold newB
  rw [decide_eq_true (by omega), decide_eq_true (by omega), Bool.true_and, Bool.true_and, decide_eq_true_eq, ← Int.natCast_mul]
  omega

set_option linter.unusedSimpArgs false in
set_option maxRecDepth 100000 in
set_option maxHeartbeats 4000000 in
theorem outer_yes {cy cx : Nat} {ay ax : Option Addr} {ys xs : List Int} {q : Int} (w : World) (hR : 1 ≤ ys.length) (hC : 1 ≤ xs.length) (hn : ys.length * xs.length ≤ 1048576)
    (hyr : Rd w.heap.size w ay ys) (hxr : Rd w.heap.size w ax xs) (hyf : Fit ys) (hxf : Fit xs) :
    Calls Try.prog 38 #[.slice ay ys.length cy, .slice ax xs.length cx, .int .i64 q] w fun e w' => (∃ g, e = .returned (.agg #[.int .i64 ys.length, .int .i64 xs.length, .slice (some ⟨g, 0, none⟩) (ys.length * xs.length : Nat) (ys.length * xs.length : Nat)]) ∧ Buf w.heap.size w' (some ⟨g, 0, none⟩) (ys.length * xs.length) (ys.length * xs.length) (outL ys xs q)) ∧ Grew w w' := by
  obtain ⟨R, hRl⟩ : ∃ R, ys.length = R := ⟨_, rfl⟩
  obtain ⟨C, hCl⟩ : ∃ C, xs.length = C := ⟨_, rfl⟩
  obtain ⟨len, hlen⟩ : ∃ len, R * C = len := ⟨_, rfl⟩
  rw [hRl, hCl, hlen] at hn ⊢
  rw [hRl] at hR
  rw [hCl] at hC
  have hRb : R ≤ 1048576 := Nat.le_trans (Nat.le_mul_of_pos_right R hC) (by omega)
  have hCb : C ≤ 1048576 := Nat.le_trans (Nat.le_mul_of_pos_left C hR) (by omega)
  have HO := Lib.hid (outer_in w ay ax R C cy cx q)
  have HYR := Lib.hid hyr
  have HXR := Lib.hid hxr
  have HYF := Lib.hid hyf
  have HXF := Lib.hid hxf
  have HYL := Lib.hid hRl
  have HXL := Lib.hid hCl
  have HL := Lib.hid hlen
  clear hyr hxr hyf hxf hRl hCl hlen
  refine (callsIn_wide (n := 9)).1 ?_
  refine callsIn_of_wp_marks Try.func38 rfl trivial ?_ rfl
  simp only [Try.ntmps38, List.size_toArray, List.length_cons, List.length_nil, Nat.reduceAdd, Nat.reduceSub, Array.replicate_succ, Array.replicate_zero, List.push_toArray, List.append_toArray, List.nil_append, List.cons_append]
  refine wpIn_wide.2 ?_
  go_wp2_with fail
  generalize (((w.alloc (.cells #[.slice ay R cy] 32)).alloc (.cells #[.slice ax C cx] 32)).alloc (.cells #[.int .i64 q] 3)).alloc (.cells #[.int .i64 0, .int .i64 0, .slice none 0 0] 68) = w0 at *
  refine (new_yes w0 HL.out hR hC hn).mono ?_
  rintro e w1 ⟨⟨L, rfl, hb⟩, g1⟩
  obtain ⟨hL1, hL2⟩ := buf_lt hb
  have HBL := Lib.hid (buf_rebase hb)
  have HO1 := Lib.hid (HO.out.grow g1)
  have hl1 := HO1.out.2.2.2.1.lt
  have hl3 := HO.out.2.2.2.1.lt
  clear g1 hb
  go_wp2_with fail
  have hgA : Grew w1 ((w1.alloc (.cells #[.int .i64 R, .int .i64 C, .slice (some ⟨L, 0, none⟩) len len] 68)).alloc (.cells #[.int .i64 R, .int .i64 C, .slice (some ⟨L, 0, none⟩) len len] 68)) := ((Grew.refl w1).alloc _).alloc _
  have HOB := Lib.hid (HO1.out.grow hgA)
  have HBU := Lib.hid (HBL.out.grow hgA)
  have hm := (Three.new w1 68 (.int .i64 R) (.int .i64 C) (.slice (some ⟨L, 0, none⟩) len len)).alloc (.cells #[.int .i64 R, .int .i64 C, .slice (some ⟨L, 0, none⟩) len len] 68)
  have hb := Three.new (w1.alloc (.cells #[.int .i64 R, .int .i64 C, .slice (some ⟨L, 0, none⟩) len len] 68)) 68 (.int .i64 R) (.int .i64 C) (.slice (some ⟨L, 0, none⟩) len len)
  rw [World.size_alloc] at hb
  have hsz : ((w1.alloc (.cells #[.int .i64 R, .int .i64 C, .slice (some ⟨L, 0, none⟩) len len] 68)).alloc (.cells #[.int .i64 R, .int .i64 C, .slice (some ⟨L, 0, none⟩) len len] 68)).heap.size = w1.heap.size + 1 + 1 := by simp
  have HMM := Lib.hid hm
  have HBT := Lib.hid hb
  have HSZ := Lib.hid hsz
  clear hgA hm hb hsz
  refine (rows_any (R : Int) (C : Int) (some ⟨L, 0, none⟩) len len _).mono ?_
  rintro e w2 ⟨rfl, rfl⟩
  rw [World.size_alloc]
  generalize (w1.alloc (.cells #[.int .i64 R, .int .i64 C, .slice (some ⟨L, 0, none⟩) len len] 68)).alloc (.cells #[.int .i64 R, .int .i64 C, .slice (some ⟨L, 0, none⟩) len len] 68) = W0 at *
  generalize w1.heap.size = M at *
  clear HO1 HBL
  go_wp2_with fail
  refine (wpIn_wide (n := 9)).1 (range_closure (F := Fence.wide) (n := 9) rfl (by omega) (gf := 81) (lb := #[.pointer (some ⟨M + 1, 0, none⟩)]) rfl trivial (enters_of Try.func81 (by kernel_rfl) rfl)
    (enc := rowAt L 0 C) (N := R) (Kp := Keeps (M + 1)) (keeps_trans _) (keeps_below (by rw [HSZ.out]; omega))
    (rows_yields 8 (by omega) (by omega) (Nat.le_refl _) (by rw [HL.out]; exact Nat.le_refl _) hC hRb hCb _ HBT.out) (fun _ => rfl)
    (fun k W => k ≤ R ∧ Hid (Buf L W (some ⟨L, 0, none⟩) len len (oN ys xs q k)) ∧ Hid (Three W M 68 (.int .i64 R) (.int .i64 C) (.slice (some ⟨L, 0, none⟩) len len)) ∧ Hid (OuterIn w W ay ax R C cy cx q) ∧ M + 1 < W.heap.size)
    (fun _ _ => False) ?hI ?hIx ⟨Nat.zero_le _, Lib.hid (by have := HBU.out; rw [← HL.out, ← HYL.out, ← HXL.out] at this ⊢; exact this), HMM, HOB, by rw [HSZ.out]; omega⟩ ?round ?done ?stop)
  case hI =>
    rintro k W W' ⟨h1, h2, h3, h4, h5⟩ k2
    have hs := k2.size
    rw [HSZ.out] at k2
    exact ⟨h1, Lib.hid (buf_keptAt h2.out (k2.block _ (by omega))), Lib.hid (h3.out.below k2 (by omega)), Lib.hid (h4.out.below k2 (by omega)), Nat.lt_of_lt_of_le h5 hs⟩
  case round =>
    rintro l r V hi hr
    clear hi
    unfold rowAt
    gi_wp2
    refine ⟨trivial, ?_⟩
    rintro V2 ⟨hr2, HBr, HMr, HOr, hs2⟩
    clear hr2
    have y0 := HOr.out.1.cell
    have x0 := HOr.out.2.1.cell
    have q0 := HOr.out.2.2.1.cell
    have hry : r < ys.length := by rw [HYL.out]; exact hr
    have hgrow := HOr.out.2.2.2.2
    obtain ⟨yb, yo, hay, hyb, hyc⟩ := ((HYR.out.grow hgrow).mono (B' := V2.heap.size) (Nat.le_refl _)).at hry
    have hyb2 : yb < w.heap.size := by
      obtain ⟨b', o', e', hb', _⟩ := HYR.out.at hry
      rw [e'] at hay
      injection hay with hay
      injection hay with h1 h2
      omega
    subst hay
    have HFY := Lib.hid (HYF.out r hry)
    have HGd := Lib.hid (Grew.drew1 hgrow)
    have HBd := Lib.hid (HBr.out.grow (Grew.drew1 (Grew.refl V2)))
    have HSt : Hid (oN ys xs q (r + 1) = layL (oN ys xs q r) (r * C) (scV xs (el ys r) q)) := Lib.hid (by rw [← HXL.out]; rfl)
    have HFit : Hid (r * C + C ≤ len) := Lib.hid (by have := row_end (C := C) hr; rw [Nat.add_mul, Nat.one_mul, HL.out] at this; exact this)
    have hRC : R ≤ 1048576 := hRb
    generalize el ys r = y at *
    clear hgrow
    gi_wp2
    refine wp_round_held_drew (S := (fun W' => V2.grownBy W' (some L) ∧ W'.cell? ⟨w.heap.size, 0, none⟩ = some (.slice (some ⟨yb, yo, none⟩) R cy) ∧ W'.cell? ⟨w.heap.size + 1, 0, none⟩ = some (.slice ax C cx) ∧ W'.cell? ⟨w.heap.size + 1 + 1, 0, none⟩ = some (.int .i64 q) ∧ W'.cell? ⟨yb, yo + r, none⟩ = some (.int .i64 y))) (by kernel_rfl) (by kernel_rfl) (fun h => by obtain ⟨_, _, h⟩ := h; exact h) ⟨(grown_refl V2 _).drew1, y0, x0, q0, hyc⟩ (fun hHeld => ?_)
    refine wpAnyH_take (i := 0) (oi := { dst := some 19, op := Go.Op.move (Go.Operand.tmp 9), type := 32, pos := _, after := #[], guard := none }) (v := ?v1) rfl (by kernel_rfl) (by kernel_rfl) (by kernel_rfl) (fun _ _ _ h => h) (Or.inl ⟨by kernel_rfl, ?hy1⟩) (by assumption) ?_
    case hy1 => intro w hSw; (try dsimp only at hSw); first | (go_simp; done) | (go_simp; with_reducible rfl)
    (try simp only [Act.put, List.setIfInBounds_toArray, List.set_cons_zero, List.set_cons_succ])
    refine wpAnyH_take (i := 1) (oi := { dst := some 20, op := Go.Op.load 32 (Go.Operand.tmp 4), type := 32, pos := _, after := #[], guard := none }) (v := ?v2) rfl (by kernel_rfl) (by kernel_rfl) (by kernel_rfl) (fun _ _ _ h => h) (Or.inl ⟨by kernel_rfl, ?hy2⟩) (by assumption) ?_
    case hy2 => intro w hSw; (try dsimp only at hSw); first | (go_simp; done) | (go_simp; with_reducible rfl)
    (try simp only [Act.put, List.setIfInBounds_toArray, List.set_cons_zero, List.set_cons_succ])
    refine wpAnyH_take (i := 2) (oi := { dst := some 21, op := Go.Op.load 32 (Go.Operand.tmp 3), type := 32, pos := _, after := #[], guard := none }) (v := ?v3) rfl (by kernel_rfl) (by kernel_rfl) (by kernel_rfl) (fun _ _ _ h => h) (Or.inl ⟨by kernel_rfl, ?hy3⟩) (by assumption) ?_
    case hy3 => intro w hSw; (try dsimp only at hSw); first | (go_simp; done) | (go_simp; with_reducible rfl)
    (try simp only [Act.put, List.setIfInBounds_toArray, List.set_cons_zero, List.set_cons_succ])
    refine wpAnyH_take (i := 3) (oi := { dst := some 22, op := Go.Op.move (Go.Operand.tmp 8), type := 3, pos := _, after := #[], guard := none }) (v := ?v4) rfl (by kernel_rfl) (by kernel_rfl) (by kernel_rfl) (fun _ _ _ h => h) (Or.inl ⟨by kernel_rfl, ?hy4⟩) (by assumption) ?_
    case hy4 => intro w hSw; (try dsimp only at hSw); first | (go_simp; done) | (go_simp; with_reducible rfl)
    (try simp only [Act.put, List.setIfInBounds_toArray, List.set_cons_zero, List.set_cons_succ])
    refine wpAnyH_take (i := 4) (oi := { dst := some 23, op := Go.Op.indexAddr 32 (Go.Operand.tmp 21) (Go.Operand.tmp 22), type := 0, pos := _, after := #[{ on := 2, ground := Go.Ground.data }, { on := 3, ground := Go.Ground.data }], guard := none }) (v := ?v5) rfl (by kernel_rfl) (by kernel_rfl) (by kernel_rfl) (fun _ _ _ h => h) (Or.inl ⟨by kernel_rfl, ?hy5⟩) (by assumption) ?_
    case hy5 => intro w hSw; (try dsimp only at hSw); first | (go_simp; done) | (go_simp; with_reducible rfl)
    (try simp only [Act.put, List.setIfInBounds_toArray, List.set_cons_zero, List.set_cons_succ])
    refine wpAnyH_take (i := 5) (oi := { dst := some 24, op := Go.Op.load 2 (Go.Operand.tmp 23), type := 2, pos := _, after := #[{ on := 4, ground := Go.Ground.data }], guard := none }) (v := ?v6) rfl (by kernel_rfl) (by kernel_rfl) (by kernel_rfl) (fun _ _ _ h => h) (Or.inl ⟨by kernel_rfl, ?hy6⟩) (by assumption) ?_
    case hy6 => intro w hSw; (try dsimp only at hSw); first | (go_simp; done) | (go_simp; with_reducible rfl)
    (try simp only [Act.put, List.setIfInBounds_toArray, List.set_cons_zero, List.set_cons_succ])
    refine wpAnyH_take (i := 6) (oi := { dst := some 25, op := Go.Op.load 3 (Go.Operand.tmp 5), type := 3, pos := _, after := #[], guard := none }) (v := ?v7) rfl (by kernel_rfl) (by kernel_rfl) (by kernel_rfl) (fun _ _ _ h => h) (Or.inl ⟨by kernel_rfl, ?hy7⟩) (by assumption) ?_
    case hy7 => intro w hSw; (try dsimp only at hSw); first | (go_simp; done) | (go_simp; with_reducible rfl)
    (try simp only [Act.put, List.setIfInBounds_toArray, List.set_cons_zero, List.set_cons_succ])
    refine wpAnyH_ready (rs := [7]) (by kernel_rfl) (by simp) ?_
    refine AllReadyH.cons (o := { dst := some 26, op := Go.Op.call { callee := Go.Callee.value (Go.Operand.func 63), args := #[Go.Operand.tmp 20, Go.Operand.tmp 24, Go.Operand.tmp 25], argTypes := #[32, 2, 3] }, type := 32, pos := _, after := #[{ on := 1, ground := Go.Ground.data }, { on := 5, ground := Go.Ground.data }, { on := 6, ground := Go.Ground.data }], guard := none }) rfl (fun K hK => ?_) AllReadyH.nil
    go_simp
    (go_at_call 63; refine (vscale_n (n := C) ax cx xs y q _ HXL.out (by omega) (HXR.out.grow HGd.out) HXF.out HFY.out).mono ?_; rintro e w3 ⟨⟨s', c', rfl, hsc⟩, g3⟩; obtain ⟨w4, hcp, hb4, g4⟩ := run_copy_part (c := C) (scap := c') (o := 0 + r * C) (HBd.out.grow g3) hsc.rd ((sc_len _ _ _).trans HXL.out) hC (by rw [Nat.zero_add]; exact HFit.out); rw [Nat.zero_add] at hcp hb4; have HB4 := Lib.hid hb4; have HG3 := Lib.hid g3; have HG4 := Lib.hid g4; clear hb4 hsc g4)
    (try go_wp2_with fail)
    refine hK.out _ _ ?hS9 (fun hHeld => ?_)
    case hS9 => (try dsimp only); exact keep_l4 g3 (by assumption)
    clear hK K
    (try simp only [Act.put, List.setIfInBounds_toArray, List.set_cons_zero, List.set_cons_succ])
    refine wpAnyH_ready (rs := [8]) (by kernel_rfl) (by simp) ?_
    refine AllReadyH.cons (o := { dst := some 27, op := Go.Op.call { callee := Go.Callee.builtin Go.Builtin.copy, args := #[Go.Operand.tmp 19, Go.Operand.tmp 26], argTypes := #[32, 32] }, type := 3, pos := _, after := #[{ on := 0, ground := Go.Ground.data }, { on := 7, ground := Go.Ground.data }, { on := 7, ground := Go.Ground.chain }], guard := none }) rfl (fun K hK => ?_) AllReadyH.nil
    go_simp
    skip
    (try go_wp2_with fail)
    refine hK.out _ _ ?hS11 (fun hHeld => ?_)
    case hS11 => (try dsimp only); exact keep_g4 HG4.out (by assumption) (by show L ≠ w.heap.size; omega) (by show L ≠ w.heap.size + 1; omega) (by show L ≠ w.heap.size + 1 + 1; omega) (by show L ≠ yb; omega)
    clear hK K
    (try simp only [Act.put, List.setIfInBounds_toArray, List.set_cons_zero, List.set_cons_succ])
    refine wpAnyH_done (by kernel_rfl) ?_ _
    obtain ⟨hgr, _⟩ := hHeld
    exact ⟨keeps_others hgr (buf_cells HBr.out), hgr.block _ hs2 (fun e => by injection e with e; omega), by omega, Lib.hid (by rw [HSt.out]; exact HB4.out), Lib.hid (HMr.out.grown hgr (fun e => by injection e with e; omega)), Lib.hid (HOr.out.grown hgr (by omega)), Nat.lt_of_lt_of_le hs2 hgr.size⟩
  case hIx => exact fun _ _ _ h _ => h
  case done =>
    rintro D V hD ⟨hk, HBr, HMr, HOr, hs2⟩ hK
    rw [HSZ.out] at hD
    have m0 := HMr.out.c0
    have m1 := HMr.out.c1
    have m2 := HMr.out.c2
    have t0 := HOr.out.2.2.2.1.c0
    have t1 := HOr.out.2.2.2.1.c1
    have t2 := HOr.out.2.2.2.1.c2
    have f0 := HOr.out.2.2.2.1.f0
    have f1 := HOr.out.2.2.2.1.f1
    have f2 := HOr.out.2.2.2.1.f2
    go_wp2
    have ht := HOr.out.2.2.2.1.all (.int .i64 R) (.int .i64 C) (.slice (some ⟨L, 0, none⟩) len len)
    have hg := Grew.three (g := w.heap.size + 1 + 1 + 1) HOr.out.2.2.2.2 (by omega) (.int .i64 R) (.int .i64 C) (.slice (some ⟨L, 0, none⟩) len len)
    have hk := (heap_three V (w.heap.size + 1 + 1 + 1) D (.int .i64 R) (.int .i64 C) (.slice (some ⟨L, 0, none⟩) len len) (by omega)).trans hK
    have hbu := HBr.out.aside (g := w.heap.size + 1 + 1 + 1) (by omega) (.int .i64 R) (.int .i64 C) (.slice (some ⟨L, 0, none⟩) len len)
    rw [← HYL.out, oN_all] at hbu
    rw [HYL.out] at hbu
    generalize ((V.setCell ⟨w.heap.size + 1 + 1 + 1, 0, none⟩ (.int .i64 R)).setCell ⟨w.heap.size + 1 + 1 + 1, 1, none⟩ (.int .i64 C)).setCell ⟨w.heap.size + 1 + 1 + 1, 2, none⟩ (.slice (some ⟨L, 0, none⟩) len len) = WE at *
    have HTE : Hid (Three (WE.putObj D (.deferred none)) (w.heap.size + 1 + 1 + 1) 68 (.int .i64 R) (.int .i64 C) (.slice (some ⟨L, 0, none⟩) len len)) := Lib.hid ((World.putObj_heap_other (by omega)).trans ht)
    have d0 := HTE.out.c0
    have d1 := HTE.out.c1
    have d2 := HTE.out.c2
    refine ⟨by simp, .inl ⟨_, _, rfl, run_takeDeferred hk, ?_⟩⟩
    exact ⟨.agg #[(.int .i64 R), (.int .i64 C), (.slice (some ⟨L, 0, none⟩) len len)], by simp [results, Try.results38, go_sem, d0, d1, d2], ⟨_, rfl, (buf_keptAt (W' := WE.putObj D (.deferred none)) hbu (World.putObj_heap_other (by omega))).mono (by omega)⟩, Grew.trans_below hg (below_put (B := w.heap.size) (by omega) hk) (Nat.le_refl _)⟩
  case stop => exact fun _ _ _ _ h => h.elim
end Go.Proofs.Ytciocdjpgknihaa
