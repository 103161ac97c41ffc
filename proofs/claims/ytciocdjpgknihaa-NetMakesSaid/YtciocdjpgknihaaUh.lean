/- Mul of package mat: the product of a right matrix with a column, or nothing. Conditions: elements are within the bounds of int64; at most 2^40 of them. -/
import Derived.Test.YtciocdjpgknihaaUg
namespace Go.Proofs.Ytciocdjpgknihaa
open Go.RowKit Go.Shelf
attribute [local go_sem] Oper.semAt_some

theorem buf_keptAt {B g n cap : Nat} {W W' : World} {zs : List Int} (h : Buf B W (some ⟨g, 0, none⟩) n cap zs) (hg : W'.heap[g]? = W.heap[g]?) : Buf B W' (some ⟨g, 0, none⟩) n cap zs := by
  refine ⟨h.1, ?_⟩
  rcases h.2 with ⟨e, _⟩ | ⟨b, c, cur, e, hb, hc, rest⟩
  · cases e
  · injection e with e1 e2 e3
    injection e1 with e1
    injection e1 with e1
    subst e1
    exact .inr ⟨g, c, cur, by rw [e3], hb, hg.trans hc, rest⟩
theorem buf_lt {B g n cap : Nat} {W : World} {zs : List Int} (h : Buf B W (some ⟨g, 0, none⟩) n cap zs) : B ≤ g ∧ g < W.heap.size := by
  rcases h.2 with ⟨e, _⟩ | ⟨b, c, cur, e, hb, hc, rest⟩
  · cases e
  · injection e with e1 e2 e3
    injection e1 with e1
    injection e1 with e1
    subst e1
    refine ⟨hb, ?_⟩
    rcases Nat.lt_or_ge g W.heap.size with h' | h'
    · exact h'
    · rw [Array.getElem?_eq_none h'] at hc; cases hc
theorem buf_cells {B g n cap : Nat} {W : World} {zs : List Int} (h : Buf B W (some ⟨g, 0, none⟩) n cap zs) : ∃ cs t m, W.heap[g]? = some (.cells cs t m) := by
  rcases h.2 with ⟨e, _⟩ | ⟨b, c, cur, e, hb, hc, rest⟩
  · cases e
  · injection e with e1 e2 e3
    injection e1 with e1
    injection e1 with e1
    subst e1
    exact ⟨_, _, _, hc⟩

theorem vdot_n {n : Nat} (a a' : Option Addr) (c c' : Nat) (xs ys : List Int) (q : Int) (w : World) (hx : xs.length = n) (hy : ys.length = n) (hn : n ≤ 35184372088832) (rx : Rd w.heap.size w a xs) (ry : Rd w.heap.size w a' ys) (fx : Fit xs) (fy : Fit ys) :
    Calls Try.prog 44 #[.slice a n c, .slice a' n c', .int .i64 q] w fun e w' => e = .returned (.tuple #[.int .i64 (dotV xs ys q), .bool true]) ∧ Grew w w' := by
  have h := vdot_any a a' c c' xs ys q w (by omega) (by omega) rx ry fx fy
  rw [decide_eq_true (hx.trans hy.symm), hx, hy] at h
  exact h

/-- What Mul has put down after some rows. -/
def mK (zs : List Int) (R C : Nat) (x : List Int) (q : Int) : Nat → List Int
  | 0 => List.replicate R 0
  | k + 1 => (mK zs R C x q k).set k (pS (fun c => el zs (k * C + c)) x q C)
theorem mK_len (zs : List Int) (R C : Nat) (x : List Int) (q : Int) : ∀ k, (mK zs R C x q k).length = R
  | 0 => List.length_replicate
  | k + 1 => by simp only [mK, List.length_set]; exact mK_len zs R C x q k
theorem mK_el (zs : List Int) (R C : Nat) (x : List Int) (q : Int) {j : Nat} : ∀ k, k ≤ R → j < k → el (mK zs R C x q k) j = pS (fun c => el zs (j * C + c)) x q C
  | 0, _, h => absurd h (Nat.not_lt_zero _)
  | k + 1, hk, h => by
    simp only [mK]
    by_cases e : k = j
    · subst e
      exact el_set_same _ (by rw [mK_len]; omega)
    · rw [el_set_other _ e]
      exact mK_el zs R C x q k (by omega) (by omega)
theorem mK_all (zs : List Int) (R C : Nat) (x : List Int) (q : Int) : mK zs R C x q R = mulL zs R C x q :=
  map_ext (mK_len zs R C x q R) (fun _ hj => mK_el zs R C x q R (Nat.le_refl _) hj)
/-- A row can be read where the matrix can. -/
theorem row_rd {B R C r b off : Nat} {W : World} {zs : List Int} (h : Rd B W (some ⟨b, off, none⟩) zs) (hl : zs.length = R * C) (hr : r < R) : Rd B W (some ⟨b, off + r * C, none⟩) (rowL zs C r) := by
  rcases h with rfl | ⟨b', off', e, hb, hc⟩
  · rcases Nat.eq_zero_or_pos C with h0 | h0
    · exact .inl (by subst h0; rfl)
    · have := place_lt hr h0
      rw [← hl] at this
      simp at this
  · injection e with e
    injection e with e1 e2
    subst e1 e2
    refine .inr ⟨b, off + r * C, rfl, hb, fun j hj => ?_⟩
    rw [row_len] at hj
    rw [row_el hj, Nat.add_assoc]
    exact hc _ (by rw [hl]; exact place_lt hr hj)
theorem row_fit {R C r : Nat} {zs : List Int} (h : Fit zs) (hl : zs.length = R * C) (hr : r < R) : Fit (rowL zs C r) := by
  intro j hj
  rw [row_len] at hj
  rw [row_el hj]
  exact h _ (by rw [hl]; exact place_lt hr hj)

set_option maxHeartbeats 1000000 in
theorem mul_no (R C : Int) (a a' : Option Addr) (n cap n' cap' : Nat) (q : Int) (w : World) (h : rightB R C n = false ∨ C ≠ (n' : Int)) :
    Calls Try.prog 70 #[.agg #[.int .i64 R, .int .i64 C, .slice a n cap], .slice a' n' cap', .int .i64 q] w fun e w' => e = .returned (.tuple #[.slice none 0 0, .bool false]) ∧ Grew w w' := by
  have hg : Grew w (((w.alloc (.cells #[.int .i64 R, .int .i64 C, .slice a n cap] 68)).alloc (.cells #[.slice a' n' cap'] 32)).alloc (.cells #[.int .i64 q] 3)) := (((Grew.refl w).alloc _).alloc _).alloc _
  have ht := (Three.new w 68 (.int .i64 R) (.int .i64 C) (.slice a n cap)).alloc (.cells #[.slice a' n' cap'] 32)
  have HT := Lib.hid (ht.alloc (.cells #[.int .i64 q] 3))
  have hx := (Boxed.new (w.alloc (.cells #[.int .i64 R, .int .i64 C, .slice a n cap] 68)) 32 (.slice a' n' cap')).alloc (.cells #[.int .i64 q] 3)
  rw [World.size_alloc] at hx
  have HX := Lib.hid hx
  have HG := Lib.hid hg
  clear hg ht hx
  cases hR : rightB R C n with
  | false =>
    have HR := Lib.hid hR
    clear hR h
    go_enter Try.func70, Try.ntmps70
    go_wp2_with fail
    refine (right_any R C a n cap _).mono ?_
    rintro e w1 ⟨rfl, g1⟩
    rw [HR.out]
    have HG1 := Lib.hid (HG.out.trans g1)
    clear g1
    go_wp2
    go_ret2
    exact ⟨rfl, HG1.out⟩
  | true =>
    have HR := Lib.hid hR
    have hne : ((n' : Int) != C) = true := bne_iff_ne.2 (fun e => by rcases h with h | h; · rw [hR] at h; cases h
                                                                     · exact h e.symm)
    clear hR h
    go_enter Try.func70, Try.ntmps70
    go_wp2_with fail
    refine (right_any R C a n cap _).mono ?_
    rintro e w1 ⟨rfl, g1⟩
    rw [HR.out]
    have HG1 := Lib.hid (HG.out.trans g1)
    have ht := HT.out.grow g1
    have c1 := ht.c1
    have hx1 : Boxed w1 (w.heap.size + 1) 32 (.slice a' n' cap') := (Below.block g1 _ HX.out.lt).trans HX.out
    have x0 := hx1.cell
    clear g1 ht hx1
    go_wp2
    go_ret2
    exact ⟨rfl, HG1.out⟩

theorem _root_.Go.World.grownBy.drew1 {a b : World} {r : Option Nat} (h : a.grownBy b r) : a.grownBy b.drew r := ⟨h.os, h.tape, h.output, h.size, h.block⟩
theorem Grew.drew1 {a b : World} (h : Grew a b) : Grew a b.drew := ⟨h.os, h.tape, h.output, h.size, h.block⟩
theorem keep_s3 {V W : World} {g j : Nat} {a b c : Addr} {x y z v : Value} (h : V.grownBy W (some g) ∧ W.cell? a = some x ∧ W.cell? b = some y ∧ W.cell? c = some z) (ha : g ≠ a.block) (hb : g ≠ b.block) (hc : g ≠ c.block) :
    V.grownBy (W.setCell ⟨g, j, none⟩ v) (some g) ∧ (W.setCell ⟨g, j, none⟩ v).cell? a = some x ∧ (W.setCell ⟨g, j, none⟩ v).cell? b = some y ∧ (W.setCell ⟨g, j, none⟩ v).cell? c = some z :=
  ⟨grownBy_trans h.1 (grownBy_setCell1 W ⟨g, j, none⟩ v), (World.cell?_setCell_far W ⟨g, j, none⟩ a v ha).trans h.2.1, (World.cell?_setCell_far W ⟨g, j, none⟩ b v hb).trans h.2.2.1, (World.cell?_setCell_far W ⟨g, j, none⟩ c v hc).trans h.2.2.2⟩
theorem keep_l3 {V W W' : World} {g : Nat} {a b c : Addr} {x y z : Value} (k : Grew W W') (h : V.grownBy W (some g) ∧ W.cell? a = some x ∧ W.cell? b = some y ∧ W.cell? c = some z) :
    V.grownBy W' (some g) ∧ W'.cell? a = some x ∧ W'.cell? b = some y ∧ W'.cell? c = some z :=
  ⟨grownBy_trans h.1 (Grew.by' k _), (Below.cell k (World.block_lt_of_cell? W a h.2.1)).trans h.2.1, (Below.cell k (World.block_lt_of_cell? W b h.2.2.1)).trans h.2.2.1, (Below.cell k (World.block_lt_of_cell? W c h.2.2.2)).trans h.2.2.2⟩

theorem keeps_others {W W' : World} {g : Nat} (h : W.grownBy W' (some g)) (hc : ∃ cs t m, W.heap[g]? = some (.cells cs t m)) : KeepsOthers W W' :=
  KeepsOthers.of_grownBy h (fun _ o e ho => by
    injection e with e
    subst e
    obtain ⟨cs, t, m, hcs⟩ := hc
    rw [hcs] at ho
    injection ho with ho
    subst ho
    rfl)

set_option linter.unusedSimpArgs false in
set_option maxRecDepth 100000 in
set_option maxHeartbeats 4000000 in
theorem mul_yes {R C b off cap cap' : Nat} {a' : Option Addr} {zs xs : List Int} {q : Int} (w : World) (hz : zs.length = R * C) (hx : xs.length = C) (hR1 : 1 ≤ R) (hR2 : R ≤ 1048576) (hC : 1 ≤ C) (hC2 : C ≤ 1048576) (hcap : cap ≤ 9223372036854775807) (hnc : R * C ≤ cap)
    (hzr : Rd w.heap.size w (some ⟨b, off, none⟩) zs) (hxr : Rd w.heap.size w a' xs) (hzf : Fit zs) (hxf : Fit xs) :
    Calls Try.prog 70 #[.agg #[.int .i64 R, .int .i64 C, .slice (some ⟨b, off, none⟩) (R * C : Nat) cap], .slice a' C cap', .int .i64 q] w fun e w' => (∃ g, e = .returned (.tuple #[.slice (some ⟨g, 0, none⟩) R R, .bool true]) ∧ Buf w.heap.size w' (some ⟨g, 0, none⟩) R R (mulL zs R C xs q)) ∧ Grew w w' := by
  obtain ⟨len, hlen⟩ : ∃ len, R * C = len := ⟨_, rfl⟩
  rw [hlen]
  have hg : Grew w (((w.alloc (.cells #[.int .i64 R, .int .i64 C, .slice (some ⟨b, off, none⟩) len cap] 68)).alloc (.cells #[.slice a' C cap'] 32)).alloc (.cells #[.int .i64 q] 3)) := (((Grew.refl w).alloc _).alloc _).alloc _
  have ht := (Three.new w 68 (.int .i64 R) (.int .i64 C) (.slice (some ⟨b, off, none⟩) len cap)).alloc (.cells #[.slice a' C cap'] 32)
  have HT := Lib.hid (ht.alloc (.cells #[.int .i64 q] 3))
  have hx1 := (Boxed.new (w.alloc (.cells #[.int .i64 R, .int .i64 C, .slice (some ⟨b, off, none⟩) len cap] 68)) 32 (.slice a' C cap')).alloc (.cells #[.int .i64 q] 3)
  have hq1 := Boxed.new ((w.alloc (.cells #[.int .i64 R, .int .i64 C, .slice (some ⟨b, off, none⟩) len cap] 68)).alloc (.cells #[.slice a' C cap'] 32)) 3 (.int .i64 q)
  rw [World.size_alloc] at hx1
  rw [World.size_alloc, World.size_alloc] at hq1
  have HX := Lib.hid hx1
  have HQ := Lib.hid hq1
  have HG := Lib.hid hg
  have HR : Hid (rightB (R : Int) (C : Int) len = true) := Lib.hid (by rw [← hlen]; exact rightB_of hR1 hR2 hC hC2)
  have HZR := Lib.hid hzr
  have HXR := Lib.hid hxr
  have HZF := Lib.hid hzf
  have HXF := Lib.hid hxf
  have HZ := Lib.hid hz
  have HL := Lib.hid hlen
  have HXL := Lib.hid hx
  have hmk := run_make_row' (P := Try.prog) 32 2 (.int .i64 0) 8 Try.underlying32 (by kernel_rfl) rfl .i64 .i64 R (by omega) (by omega)
  have HS0 : Hid ((((w.alloc (.cells #[.int .i64 R, .int .i64 C, .slice (some ⟨b, off, none⟩) len cap] 68)).alloc (.cells #[.slice a' C cap'] 32)).alloc (.cells #[.int .i64 q] 3)).heap.size = w.heap.size + 1 + 1 + 1) := Lib.hid (by simp)
  rw [hlen] at hnc
  clear hg ht hx1 hq1 hzr hxr hzf hxf hz hlen hx
  refine (callsIn_wide (n := 9)).1 ?_
  refine callsIn_of_wp_marks Try.func70 rfl trivial ?_ rfl
  simp only [Try.ntmps70, List.size_toArray, List.length_cons, List.length_nil, Nat.reduceAdd, Nat.reduceSub, Array.replicate_succ, Array.replicate_zero, List.push_toArray, List.append_toArray, List.nil_append, List.cons_append]
  refine wpIn_wide.2 ?_
  go_wp2_with fail
  refine (right_any (R : Int) (C : Int) _ len cap _).mono ?_
  rintro e w1 ⟨rfl, g1⟩
  rw [HR.out]
  have HG1 := Lib.hid (HG.out.trans g1)
  have ht := HT.out.grow g1
  have hx1 : Boxed w1 (w.heap.size + 1) 32 (.slice a' C cap') := (Below.block g1 _ HX.out.lt).trans HX.out
  have hq1 : Boxed w1 (w.heap.size + 1 + 1) 3 (.int .i64 q) := (Below.block g1 _ HQ.out.lt).trans HQ.out
  have hs1 : w.heap.size + 1 + 1 + 1 ≤ w1.heap.size := by rw [← HS0.out]; exact g1.size
  have c0 := ht.c0
  have c1 := ht.c1
  have c2 := ht.c2
  have x0 := hx1.cell
  have q0 := hq1.cell
  have HT1 := Lib.hid ht
  have HX1 := Lib.hid hx1
  have HQ1 := Lib.hid hq1
  have hl0 : w.heap.size < w1.heap.size := by omega
  have hl1 : w.heap.size + 1 < w1.heap.size := by omega
  clear g1 ht hx1 hq1
  have hcne : ((C : Int) != (C : Int)) = false := bne_self_eq_false _
  go_wp2_with fail
  have hgA : Grew w1 ((w1.alloc (.cells (madeCells #[.int .i64 0] R) 2)).alloc (.cells #[.slice (some ⟨w1.heap.size, 0, none⟩) R R] 32)) := ((Grew.refl w1).alloc _).alloc _
  have hgB := Grew.alloc hgA (.cells #[.int .i64 R, .int .i64 C, .slice (some ⟨b, off, none⟩) len cap] 68)
  have HGB := Lib.hid (HG1.out.trans hgB)
  have hbu := (Buf.made w1 R (by omega)).grow (((Grew.refl (w1.alloc (.cells (madeCells #[.int .i64 0] R) 2))).alloc (.cells #[.slice (some ⟨w1.heap.size, 0, none⟩) R R] 32)).alloc (.cells #[.int .i64 R, .int .i64 C, .slice (some ⟨b, off, none⟩) len cap] 68))
  have hbl := (Boxed.new (w1.alloc (.cells (madeCells #[.int .i64 0] R) 2)) 32 (.slice (some ⟨w1.heap.size, 0, none⟩) R R)).alloc (.cells #[.int .i64 R, .int .i64 C, .slice (some ⟨b, off, none⟩) len cap] 68)
  have hbt := Three.new ((w1.alloc (.cells (madeCells #[.int .i64 0] R) 2)).alloc (.cells #[.slice (some ⟨w1.heap.size, 0, none⟩) R R] 32)) 68 (.int .i64 R) (.int .i64 C) (.slice (some ⟨b, off, none⟩) len cap)
  have hsz : (((w1.alloc (.cells (madeCells #[.int .i64 0] R) 2)).alloc (.cells #[.slice (some ⟨w1.heap.size, 0, none⟩) R R] 32)).alloc (.cells #[.int .i64 R, .int .i64 C, .slice (some ⟨b, off, none⟩) len cap] 68)).heap.size = w1.heap.size + 1 + 1 + 1 := by simp
  rw [World.size_alloc] at hbl
  rw [World.size_alloc, World.size_alloc] at hbt
  have HBU := Lib.hid hbu
  have HBL := Lib.hid hbl
  have HBT := Lib.hid hbt
  have HSZ := Lib.hid hsz
  have HX2 := Lib.hid (boxed_below HX1.out hgB (by omega))
  have HQ2 := Lib.hid (boxed_below HQ1.out hgB (by omega))
  clear hgA hgB hbu hbl hbt hsz c0 c1 c2 x0 q0 hmk hl0 hl1
  refine (rows_any (R : Int) (C : Int) _ len cap _).mono ?_
  rintro e w2 ⟨rfl, rfl⟩
  rw [World.size_alloc, World.size_alloc]
  generalize ((w1.alloc (.cells (madeCells #[.int .i64 0] R) 2)).alloc (.cells #[.slice (some ⟨w1.heap.size, 0, none⟩) R R] 32)).alloc (.cells #[.int .i64 R, .int .i64 C, .slice (some ⟨b, off, none⟩) len cap] 68) = W0 at *
  generalize w1.heap.size = L at *
  clear HG1 HT1 HX1 HQ1
  go_wp2_with fail
  refine (wpIn_wide (n := 9)).1 (range_closure (F := Fence.wide) (n := 9) rfl (by omega) (gf := 81) (lb := #[.pointer (some ⟨L + 1 + 1, 0, none⟩)]) rfl trivial (enters_of Try.func81 (by kernel_rfl) rfl)
    (enc := rowAt b off C) (N := R) (Kp := Keeps (L + 1 + 1)) (keeps_trans _) (keeps_below (by rw [HSZ.out]; omega))
    (rows_yields 8 (by omega) hcap hnc (by rw [HL.out]; exact Nat.le_refl _) hC hR2 hC2 _ HBT.out) (fun _ => rfl)
    (fun k W => k ≤ R ∧ Hid (Buf L W (some ⟨L, 0, none⟩) R R (mK zs R C xs q k)) ∧ Hid (Boxed W (L + 1) 32 (.slice (some ⟨L, 0, none⟩) R R)) ∧ Hid (Boxed W (w.heap.size + 1) 32 (.slice a' C cap')) ∧ Hid (Boxed W (w.heap.size + 1 + 1) 3 (.int .i64 q)) ∧ Hid (Grew w W) ∧ L + 1 + 1 < W.heap.size)
    (fun _ _ => False) ?hI ?hIx ⟨Nat.zero_le _, HBU, HBL, HX2, HQ2, HGB, by rw [HSZ.out]; omega⟩ ?round ?done ?stop)
  case hI =>
    rintro k W W' ⟨h1, h2, h3, h4, h5, h6, h7⟩ k2
    have hs := k2.size
    rw [HSZ.out] at k2
    exact ⟨h1, Lib.hid (buf_keptAt h2.out (k2.block _ (by omega))), Lib.hid (boxed_below h3.out k2 (by omega)), Lib.hid (boxed_below h4.out k2 (by omega)), Lib.hid (boxed_below h5.out k2 (by omega)), Lib.hid (Grew.trans_below h6.out (k2.mono (by omega)) (Nat.le_refl _)), Nat.lt_of_lt_of_le h7 hs⟩
  case hIx => exact fun _ _ _ h _ => h
  case round =>
    rintro l r V hi hr
    clear hi
    unfold rowAt
    gi_wp2
    refine ⟨trivial, ?_⟩
    rintro V2 ⟨hr2, HBr, HLr, HXr, HQr, HGr, hs2⟩
    clear hr2
    have l0 := HLr.out.cell
    have x0 := HXr.out.cell
    have q0 := HQr.out.cell
    gi_wp2
    have HD := Lib.hid (dot_row zs xs C r q HXL.out)
    have HM : Hid (mK zs R C xs q (r + 1) = (mK zs R C xs q r).set r (pS (fun c => el zs (r * C + c)) xs q C)) := Lib.hid rfl
    have HGd := Lib.hid (Grew.drew1 HGr.out)
    have HBd := Lib.hid (HBr.out.grow (Grew.drew1 (Grew.refl V2)))
    generalize pS (fun c => el zs (r * C + c)) xs q C = d at *
    refine wp_round_held_drew (S := (fun W' => V2.grownBy W' (some L) ∧ W'.cell? ⟨L + 1, 0, none⟩ = some (.slice (some ⟨L, 0, none⟩) R R) ∧ W'.cell? ⟨w.heap.size + 1, 0, none⟩ = some (.slice a' C cap') ∧ W'.cell? ⟨w.heap.size + 1 + 1, 0, none⟩ = some (.int .i64 q))) (by kernel_rfl) (by kernel_rfl) (fun h => by obtain ⟨_, _, h⟩ := h; exact h) ⟨(grown_refl V2 _).drew1, l0, x0, q0⟩ (fun hHeld => ?_)
    refine wpAnyH_take (i := 0) (oi := { dst := some 29, op := Go.Op.load 32 (Go.Operand.tmp 8), type := 32, pos := _, after := #[], guard := none }) (v := ?v1) rfl (by kernel_rfl) (by kernel_rfl) (by kernel_rfl) (fun _ _ _ h => h) (Or.inl ⟨by kernel_rfl, ?hy1⟩) (by assumption) ?_
    case hy1 => intro w hSw; (try dsimp only at hSw); first | (go_simp; done) | (go_simp; with_reducible rfl)
    (try simp only [Act.put, List.setIfInBounds_toArray, List.set_cons_zero, List.set_cons_succ])
    refine wpAnyH_take (i := 1) (oi := { dst := some 30, op := Go.Op.move (Go.Operand.tmp 9), type := 3, pos := _, after := #[], guard := none }) (v := ?v2) rfl (by kernel_rfl) (by kernel_rfl) (by kernel_rfl) (fun _ _ _ h => h) (Or.inl ⟨by kernel_rfl, ?hy2⟩) (by assumption) ?_
    case hy2 => intro w hSw; (try dsimp only at hSw); first | (go_simp; done) | (go_simp; with_reducible rfl)
    (try simp only [Act.put, List.setIfInBounds_toArray, List.set_cons_zero, List.set_cons_succ])
    refine wpAnyH_take (i := 2) (oi := { dst := some 31, op := Go.Op.move (Go.Operand.tmp 10), type := 32, pos := _, after := #[], guard := none }) (v := ?v3) rfl (by kernel_rfl) (by kernel_rfl) (by kernel_rfl) (fun _ _ _ h => h) (Or.inl ⟨by kernel_rfl, ?hy3⟩) (by assumption) ?_
    case hy3 => intro w hSw; (try dsimp only at hSw); first | (go_simp; done) | (go_simp; with_reducible rfl)
    (try simp only [Act.put, List.setIfInBounds_toArray, List.set_cons_zero, List.set_cons_succ])
    refine wpAnyH_take (i := 3) (oi := { dst := some 32, op := Go.Op.load 32 (Go.Operand.tmp 4), type := 32, pos := _, after := #[], guard := none }) (v := ?v4) rfl (by kernel_rfl) (by kernel_rfl) (by kernel_rfl) (fun _ _ _ h => h) (Or.inl ⟨by kernel_rfl, ?hy4⟩) (by assumption) ?_
    case hy4 => intro w hSw; (try dsimp only at hSw); first | (go_simp; done) | (go_simp; with_reducible rfl)
    (try simp only [Act.put, List.setIfInBounds_toArray, List.set_cons_zero, List.set_cons_succ])
    refine wpAnyH_take (i := 4) (oi := { dst := some 33, op := Go.Op.load 3 (Go.Operand.tmp 5), type := 3, pos := _, after := #[], guard := none }) (v := ?v5) rfl (by kernel_rfl) (by kernel_rfl) (by kernel_rfl) (fun _ _ _ h => h) (Or.inl ⟨by kernel_rfl, ?hy5⟩) (by assumption) ?_
    case hy5 => intro w hSw; (try dsimp only at hSw); first | (go_simp; done) | (go_simp; with_reducible rfl)
    (try simp only [Act.put, List.setIfInBounds_toArray, List.set_cons_zero, List.set_cons_succ])
    refine wpAnyH_ready (rs := [5]) (by kernel_rfl) (by simp) ?_
    refine AllReadyH.cons (o := { dst := some 34, op := Go.Op.call { callee := Go.Callee.value (Go.Operand.func 44), args := #[Go.Operand.tmp 31, Go.Operand.tmp 32, Go.Operand.tmp 33], argTypes := #[32, 32, 3] }, type := 46, pos := _, after := #[{ on := 2, ground := Go.Ground.data }, { on := 3, ground := Go.Ground.data }, { on := 4, ground := Go.Ground.data }], guard := none }) rfl (fun K hK => ?_) AllReadyH.nil
    go_simp
    (go_at_call 44; refine (vdot_n (n := C) _ a' C cap' (rowL zs C r) xs q _ (row_len _ _ _) HXL.out (by omega) (row_rd (HZR.out.grow HGd.out) HZ.out hr) (HXR.out.grow HGd.out) (row_fit HZF.out HZ.out hr) HXF.out).mono ?_; rintro e w3 ⟨rfl, g3⟩; rw [HD.out]; have hb3 := HBd.out.grow g3; obtain ⟨gx, ex, _, _, hcL, hfL⟩ := hb3.at hr; obtain rfl : L = gx := (by injection ex with ex; injection ex); have HB3 := Lib.hid hb3; have HG3 := Lib.hid (HGd.out.trans g3); clear ex hb3)
    (try go_wp2_with fail)
    refine hK.out _ _ ?hS7 (fun hHeld => ?_)
    case hS7 => (try dsimp only); exact keep_l3 g3 (by assumption)
    clear hK K
    (try simp only [Act.put, List.setIfInBounds_toArray, List.set_cons_zero, List.set_cons_succ])
    refine wpAnyH_take (i := 6) (oi := { dst := some 28, op := Go.Op.move (Go.Operand.tmp 34), type := 46, pos := _, after := #[{ on := 5, ground := Go.Ground.data }], guard := none }) (v := ?v8) rfl (by kernel_rfl) (by kernel_rfl) (by kernel_rfl) (fun _ _ _ h => h) (Or.inl ⟨by kernel_rfl, ?hy8⟩) (by assumption) ?_
    case hy8 => intro w hSw; (try dsimp only at hSw); first | (go_simp; done) | (go_simp; with_reducible rfl)
    (try simp only [Act.put, List.setIfInBounds_toArray, List.set_cons_zero, List.set_cons_succ])
    refine wpAnyH_take (i := 7) (oi := { dst := some 35, op := Go.Op.extract (Go.Operand.tmp 28) 0, type := 2, pos := _, after := #[{ on := 6, ground := Go.Ground.data }], guard := none }) (v := ?v9) rfl (by kernel_rfl) (by kernel_rfl) (by kernel_rfl) (fun _ _ _ h => h) (Or.inl ⟨by kernel_rfl, ?hy9⟩) (by assumption) ?_
    case hy9 => intro w hSw; (try dsimp only at hSw); first | (go_simp; done) | (go_simp; with_reducible rfl)
    (try simp only [Act.put, List.setIfInBounds_toArray, List.set_cons_zero, List.set_cons_succ])
    refine wpAnyH_take (i := 8) (oi := { dst := some 36, op := Go.Op.extract (Go.Operand.tmp 28) 1, type := 4, pos := _, after := #[{ on := 6, ground := Go.Ground.data }, { on := 10, ground := Go.Ground.gcOnly Go.Departure.lateStores }], guard := none }) (v := ?v10) rfl (by kernel_rfl) (by kernel_rfl) (by kernel_rfl) (fun _ _ _ h => h) (Or.inl ⟨by kernel_rfl, ?hy10⟩) (by assumption) ?_
    case hy10 => intro w hSw; (try dsimp only at hSw); first | (go_simp; done) | (go_simp; with_reducible rfl)
    (try simp only [Act.put, List.setIfInBounds_toArray, List.set_cons_zero, List.set_cons_succ])
    refine wpAnyH_take (i := 9) (oi := { dst := some 37, op := Go.Op.indexAddr 32 (Go.Operand.tmp 29) (Go.Operand.tmp 30), type := 0, pos := _, after := #[{ on := 0, ground := Go.Ground.data }, { on := 1, ground := Go.Ground.data }, { on := 0, ground := Go.Ground.phase }, { on := 1, ground := Go.Ground.phase }, { on := 2, ground := Go.Ground.phase }, { on := 3, ground := Go.Ground.phase }, { on := 4, ground := Go.Ground.phase }, { on := 5, ground := Go.Ground.phase }, { on := 6, ground := Go.Ground.phase }, { on := 7, ground := Go.Ground.phase }, { on := 8, ground := Go.Ground.textOnly Go.Departure.lateStores }], guard := none }) (v := ?v11) rfl (by kernel_rfl) (by kernel_rfl) (by kernel_rfl) (fun _ _ _ h => h) (Or.inl ⟨by kernel_rfl, ?hy11⟩) (by assumption) ?_
    case hy11 => intro w hSw; (try dsimp only at hSw); first | (go_simp; done) | (go_simp; with_reducible rfl)
    (try simp only [Act.put, List.setIfInBounds_toArray, List.set_cons_zero, List.set_cons_succ])
    refine wpAnyH_ready (rs := [10]) (by kernel_rfl) (by simp) ?_
    refine AllReadyH.cons (o := { dst := none, op := Go.Op.store 2 (Go.Operand.tmp 37) (Go.Operand.tmp 35), type := 0, pos := _, after := #[{ on := 9, ground := Go.Ground.data }, { on := 7, ground := Go.Ground.data }, { on := 5, ground := Go.Ground.chain }, { on := 0, ground := Go.Ground.phase }, { on := 1, ground := Go.Ground.phase }, { on := 2, ground := Go.Ground.phase }, { on := 3, ground := Go.Ground.phase }, { on := 4, ground := Go.Ground.phase }, { on := 5, ground := Go.Ground.phase }, { on := 6, ground := Go.Ground.phase }, { on := 7, ground := Go.Ground.phase }, { on := 8, ground := Go.Ground.textOnly Go.Departure.lateStores }], guard := none }) rfl (fun K hK => ?_) AllReadyH.nil
    go_simp
    skip
    (try go_wp2_with fail)
    refine hK.out _ _ ?hS13 (fun hHeld => ?_)
    case hS13 => (try dsimp only); exact keep_s3 (by assumption) (by show L ≠ L + 1; omega) (by show L ≠ w.heap.size + 1; omega) (by show L ≠ w.heap.size + 1 + 1; omega)
    clear hK K
    (try simp only [Act.put, List.setIfInBounds_toArray, List.set_cons_zero, List.set_cons_succ])
    refine wpAnyH_done (by kernel_rfl) ?_ _
    obtain ⟨hgr, _, _, _⟩ := hHeld
    exact ⟨keeps_others hgr (buf_cells HBr.out), hgr.block _ hs2 (fun e => by injection e with e; omega), by omega, Lib.hid (by rw [HM.out]; exact HB3.out.set r d), Lib.hid (boxed_grown HLr.out hgr (by omega)), Lib.hid (boxed_grown HXr.out hgr (by omega)), Lib.hid (boxed_grown HQr.out hgr (by omega)),
      Lib.hid (HG3.out.setCell (p := ⟨L, r, none⟩) (by show w.heap.size ≤ L; omega) (.int .i64 d)), Nat.lt_of_lt_of_le hs2 hgr.size⟩
  case done =>
    rintro D V hD ⟨hk, HBr, HLr, HXr, HQr, HGr, hs2⟩ hK
    have l0 := HLr.out.cell
    go_wp2
    refine ⟨by simp, .inl ⟨_, _, rfl, run_takeDeferred hK, ?_⟩⟩
    have hb : Grew w (V.putObj D (.deferred none)) := Grew.trans_below HGr.out (below_put (B := w.heap.size) (by rw [HSZ.out] at hD; omega) hK) (Nat.le_refl _)
    have hbu := buf_keptAt (W' := V.putObj D (.deferred none)) HBr.out (World.putObj_heap_other (by rw [HSZ.out] at hD; omega))
    rw [mK_all] at hbu
    exact ⟨.tuple #[.slice (some ⟨L, 0, none⟩) R R, .bool true], by simp [results, Try.results70, go_sem], ⟨_, rfl, hbu.mono (by omega)⟩, hb⟩
  case stop => exact fun _ _ _ _ h => h.elim
end Go.Proofs.Ytciocdjpgknihaa
