/- Turn of package mat: the transposed matrix of a right one, or none. Conditions: elements are within the bounds of int64; at most 2^40 of them. -/
import Derived.Test.YtklledigcabllaaUj
namespace Go.Proofs.Ytklledigcabllaa
open Go.RowKit Go.Shelf
attribute [local go_sem] Oper.semAt_some

theorem buf_rebase {B g n cap : Nat} {W : World} {zs : List Int} (h : Buf B W (some ⟨g, 0, none⟩) n cap zs) : Buf g W (some ⟨g, 0, none⟩) n cap zs := by
  refine ⟨h.1, ?_⟩
  rcases h.2 with ⟨e, _⟩ | ⟨b, c, cur, e, hb, hc, rest⟩
  · cases e
  · injection e with e1 e2 e3
    injection e1 with e1
    injection e1 with e1
    subst e1
    exact .inr ⟨g, c, cur, by rw [e3], Nat.le_refl _, hc, rest⟩

set_option maxHeartbeats 4000000 in
theorem turn1_any {L T R C n r c : Nat} {x : Int} {bs : List Int} (V : World) (hB : Buf L V (some ⟨L, 0, none⟩) n n bs) (hT : Three V T 29 (.int .i64 C) (.int .i64 R) (.slice (some ⟨L, 0, none⟩) n n)) (hn : C * R = n) (hr : r < R) (hc : c < C) (hR : R ≤ 1048576) (hC : C ≤ 1048576) (hnl : n ≤ 35184372088832) :
    Calls Try.prog 42 #[.int .i64 r, .int .i64 c, .int .i64 x, .pointer (some ⟨T, 0, none⟩)] V fun e W' =>
      (∃ v, e = .returned v) ∧ Buf L W' (some ⟨L, 0, none⟩) n n (bs.set (c * R + r) x) ∧ V.grownBy W' (some L) ∧ Below L V W' := by
  have hlt : c * R + r < n := by rw [← hn]; exact place_lt hc hr
  have hte : (c + 1) * R ≤ n := by rw [← hn]; exact row_end hc
  have c0 := hT.c0
  have c1 := hT.c1
  have c2 := hT.c2
  have HB := Lib.hid hB
  obtain ⟨f, hf⟩ : ∃ f, c * R = f := ⟨_, rfl⟩
  rw [hf] at hlt ⊢
  have HF := Lib.hid hf
  have HTE := Lib.hid hte
  clear hB hT hn hf hte
  go_enter Try.func42, Try.ntmps42
  go_wp2_with fail
  refine (row_any (R := (C : Int)) (r := c) (c := R) V HF.out rfl (by omega) HTE.out (Nat.le_refl _) (by omega) (by omega) hR).mono ?_
  rintro e w1 ⟨rfl, g1⟩
  have hb1 := HB.out.grow g1
  obtain ⟨gx, ex, _, hLl, hcL, hfL⟩ := hb1.at hlt
  obtain rfl : L = gx := (by injection ex with ex; injection ex)
  have HB1 := Lib.hid hb1
  have HG1 := Lib.hid g1
  rw [Nat.zero_add]
  clear ex hb1 g1 c0 c1 c2
  go_wp2
  go_end0
  exact ⟨⟨_, rfl⟩, HB1.out.set _ _, grownBy_trans (Grew.by' HG1.out _) (grownBy_setCell1 w1 ⟨L, f + r, none⟩ _), (Below.mono HG1.out (Nat.le_of_lt (buf_lt HB.out).2)).setCell (p := ⟨L, f + r, none⟩) (Nat.le_refl _) _⟩

set_option maxHeartbeats 1000000 in
theorem turn_no (R C : Int) (a : Option Addr) (n cap : Nat) (w : World) (h : rightB R C n = false) :
    Calls Try.prog 25 #[.agg #[.int .i64 R, .int .i64 C, .slice a n cap]] w fun e w' => e = .returned (.agg #[.int .i64 0, .int .i64 0, .slice none 0 0]) ∧ Grew w w' := by
  have hg : Grew w ((w.alloc (.cells #[.int .i64 R, .int .i64 C, .slice a n cap] 29)).alloc (.cells #[.int .i64 0, .int .i64 0, .slice none 0 0] 29)) := ((Grew.refl w).alloc _).alloc _
  have ht := Three.new (w.alloc (.cells #[.int .i64 R, .int .i64 C, .slice a n cap] 29)) 29 (.int .i64 0) (.int .i64 0) (.slice none 0 0)
  rw [World.size_alloc] at ht
  have HT := Lib.hid ht
  have HG := Lib.hid hg
  have HR := Lib.hid h
  clear hg ht h
  go_enter Try.func25, Try.ntmps25
  go_wp2_with fail
  refine (right_any R C a n cap _).mono ?_
  rintro e w1 ⟨rfl, g1⟩
  rw [HR.out]
  have HG1 := Lib.hid (HG.out.trans g1)
  have HT1 := Lib.hid (HT.out.grow g1)
  have t0 := HT1.out.c0
  have t1 := HT1.out.c1
  have t2 := HT1.out.c2
  have f0 := HT1.out.f0
  have f1 := HT1.out.f1
  have f2 := HT1.out.f2
  clear g1
  go_wp2
  have ht := HT1.out.all (.int .i64 0) (.int .i64 0) (.slice none 0 0)
  have HG2 := Lib.hid (Grew.three (g := w.heap.size + 1) HG1.out (by omega) (.int .i64 0) (.int .i64 0) (.slice none 0 0))
  generalize ((w1.setCell ⟨w.heap.size + 1, 0, none⟩ (.int .i64 0)).setCell ⟨w.heap.size + 1, 1, none⟩ (.int .i64 0)).setCell ⟨w.heap.size + 1, 2, none⟩ (.slice none 0 0) = W at *
  have c0 := ht.c0
  have c1 := ht.c1
  have c2 := ht.c2
  exact bodyPost_ret (v := .agg #[.int .i64 0, .int .i64 0, .slice none 0 0]) (by simp [results, Try.results25, go_sem, c0, c1, c2]) rfl ⟨rfl, HG2.out⟩

set_option maxRecDepth 100000 in
set_option maxHeartbeats 4000000 in
theorem turn_yes {R C b off cap : Nat} {zs : List Int} (w : World) (hz : zs.length = R * C) (hR1 : 1 ≤ R) (hR2 : R ≤ 1048576) (hC : 1 ≤ C) (hC2 : C ≤ 1048576) (hcap : cap ≤ 9223372036854775807) (hnc : R * C ≤ cap)
    (hzr : Rd w.heap.size w (some ⟨b, off, none⟩) zs) :
    Calls Try.prog 25 #[.agg #[.int .i64 R, .int .i64 C, .slice (some ⟨b, off, none⟩) (R * C : Nat) cap]] w fun e w' => (∃ g, e = .returned (.agg #[.int .i64 C, .int .i64 R, .slice (some ⟨g, 0, none⟩) (R * C : Nat) (R * C : Nat)]) ∧ Buf w.heap.size w' (some ⟨g, 0, none⟩) (R * C) (R * C) (turnL zs R C)) ∧ Grew w w' := by
  obtain ⟨len, hlen⟩ : ∃ len, R * C = len := ⟨_, rfl⟩
  have hlen2 : len ≤ 1048576 * 1048576 := by rw [← hlen]; exact Nat.mul_le_mul hR2 hC2
  rw [hlen]
  have hg : Grew w ((w.alloc (.cells #[.int .i64 R, .int .i64 C, .slice (some ⟨b, off, none⟩) len cap] 29)).alloc (.cells #[.int .i64 0, .int .i64 0, .slice none 0 0] 29)) := ((Grew.refl w).alloc _).alloc _
  have ht := (Three.new w 29 (.int .i64 R) (.int .i64 C) (.slice (some ⟨b, off, none⟩) len cap)).alloc (.cells #[.int .i64 0, .int .i64 0, .slice none 0 0] 29)
  have ho := Three.new (w.alloc (.cells #[.int .i64 R, .int .i64 C, .slice (some ⟨b, off, none⟩) len cap] 29)) 29 (.int .i64 0) (.int .i64 0) (.slice none 0 0)
  rw [World.size_alloc] at ho
  have HT := Lib.hid ht
  have HO := Lib.hid ho
  have HG := Lib.hid hg
  have HR : Hid (rightB (R : Int) (C : Int) len = true) := Lib.hid (by rw [← hlen]; exact rightB_of hR1 hR2 hC hC2)
  have HZR := Lib.hid hzr
  have HZ := Lib.hid hz
  have HL := Lib.hid hlen
  have HL2 := Lib.hid ((Nat.mul_comm C R).trans hlen)
  have HS0 : Hid (((w.alloc (.cells #[.int .i64 R, .int .i64 C, .slice (some ⟨b, off, none⟩) len cap] 29)).alloc (.cells #[.int .i64 0, .int .i64 0, .slice none 0 0] 29)).heap.size = w.heap.size + 1 + 1) := Lib.hid (by simp)
  rw [hlen] at hnc
  clear hg ht ho hzr hz hlen
  go_enter Try.func25, Try.ntmps25
  go_wp2_with fail
  refine (right_any (R : Int) (C : Int) _ len cap _).mono ?_
  rintro e w1 ⟨rfl, g1⟩
  rw [HR.out]
  have HG1 := Lib.hid (HG.out.trans g1)
  have HT1 := Lib.hid (HT.out.grow g1)
  have HO1 := Lib.hid (HO.out.grow g1)
  have hs1 : w.heap.size + 1 + 1 ≤ w1.heap.size := by rw [← HS0.out]; exact g1.size
  have c0 := HT1.out.c0
  have c1 := HT1.out.c1
  have c2 := HT1.out.c2
  clear g1
  go_wp2_with fail
  refine (zeros_any w1 HL2.out (by omega)).mono ?_
  rintro e w2 ⟨⟨L, rfl, hb⟩, g2⟩
  obtain ⟨hL1, hL2⟩ := buf_lt hb
  have HBL := Lib.hid (buf_rebase hb)
  have HG2 := Lib.hid (HG1.out.trans g2)
  have HT2 := Lib.hid (HT1.out.grow g2)
  have HO2 := Lib.hid (HO1.out.grow g2)
  have hl0 : w.heap.size < w2.heap.size := by omega
  clear g2 hb c0 c1 c2
  have c0 := HT2.out.c0
  have c1 := HT2.out.c1
  have c2 := HT2.out.c2
  go_wp2_with fail
  have hgA : Grew w2 (w2.alloc (.cells #[.int .i64 C, .int .i64 R, .slice (some ⟨L, 0, none⟩) len len] 29)) := (Grew.refl w2).alloc _
  have HGB := Lib.hid (HG2.out.trans hgA)
  have HBU := Lib.hid (HBL.out.grow hgA)
  have HTT := Lib.hid (Three.new w2 29 (.int .i64 C) (.int .i64 R) (.slice (some ⟨L, 0, none⟩) len len))
  have HO3 := Lib.hid (HO2.out.grow hgA)
  have HSZ : Hid ((w2.alloc (.cells #[.int .i64 C, .int .i64 R, .slice (some ⟨L, 0, none⟩) len len] 29)).heap.size = w2.heap.size + 1) := Lib.hid (by simp)
  clear hgA c0 c1 c2 hl0
  generalize w2.alloc (.cells #[.int .i64 C, .int .i64 R, .slice (some ⟨L, 0, none⟩) len len] 29) = W0 at *
  generalize w2.heap.size = T at *
  clear HG2 HT2 HO2 HBL
  refine (visit_any (gs := 42) (caps := #[.pointer (some ⟨T, 0, none⟩)]) (enters_of Try.func42 (by kernel_rfl) rfl) (g := L) (zs := zs) W0
    (fun k W => Hid (Buf L W (some ⟨L, 0, none⟩) len len (tN zs R C k)) ∧ Hid (Three W T 29 (.int .i64 C) (.int .i64 R) (.slice (some ⟨L, 0, none⟩) len len)) ∧ Hid (Three W (w.heap.size + 1) 29 (.int .i64 0) (.int .i64 0) (.slice none 0 0)) ∧ Hid (Grew w W))
    hcap hnc HL.out (HZ.out.trans HL.out) hC hR2 hC2 (by rw [HSZ.out]; omega) ?hI ?hrd ?hgc ?hsee ⟨Lib.hid (by have := HBU.out; rw [← HL2.out] at this ⊢; exact this), HTT, HO3, HGB⟩).mono ?_
  case hI =>
    rintro k W W' ⟨h2, h3, h4, h6⟩ k2
    rw [HSZ.out] at k2
    exact ⟨Lib.hid (buf_keptAt h2.out (k2.block _ (by omega))), Lib.hid (h3.out.below k2 (by omega)), Lib.hid (h4.out.below k2 (by omega)), Lib.hid (Grew.trans_below h6.out (k2.mono (by omega)) (Nat.le_refl _))⟩
  case hrd =>
    rintro k W ⟨_, _, _, h6⟩
    exact (Rd.below HZR.out h6.out).mono (by rw [HSZ.out]; omega)
  case hgc =>
    rintro k W ⟨h2, _, _, _⟩
    exact buf_cells h2.out
  case hsee =>
    rintro r c W hr hc ⟨h2, h3, h4, h6⟩ _
    refine (turn1_any W h2.out h3.out HL2.out hr hc hR2 hC2 (by omega)).mono ?_
    rintro e W' ⟨he, hb, hgr, hbe⟩
    refine ⟨he, ⟨Lib.hid (by rw [tN_step zs hc]; exact hb), Lib.hid (h3.out.grown hgr (fun e => by injection e with e; omega)), Lib.hid (h4.out.grown hgr (fun e => by injection e with e; omega)), Lib.hid (Grew.trans_below h6.out (hbe.mono (by omega)) (Nat.le_refl _))⟩, hgr⟩
  rintro e W ⟨⟨v, rfl⟩, ⟨h2, h3, h4, h6⟩, _⟩
  have hbu := h2.out
  rw [tN_all] at hbu
  have c0 := h3.out.c0
  have c1 := h3.out.c1
  have c2 := h3.out.c2
  have t0 := h4.out.c0
  have t1 := h4.out.c1
  have t2 := h4.out.c2
  have f0 := h4.out.f0
  have f1 := h4.out.f1
  have f2 := h4.out.f2
  have HBE := Lib.hid (hbu.aside (g := w.heap.size + 1) (by omega) (.int .i64 C) (.int .i64 R) (.slice (some ⟨L, 0, none⟩) len len))
  have ht := h4.out.all (.int .i64 C) (.int .i64 R) (.slice (some ⟨L, 0, none⟩) len len)
  have HGE := Lib.hid (Grew.three (g := w.heap.size + 1) h6.out (by omega) (.int .i64 C) (.int .i64 R) (.slice (some ⟨L, 0, none⟩) len len))
  have HTE := Lib.hid ht
  clear hbu h2 h3 ht
  go_wp2
  generalize ((W.setCell ⟨w.heap.size + 1, 0, none⟩ (.int .i64 C)).setCell ⟨w.heap.size + 1, 1, none⟩ (.int .i64 R)).setCell ⟨w.heap.size + 1, 2, none⟩ (.slice (some ⟨L, 0, none⟩) len len) = WE at *
  have d0 := HTE.out.c0
  have d1 := HTE.out.c1
  have d2 := HTE.out.c2
  exact bodyPost_ret (v := .agg #[.int .i64 C, .int .i64 R, .slice (some ⟨L, 0, none⟩) len len]) (by simp [results, Try.results25, go_sem, d0, d1, d2]) rfl ⟨⟨_, rfl, HBE.out.mono (by omega)⟩, HGE.out⟩
end Go.Proofs.Ytklledigcabllaa
