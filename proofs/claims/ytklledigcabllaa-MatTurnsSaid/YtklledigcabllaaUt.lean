/- Outer of the reference. Conditions: elements are within the bounds of int64; the columns have at most 2^20 elements. -/
import Derived.Test.YtklledigcabllaaUs
import Derived.Test.YtklledigcabllaaUo
namespace Go.Proofs.Ytklledigcabllaa
open Go.RowKit

set_option maxHeartbeats 1000000 in
theorem router_no {R C : Nat} (ay ax : Option Addr) (cy cx : Nat) (q : Int) (w : World) (hR : R ≤ 1048576) (hC : C ≤ 1048576) (h : newB (R : Int) (C : Int) = false) :
    Calls Try.prog 28 #[.slice ay R cy, .slice ax C cx, .int .i64 q] w fun e w' => e = .returned (.agg #[.int .i64 0, .int .i64 0, .slice none 0 0]) ∧ Grew w w' := by
  have HZ := Lib.hid (Three.new w 24 (.int .i64 0) (.int .i64 0) (.slice none 0 0))
  have HG : Hid (Grew w (w.alloc (.cells #[.int .i64 0, .int .i64 0, .slice none 0 0] 24))) := Lib.hid ((Grew.refl w).alloc _)
  have HN := Lib.hid h
  clear h
  go_enter Try.func28, Try.ntmps28
  go_wp2_with fail
  refine (rnew_no (R := (R : Int)) (C := (C : Int)) _ (by omega) (by omega) HN.out).mono ?_
  rintro e w1 ⟨rfl, g1⟩
  have HZ1 := Lib.hid (HZ.out.grow g1)
  have hl1 := HZ1.out.lt
  have HG1 := Lib.hid (HG.out.trans g1)
  clear g1
  go_wp2_with fail
  have hgA : Grew w1 (w1.alloc (.cells #[.int .i64 0, .int .i64 0, .slice none 0 0] 24)) := (Grew.refl w1).alloc _
  have HZ2 := Lib.hid (HZ1.out.grow hgA)
  have HG2 := Lib.hid (HG1.out.trans hgA)
  have HO := Lib.hid (Three.new w1 24 (.int .i64 0) (.int .i64 0) (.slice none 0 0))
  clear hgA HZ1 HG1
  generalize w1.alloc (.cells #[.int .i64 0, .int .i64 0, .slice none 0 0] 24) = W0 at *
  generalize w1.heap.size = O at *
  go_loopw [8] (fun i wr => i = .int .i64 0 ∧ wr = W0) (fun _ _ => 0)
  case atStart => exact ⟨rfl, rfl⟩
  case round =>
    obtain ⟨rfl, rfl⟩ := hrel
    have o0 := HO.out.c0
    have o1 := HO.out.c1
    have o2 := HO.out.c2
    have t0 := HZ2.out.c0
    have t1 := HZ2.out.c1
    have t2 := HZ2.out.c2
    have f0 := HZ2.out.f0
    have f1 := HZ2.out.f1
    have f2 := HZ2.out.f2
    go_wp2
    have HTE := Lib.hid (HZ2.out.all (.int .i64 0) (.int .i64 0) (.slice none 0 0))
    have HGE := Lib.hid (Grew.three (g := w.heap.size) HG2.out (Nat.le_refl _) (.int .i64 0) (.int .i64 0) (.slice none 0 0))
    generalize ((wr.setCell ⟨w.heap.size, 0, none⟩ (.int .i64 0)).setCell ⟨w.heap.size, 1, none⟩ (.int .i64 0)).setCell ⟨w.heap.size, 2, none⟩ (.slice none 0 0) = WE at *
    have d0 := HTE.out.c0
    have d1 := HTE.out.c1
    have d2 := HTE.out.c2
    exact bodyPost_ret (v := .agg #[.int .i64 0, .int .i64 0, .slice none 0 0]) (by simp [results, Try.results28, go_sem, d0, d1, d2]) rfl ⟨rfl, HGE.out⟩

set_option maxRecDepth 100000 in
set_option maxHeartbeats 4000000 in
theorem router_yes {cy cx : Nat} {ay ax : Option Addr} {ys xs : List Int} {q : Int} (w : World) (hR : 1 ≤ ys.length) (hC : 1 ≤ xs.length) (hn : ys.length * xs.length ≤ 1048576)
    (hyr : Rd w.heap.size w ay ys) (hxr : Rd w.heap.size w ax xs) (hyf : Fit ys) (hxf : Fit xs) :
    Calls Try.prog 28 #[.slice ay ys.length cy, .slice ax xs.length cx, .int .i64 q] w fun e w' => (∃ g, e = .returned (.agg #[.int .i64 ys.length, .int .i64 xs.length, .slice (some ⟨g, 0, none⟩) (ys.length * xs.length : Nat) (ys.length * xs.length : Nat)]) ∧ Buf w.heap.size w' (some ⟨g, 0, none⟩) (ys.length * xs.length) (ys.length * xs.length) (outL ys xs q)) ∧ Grew w w' := by
  obtain ⟨R, hRl⟩ : ∃ R, ys.length = R := ⟨_, rfl⟩
  obtain ⟨C, hCl⟩ : ∃ C, xs.length = C := ⟨_, rfl⟩
  obtain ⟨len, hlen⟩ : ∃ len, R * C = len := ⟨_, rfl⟩
  rw [hRl, hCl, hlen] at hn ⊢
  rw [hRl] at hR
  rw [hCl] at hC
  have hRb : R ≤ 1048576 := Nat.le_trans (Nat.le_mul_of_pos_right R hC) (by omega)
  have hCb : C ≤ 1048576 := Nat.le_trans (Nat.le_mul_of_pos_left C hR) (by omega)
  have HZ := Lib.hid (Three.new w 24 (.int .i64 0) (.int .i64 0) (.slice none 0 0))
  have HG : Hid (Grew w (w.alloc (.cells #[.int .i64 0, .int .i64 0, .slice none 0 0] 24))) := Lib.hid ((Grew.refl w).alloc _)
  have HYR := Lib.hid hyr
  have HXR := Lib.hid hxr
  have HYF := Lib.hid hyf
  have HXF := Lib.hid hxf
  have HYL := Lib.hid hRl
  have HXL := Lib.hid hCl
  have HL := Lib.hid hlen
  clear hyr hxr hyf hxf hRl hCl hlen
  go_enter Try.func28, Try.ntmps28
  go_wp2_with fail
  refine (rnew_yes _ HL.out hR hC hn).mono ?_
  rintro e w1 ⟨⟨L, rfl, hb⟩, g1⟩
  rw [World.size_alloc] at hb
  obtain ⟨hL1, hL2⟩ := buf_lt hb
  have HBL := Lib.hid (buf_rebase hb)
  have HZ1 := Lib.hid (HZ.out.grow g1)
  have hl1 := HZ1.out.lt
  have HG1 := Lib.hid (HG.out.trans g1)
  clear g1 hb
  go_wp2_with fail
  have hgA : Grew w1 (w1.alloc (.cells #[.int .i64 R, .int .i64 C, .slice (some ⟨L, 0, none⟩) len len] 24)) := (Grew.refl w1).alloc _
  have HZ2 := Lib.hid (HZ1.out.grow hgA)
  have HG2 := Lib.hid (HG1.out.trans hgA)
  have HBU : Hid (Buf L (w1.alloc (.cells #[.int .i64 R, .int .i64 C, .slice (some ⟨L, 0, none⟩) len len] 24)) (some ⟨L, 0, none⟩) len len (oK ys xs q 0)) := Lib.hid (by have := HBL.out.grow hgA; rw [← HL.out, ← HYL.out, ← HXL.out] at this ⊢; exact this)
  have HO := Lib.hid (Three.new w1 24 (.int .i64 R) (.int .i64 C) (.slice (some ⟨L, 0, none⟩) len len))
  clear hgA HZ1 HG1 HBL
  generalize w1.alloc (.cells #[.int .i64 R, .int .i64 C, .slice (some ⟨L, 0, none⟩) len len] 24) = W0 at *
  generalize w1.heap.size = O at *
  go_loopw [8] (fun i wr => ∃ k : Nat, k ≤ len ∧ i = .int .i64 (k : Int) ∧ Hid (Buf L wr (some ⟨L, 0, none⟩) len len (oK ys xs q k)) ∧ Hid (Three wr O 24 (.int .i64 R) (.int .i64 C) (.slice (some ⟨L, 0, none⟩) len len)) ∧ Hid (Three wr w.heap.size 24 (.int .i64 0) (.int .i64 0) (.slice none 0 0)) ∧ Hid (Grew w wr)) (fun i _ => len - (intOf i).toNat)
  case atStart => exact ⟨0, Nat.zero_le _, by simp, HBU, HO, HZ2, HG2⟩
  case round =>
    obtain ⟨k, hk, rfl, HBk, HOk, HZk, HGk⟩ := hrel
    have o2 := HOk.out.c2
    have o1 := HOk.out.c1
    by_cases hlt : k < len
    · obtain ⟨kq, hkq⟩ : ∃ kq, k / C = kq := ⟨_, rfl⟩
      obtain ⟨km, hkm⟩ : ∃ km, k % C = km := ⟨_, rfl⟩
      have hq : (k : Int).tdiv (C : Int) = (kq : Int) := by rw [← hkq]; rfl
      have hm : (k : Int).tmod (C : Int) = (km : Int) := by rw [← hkm]; rfl
      have hqR : kq < R := by rw [← hkq]; exact (Nat.div_lt_iff_lt_mul hC).2 (by rw [HL.out]; exact hlt)
      have hmC : km < C := by rw [← hkm]; exact Nat.mod_lt _ hC
      have hC0 : ¬ C = 0 := by omega
      have hC1 : ¬ (C : Int) = 0 := by omega
      have hwq : IntKind.i64.wrap (kq : Int) = kq := IntWalk.i64_in _ (by omega)
      have hwm : IntKind.i64.wrap (km : Int) = km := IntWalk.i64_in _ (by omega)
      have hq0 : (0 : Int) ≤ (kq : Int) := by omega
      have hm0 : (0 : Int) ≤ (km : Int) := by omega
      have hq1 : (kq : Int) < (R : Int) := by omega
      have hm1 : (km : Int) < (C : Int) := by omega
      have hk0 : (0 : Int) ≤ (k : Int) := by omega
      have hk1 : (k : Int) < (len : Int) := by omega
      obtain ⟨yb, yo, rfl, hyb, hyc⟩ := (HYR.out.below HGk.out).at (k := kq) (by rw [HYL.out]; exact hqR)
      obtain ⟨xb, xo, rfl, hxb, hxc⟩ := (HXR.out.below HGk.out).at (k := km) (by rw [HXL.out]; exact hmC)
      obtain ⟨gx, ex, _, hLl, hcL, hfL⟩ := HBk.out.at hlt
      obtain rfl : L = gx := (by injection ex with ex; injection ex)
      have HFY := Lib.hid (HYF.out kq (by rw [HYL.out]; exact hqR))
      have HFX := Lib.hid (HXF.out km (by rw [HXL.out]; exact hmC))
      have HS : Hid (oK ys xs q (k + 1) = (oK ys xs q k).set k (mulV (el ys kq) (el xs km) q)) := Lib.hid (by rw [← hkq, ← hkm, ← HXL.out]; rfl)
      clear hkq hkm ex
      generalize el ys kq = yv at *
      generalize el xs km = xv at *
      go_wp2_with fail
      go_region_held3 (fun W' => wr.grownBy W' (some L) ∧ W'.cell? ⟨O, 1, none⟩ = some (.int .i64 C) ∧ W'.cell? ⟨O, 2, none⟩ = some (.slice (some ⟨L, 0, none⟩) len len) ∧ W'.cell? ⟨yb, yo + kq, none⟩ = some (.int .i64 yv) ∧ W'.cell? ⟨xb, xo + km, none⟩ = some (.int .i64 xv))
        (first
          | exact ⟨(grown_refl wr _).drew1, o1, o2, hyc, hxc⟩
          | exact keep_s4 (by assumption) (by show L ≠ O; omega) (by show L ≠ O; omega) (by show L ≠ yb; omega) (by show L ≠ xb; omega)
          | assumption)
        (first
          | (go_at_call 40; refine (rmul_any yv xv q _ HFY.out.1 HFY.out.2 HFX.out.1 HFX.out.2).mono ?_; rintro e w3 ⟨rfl, rfl⟩))
      have HB1 := Lib.hid ((HBk.out.set k (mulV yv xv q)).grow (Grew.drew1 (Grew.refl _)))
      have HO1 := Lib.hid ((HOk.out.other ⟨L, k, none⟩ (.int .i64 (mulV yv xv q)) (by show O ≠ L; omega)).grow (Grew.drew1 (Grew.refl _)))
      have HZ1 := Lib.hid ((HZk.out.other ⟨L, k, none⟩ (.int .i64 (mulV yv xv q)) (by show w.heap.size ≠ L; omega)).grow (Grew.drew1 (Grew.refl _)))
      have HG1 := Lib.hid (Grew.drew1 (HGk.out.setCell (p := ⟨L, k, none⟩) (by show w.heap.size ≤ L; omega) (.int .i64 (mulV yv xv q))))
      go_wp2
      go_roundw
      case rel => exact ⟨k + 1, by omega, by go_num, Lib.hid (by rw [HS.out]; exact HB1.out), HO1, HZ1, HG1⟩
      case measure => simp [intOf]; omega
    · obtain rfl : k = len := by omega
      have HBe : Hid (Buf L wr (some ⟨L, 0, none⟩) k k (outL ys xs q)) := Lib.hid (by have h := HBk.out; rw [← oK_all, HYL.out, HXL.out, HL.out]; exact h)
      have o0 := HOk.out.c0
      have t0 := HZk.out.c0
      have t1 := HZk.out.c1
      have t2 := HZk.out.c2
      have f0 := HZk.out.f0
      have f1 := HZk.out.f1
      have f2 := HZk.out.f2
      have HBE := Lib.hid (HBe.out.aside (g := w.heap.size) (by omega) (.int .i64 R) (.int .i64 C) (.slice (some ⟨L, 0, none⟩) k k))
      have HTE := Lib.hid (HZk.out.all (.int .i64 R) (.int .i64 C) (.slice (some ⟨L, 0, none⟩) k k))
      have HGE := Lib.hid (Grew.three (g := w.heap.size) HGk.out (Nat.le_refl _) (.int .i64 R) (.int .i64 C) (.slice (some ⟨L, 0, none⟩) k k))
      go_wp2
      generalize ((wr.setCell ⟨w.heap.size, 0, none⟩ (.int .i64 R)).setCell ⟨w.heap.size, 1, none⟩ (.int .i64 C)).setCell ⟨w.heap.size, 2, none⟩ (.slice (some ⟨L, 0, none⟩) k k) = WE at *
      have d0 := HTE.out.c0
      have d1 := HTE.out.c1
      have d2 := HTE.out.c2
      exact bodyPost_ret (v := .agg #[.int .i64 R, .int .i64 C, .slice (some ⟨L, 0, none⟩) k k]) (by simp [results, Try.results28, go_sem, d0, d1, d2]) rfl ⟨⟨_, rfl, HBE.out.mono (by omega)⟩, HGE.out⟩
end Go.Proofs.Ytklledigcabllaa
