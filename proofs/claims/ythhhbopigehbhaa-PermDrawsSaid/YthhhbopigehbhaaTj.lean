/- Package perm: Draws. Condition: at most 2^44 numbers. -/
import Derived.Test.YthhhbopigehbhaaTi
namespace Go.Proofs.Ythhhbopigehbhaa
open Go.RowKit

theorem BufK.elsewhere {q : IntKind} {e : TypeId} {B n cap g r : Nat} {W W' : World} {zs : List Int} (h : BufK q e B W (some ⟨g, 0, none⟩) n cap zs) (hg : W.grownBy W' (some r)) (hne : g ≠ r) : BufK q e B W' (some ⟨g, 0, none⟩) n cap zs := by
  refine ⟨h.1, ?_⟩
  rcases h.2 with e | ⟨g', c, cur, e1, hb, hg1, rest⟩
  · exact .inl e
  · have e2 := e1
    injection e2 with e2
    injection e2 with e2
    injection e2 with e2
    subst e2
    refine .inr ⟨g, c, cur, e1, hb, ?_, rest⟩
    have hlt : g < W.heap.size := by
      rcases Nat.lt_or_ge g W.heap.size with h' | h'
      · exact h'
      · rw [Array.getElem?_eq_none h'] at hg1; cases hg1
    exact (hg.block g hlt (by intro e; injection e with e; exact hne e)).trans hg1
theorem BufK.some_lt {q : IntKind} {e : TypeId} {B n cap g : Nat} {W : World} {zs : List Int} (h : BufK q e B W (some ⟨g, 0, none⟩) n cap zs) (h0 : 0 < n) : B ≤ g ∧ g < W.heap.size := by
  obtain ⟨g', e, h1, h2, _⟩ := h.at h0
  injection e with e
  injection e with e
  subst e
  exact ⟨h1, h2⟩

set_option maxHeartbeats 1000000 in
theorem draws_no (a : Option Addr) (c : Nat) (zs : List Int) (w : World) (hl : zs.length ≤ 17592186044416) (hf : Fit zs) (h : RdK .i64 w.heap.size w a zs) (hv : validB zs = false) :
    Calls Try.prog 8 #[.slice a zs.length c] w fun e w' => e = .returned (.tuple #[.slice none 0 0, .bool false]) ∧ Grew w w' := by
  have HV := Lib.hid (valid_any a c zs w hl hf h)
  rw [hv] at HV
  clear h hv
  go_enter Try.func8, Try.ntmps8
  go_wp2_with fail
  refine HV.out.mono ?_
  rintro e w1 ⟨rfl, g1⟩
  have HG1 := Lib.hid g1
  clear g1
  go_wp2
  go_ret2
  exact ⟨rfl, HG1.out⟩

set_option maxHeartbeats 2000000 in
theorem draws_yes (a : Option Addr) (c : Nat) (zs : List Int) (w : World) (hl : zs.length ≤ 17592186044416) (hf : Fit zs) (h : RdK .i64 w.heap.size w a zs) (hv : IsP zs) :
    Calls Try.prog 8 #[.slice a zs.length c] w fun e w' => (∃ a' c', e = .returned (.tuple #[.slice a' (zs.length - 1 : Nat) c', .bool true]) ∧ BufK .u64 29 w.heap.size w' a' (zs.length - 1) c' (drawsL zs)) ∧ Grew w w' := by
  have HV := Lib.hid (valid_any a c zs w hl hf h)
  rw [validB_yes hv] at HV
  have HX := Lib.hid h
  have HP := Lib.hid hv
  obtain ⟨n, hn⟩ : ∃ n, n = zs.length := ⟨_, rfl⟩
  obtain ⟨m, hm⟩ : ∃ m, m = n - 1 := ⟨_, rfl⟩
  have HLn := Lib.hid hn
  have HE : Hid (setN m (fun k => (dJ zs k : Int)) m = drawsL zs) := Lib.hid (el_ext (by rw [setN_len, drawsL_len, hm, hn]) (fun j hj => by rw [setN_len] at hj; rw [setN_el _ _ hj _ hj, drawsL_el (by omega)]))
  have hneed := Lib.hid (need_any n)
  rw [← hn] at HV hl ⊢
  rw [← hm] at hneed ⊢
  have hmn : m ≤ n := by omega
  have hmm : m + 1 = n ∨ n = 0 := by omega
  have HM : Hid (∀ k, k < m → k < zs.length - 1) := Lib.hid (fun k hk => by omega)
  have hmk := run_make_row' (P := Try.prog) 24 29 (.int .u64 0) 8 Try.underlying24 (by kernel_rfl) rfl .i64 .i64 m (by omega) (by omega)
  have HW0 := wInv_start zs
  have HD0 : dL zs 0 = nums zs.length := rfl
  rw [← hn] at HW0 HD0
  have HW0' := Lib.hid HW0
  have HD0' := Lib.hid HD0
  clear h hv hn hm HW0 HD0
  go_enter Try.func8, Try.ntmps8
  go_wp2_with fail
  refine HV.out.mono ?_
  rintro e w1 ⟨rfl, g1⟩
  have HG1 := Lib.hid g1
  clear g1
  go_wp2_with fail
  refine (numbers_any n w1 hl).mono ?_
  rintro e w2 ⟨rfl, hb2, g2⟩
  have hA2 : 0 < n → w1.heap.size < w2.heap.size := fun h0 => (hb2.some_lt h0).2
  have HB2 := Lib.hid hb2
  have HG2 := Lib.hid (HG1.out.trans g2)
  have hs12 := g2.size
  clear hb2 g2
  go_wp2_with fail
  refine (numbers_any n w2 hl).mono ?_
  rintro e w3 ⟨rfl, hb3, g3⟩
  have hA3 : 0 < n → w2.heap.size < w3.heap.size := fun h0 => (hb3.some_lt h0).2
  have HB3 := Lib.hid hb3
  have HB23 := Lib.hid (HB2.out.grow g3)
  have HG3 := Lib.hid (HG2.out.trans g3)
  have hs23 := g3.size
  clear hb3 g3
  go_wp2_with fail
  refine (exchanger_any _ n n w3).mono ?_
  rintro e w4 ⟨rfl, hx4, g4⟩
  have hA4 := hx4.lt
  have HX4 := Lib.hid hx4
  have HB34 := Lib.hid (HB3.out.grow g4)
  have HB24 := Lib.hid (HB23.out.grow g4)
  have HG4 := Lib.hid (HG3.out.trans g4)
  have hs34 := g4.size
  clear hx4 g4
  go_wp2_with fail
  refine (hneed.out w4 hl).mono ?_
  rintro e w5 ⟨rfl, rfl⟩
  have g5 : Grew w4 (w4.alloc (.cells (madeCells #[.int .u64 0] m) 29)) := (Grew.refl w4).alloc _
  have HX5 := Lib.hid (HX4.out.grow g5)
  have HB35 := Lib.hid (HB34.out.grow g5)
  have HB25 := Lib.hid (HB24.out.grow g5)
  have HG5 := Lib.hid (HG4.out.trans g5)
  have HD5 : Hid (BufK .u64 29 w4.heap.size (w4.alloc (.cells (madeCells #[.int .u64 0] m) 29)) (some ⟨w4.heap.size, 0, none⟩) m m (setN m (fun k => (dJ zs k : Int)) 0)) := Lib.hid (BufK.made .u64 29 w4 m (by unfold maxLen; omega))
  clear g5
  rw [← HD0'.out] at HB25
  have hs1 := HG1.out.size
  go_wp2
  go_loopw [28] (fun x wr => ∃ k : Nat, k ≤ m ∧ x = .int .i64 k ∧ Hid (BufK .i64 3 w1.heap.size wr (some ⟨w1.heap.size, 0, none⟩) n n (dL zs k)) ∧ Hid (Box wr w3.heap.size (.slice (some ⟨w1.heap.size, 0, none⟩) n n)) ∧ Hid (BufK .u64 29 w4.heap.size wr (some ⟨w4.heap.size, 0, none⟩) m m (setN m (fun k => (dJ zs k : Int)) k)) ∧ Hid (Grew w wr) ∧ ∃ ws, Hid (BufK .i64 3 w2.heap.size wr (some ⟨w2.heap.size, 0, none⟩) n n ws) ∧ Hid (WInv zs ws k)) (fun x _ => m - (intOf x).toNat)
  case atStart => exact ⟨0, Nat.zero_le _, rfl, HB25, HX5, HD5, HG5, _, HB35, HW0'⟩
  case round =>
    obtain ⟨k, hk, rfl, HB, HX2, HD, HG, ws, HW, HWI⟩ := hrel
    by_cases hlt : k < m
    · have hk1 := HM.out k hlt
      have hx1 := hA2 (by omega)
      have hx2 := hA3 (by omega)
      obtain ⟨g, off, rfl, hg, hc⟩ := (HX.out.below HG.out).at (k := n - 1 - k) (by rw [← HLn.out]; omega)
      obtain ⟨y, hy, hz⟩ := isP_ran HP.out (j := n - 1 - k) (by rw [← HLn.out]; omega)
      rw [← HLn.out] at hy
      rw [hz] at hc
      obtain ⟨j, hj⟩ : ∃ j, j = dJ zs k := ⟨_, rfl⟩
      have hwj := wInv_at HP.out hk1 HWI.out
      rw [← HLn.out, hz, Int.toNat_natCast, ← hj] at hwj
      have hjn := (dJ_at HP.out hk1 (dInv_all HP.out k (by omega))).1
      rw [← hj, ← HLn.out] at hjn
      obtain ⟨g2, e2, _, _, hcw, hfw⟩ := HW.out.at hy
      obtain rfl : g2 = w2.heap.size := by injection e2 with e2; injection e2 with e2; exact e2.symm
      rw [hwj] at hcw
      have hex := exch_buf (i := n - 1 - k) (j := j) wr (by omega) (by omega) hl HX2.out HB.out
      have hsh : swapL (dL zs k) (n - 1 - k) j = dL zs (k + 1) := by rw [dL_succ, hj, HLn.out]
      rw [hsh] at hex
      -- the second list's turn
      have hPn := (dInv_all HP.out (k + 1) (by omega)).1
      obtain ⟨v, hv, hzv⟩ := isP_ran hPn (j := j) (by rw [dL_len, ← HLn.out]; omega)
      rw [dL_len, ← HLn.out] at hv
      have hst := wInv_step HP.out hk1 HWI.out
      rw [← hj, hzv, Int.toNat_natCast] at hst
      have HEx := Lib.hid hex
      have HSt := Lib.hid hst
      have e1 : ((n - 1 - k : Nat) : Int) = (n : Int) - 1 - (k : Int) := by omega
      rw [e1] at HEx
      have er : ((n : Int) - 1 - (k : Int)).toNat = n - 1 - k := by omega
      have p0 : (0 : Int) ≤ (n : Int) - 1 - (k : Int) := by omega
      have p1 : (n : Int) - 1 - (k : Int) < (n : Int) := by omega
      have hJ := Lib.hid hj
      clear hex hst hsh hz hwj e2 e1 hj
      go_wp2_with fail
      refine HEx.out.mono ?_
      rintro e w5 ⟨rfl, hb5, g5⟩
      obtain ⟨g3, e3, _, _, hcl, _⟩ := hb5.at (k := j) (by omega)
      obtain rfl : g3 = w1.heap.size := by injection e3 with e3; injection e3 with e3; exact e3.symm
      rw [hzv] at hcl
      have HB5 := Lib.hid hb5
      have HX5 := Lib.hid (HX2.out.grown g5 (by intro e; injection e with e; omega))
      have HD5 := Lib.hid (HD.out.elsewhere g5 (by omega))
      have hw5 := HW.out.elsewhere g5 (by omega)
      obtain ⟨g4, e4, _, _, hcw5, hfw5⟩ := hw5.at hv
      obtain rfl : g4 = w2.heap.size := by injection e4 with e4; injection e4 with e4; exact e4.symm
      have HW5 := Lib.hid (hw5.set v j)
      have HG5 := Lib.hid (HG.out.trans_below (grownBy_below g5 (B := w.heap.size) (by omega) HG.out.size) (Nat.le_refl _))
      have gs1 := grownBy_setCell1 w5 ⟨w2.heap.size, v, none⟩ (.int .i64 j)
      have HB6 := Lib.hid (HB5.out.elsewhere gs1 (by show w1.heap.size ≠ w2.heap.size; omega))
      have HX6 := Lib.hid (HX5.out.grown gs1 (by intro e; injection e with e; replace e : w3.heap.size = w2.heap.size := e; omega))
      have hd6 := HD5.out.elsewhere gs1 (by show w4.heap.size ≠ w2.heap.size; omega)
      obtain ⟨g5', e5, _, _, hcd, hfd⟩ := hd6.at hlt
      obtain rfl : g5' = w4.heap.size := by injection e5 with e5; injection e5 with e5; exact e5.symm
      have hd7 := hd6.set k j
      have HD7 : Hid (BufK .u64 29 w4.heap.size ((w5.setCell ⟨w2.heap.size, v, none⟩ (.int .i64 j)).setCell ⟨w4.heap.size, k, none⟩ (.int .u64 j)) (some ⟨w4.heap.size, 0, none⟩) m m (setN m (fun k => (dJ zs k : Int)) (k + 1))) := Lib.hid (by rw [setN, ← hJ.out]; exact hd7)
      have gs2 := grownBy_setCell1 (w5.setCell ⟨w2.heap.size, v, none⟩ (.int .i64 j)) ⟨w4.heap.size, k, none⟩ (.int .u64 j)
      have HB7 := Lib.hid (HB6.out.elsewhere gs2 (by show w1.heap.size ≠ w4.heap.size; omega))
      have HX7 := Lib.hid (HX6.out.grown gs2 (by intro e; injection e with e; replace e : w3.heap.size = w4.heap.size := e; omega))
      have HW7 := Lib.hid (HW5.out.elsewhere gs2 (by show w2.heap.size ≠ w4.heap.size; omega))
      have HG7 : Hid (Grew w ((w5.setCell ⟨w2.heap.size, v, none⟩ (.int .i64 j)).setCell ⟨w4.heap.size, k, none⟩ (.int .u64 j))) := Lib.hid (Below.setCell (Below.setCell HG5.out (p := ⟨w2.heap.size, v, none⟩) (show w.heap.size ≤ w2.heap.size by omega) _) (p := ⟨w4.heap.size, k, none⟩) (show w.heap.size ≤ w4.heap.size by omega) _)
      clear hb5 g5 e3 e4 e5 hw5 hd6 hd7 gs1 gs2 HEx hzv
      go_wp2
      go_roundw
      case rel => exact ⟨k + 1, by omega, by go_num, HB7, HX7, HD7, HG7, _, HW7, HSt⟩
      case measure => simp [intOf]; omega
    · obtain rfl : k = m := by omega
      go_wp2
      go_ret2
      exact ⟨⟨_, _, rfl, by rw [← HE.out]; exact HD.out.mono (by omega)⟩, HG.out⟩
end Go.Proofs.Ythhhbopigehbhaa
