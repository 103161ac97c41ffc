/- Package perm: Valid, Need, numbers, bounds, Inverse, Compose. Condition: at most 2^44 numbers. -/
import Derived.Test.YthhhbopigehbhaaTb
namespace Go.Proofs.Ythhhbopigehbhaa
open Go.RowKit

/-- What the map's block alone has changed, and new blocks: nothing that was there before the map was made. -/
theorem grew_marked {w w1 w2 : World} {b : Nat} (g : Grew w w1) (hg : w1.grownBy w2 (some b)) (hb : w.heap.size ≤ b) : Grew w w2 :=
  g.trans_below (grownBy_below hg hb g.size) (Nat.le_refl _)
theorem valid_any (a : Option Addr) (c : Nat) (zs : List Int) (w : World) (hl : zs.length ≤ 17592186044416) (hf : Fit zs) (h : RdK .i64 w.heap.size w a zs) :
    Calls Try.prog 16 #[.slice a zs.length c] w fun e w' => e = .returned (.bool (validB zs)) ∧ Grew w w' := by
  have hmm := run_makeMarks zs.length
  have g0 : Grew w (w.alloc (.map #[] 0)) := (Grew.refl w).alloc _
  have HX := Lib.hid (h.grow g0)
  have HM := Lib.hid (Mk.made w)
  have HG := Lib.hid g0
  clear h g0
  go_enter Try.func16, Try.ntmps16
  go_wp2_with fail
  refine (perm_any a c zs _ hl hf HM.out HX.out).mono ?_
  rintro e w1 ⟨rfl, _, hg⟩
  have HG1 := Lib.hid (grew_marked HG.out hg (Nat.le_refl _))
  clear hg
  go_wp2
  go_ret
  exact ⟨rfl, HG1.out⟩

theorem need_any (n : Nat) (w : World) (hn : n ≤ 17592186044416) : Calls Try.prog 23 #[.int .i64 n] w fun e w' => e = .returned (.int .i64 (n - 1 : Nat)) ∧ w = w' := by
  rcases Nat.eq_zero_or_pos n with rfl | h0
  · go_enter Try.func23, Try.ntmps23
    go_wp2
    go_ret
    exact ⟨rfl, rfl⟩
  · obtain ⟨m, rfl⟩ : ∃ m, n = m + 1 := ⟨n - 1, by omega⟩
    go_enter Try.func23, Try.ntmps23
    go_wp2
    go_ret
    refine ⟨ret_int ?_, rfl⟩
    omega

def setN (n : Nat) (f : Nat → Int) : Nat → List Int
  | 0 => List.replicate n 0
  | k + 1 => (setN n f k).set k (f k)
theorem setN_len (n : Nat) (f : Nat → Int) : ∀ k, (setN n f k).length = n
  | 0 => by simp [setN]
  | k + 1 => by rw [setN, List.length_set, setN_len n f k]
theorem setN_el (n : Nat) (f : Nat → Int) {j : Nat} (hj : j < n) : ∀ k, j < k → el (setN n f k) j = f j
  | 0, h => by omega
  | k + 1, h => by
    rw [setN]
    by_cases e : j = k
    · subst e; exact el_set_same _ (by rw [setN_len]; exact hj)
    · rw [el_set_other _ (by omega), setN_el n f hj k (by omega)]
theorem setN_nums (n : Nat) : setN n (fun k => (k : Int)) n = nums n :=
  el_ext (by rw [setN_len, nums_len]) (fun j hj => by rw [setN_len] at hj; rw [setN_el n _ hj n hj, nums_el hj])
/-- The bounds of the draws that shuffle n numbers. -/
def bnds (n : Nat) : List Int := (List.range (n - 1)).map fun (k : Nat) => (n : Int) - (k : Int)
theorem bnds_len (n : Nat) : (bnds n).length = n - 1 := by simp [bnds]
theorem bnds_el {n k : Nat} (h : k < n - 1) : el (bnds n) k = (n : Int) - (k : Int) := by unfold el bnds; simp [h]
theorem setN_bnds (n : Nat) : setN (n - 1) (fun k => (n : Int) - (k : Int)) (n - 1) = bnds n :=
  el_ext (by rw [setN_len, bnds_len]) (fun j hj => by rw [setN_len] at hj; rw [setN_el _ _ hj _ hj, bnds_el hj])

set_option maxHeartbeats 1000000 in
theorem numbers_any (n : Nat) (w : World) (hn : n ≤ 17592186044416) : Calls Try.prog 21 #[.int .i64 n] w fun e w' => e = .returned (.slice (some ⟨w.heap.size, 0, none⟩) n n) ∧ BufK .i64 3 w.heap.size w' (some ⟨w.heap.size, 0, none⟩) n n (nums n) ∧ Grew w w' := by
  have hmk := run_make_row' (P := Try.prog) 22 3 (.int .i64 0) 8 Try.underlying22 (by kernel_rfl) rfl .i64 .i64 n (by omega) (by omega)
  have HG0 := Lib.hid ((Grew.refl w).alloc (.cells (madeCells #[.int .i64 0] n) 3))
  have HB0 : Hid (BufK .i64 3 w.heap.size (w.alloc (.cells (madeCells #[.int .i64 0] n) 3)) (some ⟨w.heap.size, 0, none⟩) n n (setN n (fun k => (k : Int)) 0)) := Lib.hid (BufK.made .i64 3 w n (by unfold maxLen; omega))
  go_enter Try.func21, Try.ntmps21
  go_wp2
  go_loopw [8] (fun x wr => ∃ k : Nat, k ≤ n ∧ x = .int .i64 k ∧ Hid (BufK .i64 3 w.heap.size wr (some ⟨w.heap.size, 0, none⟩) n n (setN n (fun k => (k : Int)) k)) ∧ Hid (Grew w wr)) (fun x _ => n - (intOf x).toNat)
  case atStart => exact ⟨0, Nat.zero_le _, rfl, HB0, HG0⟩
  case round =>
    obtain ⟨k, hk, rfl, HB, HG⟩ := hrel
    by_cases hlt : k < n
    · obtain ⟨g3, e3, _, hg3, hc3, hf3⟩ := HB.out.at hlt
      obtain rfl : g3 = w.heap.size := by injection e3 with e3; injection e3 with e3; exact e3.symm
      have HS1 : Hid (BufK .i64 3 w.heap.size (wr.setCell ⟨w.heap.size, k, none⟩ (.int .i64 k)) (some ⟨w.heap.size, 0, none⟩) n n (setN n (fun k => (k : Int)) (k + 1))) := Lib.hid (HB.out.set k k)
      have HG1 : Hid (Grew w (wr.setCell ⟨w.heap.size, k, none⟩ (.int .i64 k))) := Lib.hid (Below.setCell HG.out (p := ⟨w.heap.size, k, none⟩) (Nat.le_refl _) _)
      clear e3
      go_wp2
      go_roundw
      case rel => exact ⟨k + 1, by omega, by go_num, HS1, HG1⟩
      case measure => simp [intOf]; omega
    · obtain rfl : k = n := by omega
      have HE := Lib.hid (setN_nums k)
      go_wp2
      go_ret
      exact ⟨rfl, by rw [← HE.out]; exact HB.out, HG.out⟩

set_option maxHeartbeats 1000000 in
theorem bounds_any (n : Nat) (w : World) (hn : n ≤ 17592186044416) : Calls Try.prog 27 #[.int .i64 n] w fun e w' => e = .returned (.slice (some ⟨w.heap.size, 0, none⟩) (n - 1 : Nat) (n - 1 : Nat)) ∧ BufK .i64 3 w.heap.size w' (some ⟨w.heap.size, 0, none⟩) (n - 1) (n - 1) (bnds n) ∧ Grew w w' := by
  have hneed := Lib.hid (need_any n w hn)
  obtain ⟨m, hm⟩ : ∃ m, m = n - 1 := ⟨_, rfl⟩
  have HE : Hid (setN m (fun k => (n : Int) - (k : Int)) m = bnds n) := Lib.hid (by rw [hm]; exact setN_bnds n)
  rw [← hm] at hneed ⊢
  have hmn : m ≤ n := by omega
  clear hm
  have hmk := run_make_row' (P := Try.prog) 22 3 (.int .i64 0) 8 Try.underlying22 (by kernel_rfl) rfl .i64 .i64 m (by omega) (by omega)
  have HG0 := Lib.hid ((Grew.refl w).alloc (.cells (madeCells #[.int .i64 0] m) 3))
  have HB0 : Hid (BufK .i64 3 w.heap.size (w.alloc (.cells (madeCells #[.int .i64 0] m) 3)) (some ⟨w.heap.size, 0, none⟩) m m (setN m (fun k => (n : Int) - (k : Int)) 0)) := Lib.hid (BufK.made .i64 3 w m (by unfold maxLen; omega))
  go_enter Try.func27, Try.ntmps27
  go_wp2_with fail
  refine hneed.out.mono ?_
  rintro e w1 ⟨rfl, rfl⟩
  go_wp2
  go_loopw [10] (fun x wr => ∃ k : Nat, k ≤ m ∧ x = .int .i64 k ∧ Hid (BufK .i64 3 w.heap.size wr (some ⟨w.heap.size, 0, none⟩) m m (setN m (fun k => (n : Int) - (k : Int)) k)) ∧ Hid (Grew w wr)) (fun x _ => m - (intOf x).toNat)
  case atStart => exact ⟨0, Nat.zero_le _, rfl, HB0, HG0⟩
  case round =>
    obtain ⟨k, hk, rfl, HB, HG⟩ := hrel
    by_cases hlt : k < m
    · obtain ⟨g3, e3, _, hg3, hc3, hf3⟩ := HB.out.at hlt
      obtain rfl : g3 = w.heap.size := by injection e3 with e3; injection e3 with e3; exact e3.symm
      have HS1 : Hid (BufK .i64 3 w.heap.size (wr.setCell ⟨w.heap.size, k, none⟩ (.int .i64 ((n : Int) - (k : Int)))) (some ⟨w.heap.size, 0, none⟩) m m (setN m (fun k => (n : Int) - (k : Int)) (k + 1))) := Lib.hid (HB.out.set k _)
      have HG1 : Hid (Grew w (wr.setCell ⟨w.heap.size, k, none⟩ (.int .i64 ((n : Int) - (k : Int))))) := Lib.hid (Below.setCell HG.out (p := ⟨w.heap.size, k, none⟩) (Nat.le_refl _) _)
      clear e3
      go_wp2
      go_roundw
      case rel => exact ⟨k + 1, by omega, by go_num, HS1, HG1⟩
      case measure => simp [intOf]; omega
    · obtain rfl : k = m := by omega
      go_wp2
      go_ret
      exact ⟨rfl, by rw [← HE.out]; exact HB.out, HG.out⟩

theorem valid_n {n : Nat} (a : Option Addr) (c : Nat) (zs : List Int) (w : World) (hz : zs.length = n) (hl : n ≤ 17592186044416) (hf : Fit zs) (h : RdK .i64 w.heap.size w a zs) :
    Calls Try.prog 16 #[.slice a n c] w fun e w' => e = .returned (.bool (validB zs)) ∧ Grew w w' := by
  subst hz; exact valid_any a c zs w hl hf h

set_option maxHeartbeats 1000000 in
theorem inverse_no (a : Option Addr) (c : Nat) (zs : List Int) (w : World) (hl : zs.length ≤ 17592186044416) (hf : Fit zs) (h : RdK .i64 w.heap.size w a zs) (hv : validB zs = false) :
    Calls Try.prog 14 #[.slice a zs.length c] w fun e w' => e = .returned (.tuple #[.slice none 0 0, .bool false]) ∧ Grew w w' := by
  have HV := Lib.hid (valid_any a c zs w hl hf h)
  rw [hv] at HV
  clear h hv
  go_enter Try.func14, Try.ntmps14
  go_wp2_with fail
  refine HV.out.mono ?_
  rintro e w1 ⟨rfl, g1⟩
  have HG1 := Lib.hid g1
  clear g1
  go_wp2
  go_ret2
  exact ⟨rfl, HG1.out⟩
set_option maxHeartbeats 1000000 in
theorem inverse_yes (a : Option Addr) (c : Nat) (zs : List Int) (w : World) (hl : zs.length ≤ 17592186044416) (hf : Fit zs) (h : RdK .i64 w.heap.size w a zs) (hv : IsP zs) :
    Calls Try.prog 14 #[.slice a zs.length c] w fun e w' => (∃ a' c', e = .returned (.tuple #[.slice a' zs.length c', .bool true]) ∧ BufK .i64 3 w.heap.size w' a' zs.length c' (invL zs)) ∧ Grew w w' := by
  have HV := Lib.hid (valid_any a c zs w hl hf h)
  rw [validB_yes hv] at HV
  have HX := Lib.hid h
  have HR := Lib.hid (fun j hj => isP_ran hv (j := j) hj)
  have hmk := run_make_row' (P := Try.prog) 22 3 (.int .i64 0) 8 Try.underlying22 (by kernel_rfl) rfl .i64 .i64 zs.length (by omega) (by omega)
  clear h hv
  go_enter Try.func14, Try.ntmps14
  go_wp2_with fail
  refine HV.out.mono ?_
  rintro e w1 ⟨rfl, g1⟩
  have HG0 := Lib.hid (g1.alloc (.cells (madeCells #[.int .i64 0] zs.length) 3))
  have hs1 := g1.size
  have HB0 : Hid (BufK .i64 3 w1.heap.size (w1.alloc (.cells (madeCells #[.int .i64 0] zs.length) 3)) (some ⟨w1.heap.size, 0, none⟩) zs.length zs.length (invK zs 0)) := Lib.hid (BufK.made .i64 3 w1 zs.length (by unfold maxLen; omega))
  clear g1
  go_wp2
  go_loopw [15] (fun x wr => ∃ k : Nat, k ≤ zs.length ∧ x = .int .i64 k ∧ Hid (BufK .i64 3 w1.heap.size wr (some ⟨w1.heap.size, 0, none⟩) zs.length zs.length (invK zs k)) ∧ Hid (Grew w wr)) (fun x _ => zs.length - (intOf x).toNat)
  case atStart => exact ⟨0, Nat.zero_le _, rfl, HB0, HG0⟩
  case round =>
    obtain ⟨k, hk, rfl, HB, HG⟩ := hrel
    by_cases hlt : k < zs.length
    · obtain ⟨g, off, rfl, hg, hc⟩ := (HX.out.below HG.out).at hlt
      obtain ⟨y, hy, hz⟩ := HR.out k hlt
      obtain ⟨g3, e3, _, hg3, hc3, hf3⟩ := HB.out.at hy
      obtain rfl : g3 = w1.heap.size := by injection e3 with e3; injection e3 with e3; exact e3.symm
      have HS1 : Hid (BufK .i64 3 w1.heap.size (wr.setCell ⟨w1.heap.size, y, none⟩ (.int .i64 k)) (some ⟨w1.heap.size, 0, none⟩) zs.length zs.length (invK zs (k + 1))) := Lib.hid (by
        have := HB.out.set y k
        rw [invK, hz, Int.toNat_natCast]
        exact this)
      have HG1 : Hid (Grew w (wr.setCell ⟨w1.heap.size, y, none⟩ (.int .i64 k))) := Lib.hid (Below.setCell HG.out (p := ⟨w1.heap.size, y, none⟩) hs1 _)
      rw [hz] at hc
      clear e3 hz
      go_wp2
      go_roundw
      case rel => exact ⟨k + 1, by omega, by go_num, HS1, HG1⟩
      case measure => simp [intOf]; omega
    · obtain rfl : k = zs.length := by omega
      go_wp2
      go_ret2
      exact ⟨⟨_, _, rfl, HB.out.mono hs1⟩, HG.out⟩
end Go.Proofs.Ythhhbopigehbhaa
