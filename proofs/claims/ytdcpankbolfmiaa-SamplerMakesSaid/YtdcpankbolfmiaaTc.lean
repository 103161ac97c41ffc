/- Package perm: Valid, Need, numbers, bounds, Inverse, Compose. Condition: at most 2^44 numbers. -/
import Derived.Test.YtdcpankbolfmiaaTb
namespace Go.Proofs.Ytdcpankbolfmiaa
open Go.RowKit

/-- What the map's block alone has changed, and new blocks: nothing that was there before the map was made. -/
theorem grew_marked {w w1 w2 : World} {b : Nat} (g : Grew w w1) (hg : w1.grownBy w2 (some b)) (hb : w.heap.size ≤ b) : Grew w w2 :=
  g.trans_below (grownBy_below hg hb g.size) (Nat.le_refl _)
theorem need_any (n : Nat) (w : World) (hn : n ≤ 17592186044416) : Calls Try.prog 21 #[.int .i64 n] w fun e w' => e = .returned (.int .i64 (n - 1 : Nat)) ∧ w = w' := by
  rcases Nat.eq_zero_or_pos n with rfl | h0
  · go_enter Try.func21, Try.ntmps21
    go_wp2
    go_ret
    exact ⟨rfl, rfl⟩
  · obtain ⟨m, rfl⟩ : ∃ m, n = m + 1 := ⟨n - 1, by omega⟩
    go_enter Try.func21, Try.ntmps21
    go_wp2
    go_ret
    refine ⟨ret_int ?_, rfl⟩
    omega

def setN (n : Nat) (f : Nat → Int) : Nat → List Int
  | 0 => List.replicate n 0
  | k + 1 => (setN n f k).set k (f k)
theorem setN_len (n : Nat) (f : Nat → Int) : ∀ k, (setN n f k).length = n
  | 0 => by simp [setN]
  | k + 1 => by rw [setN, List.length_set, setN_len n f k]
theorem setN_el (n : Nat) (f : Nat → Int) {j : Nat} (hj : j < n) : ∀ k, j < k → el (setN n f k) j = f j
  | 0, h => by omega
  | k + 1, h => by
    rw [setN]
    by_cases e : j = k
    · subst e; exact el_set_same _ (by rw [setN_len]; exact hj)
    · rw [el_set_other _ (by omega), setN_el n f hj k (by omega)]
theorem setN_nums (n : Nat) : setN n (fun k => (k : Int)) n = nums n :=
  el_ext (by rw [setN_len, nums_len]) (fun j hj => by rw [setN_len] at hj; rw [setN_el n _ hj n hj, nums_el hj])
/-- The bounds of the draws that shuffle n numbers. -/
def bnds (n : Nat) : List Int := (List.range (n - 1)).map fun (k : Nat) => (n : Int) - (k : Int)
theorem bnds_len (n : Nat) : (bnds n).length = n - 1 := by simp [bnds]
theorem bnds_el {n k : Nat} (h : k < n - 1) : el (bnds n) k = (n : Int) - (k : Int) := by unfold el bnds; simp [h]
theorem setN_bnds (n : Nat) : setN (n - 1) (fun k => (n : Int) - (k : Int)) (n - 1) = bnds n :=
  el_ext (by rw [setN_len, bnds_len]) (fun j hj => by rw [setN_len] at hj; rw [setN_el _ _ hj _ hj, bnds_el hj])

set_option maxHeartbeats 1000000 in
theorem numbers_any (n : Nat) (w : World) (hn : n ≤ 17592186044416) : Calls Try.prog 42 #[.int .i64 n] w fun e w' => e = .returned (.slice (some ⟨w.heap.size, 0, none⟩) n n) ∧ BufK .i64 3 w.heap.size w' (some ⟨w.heap.size, 0, none⟩) n n (nums n) ∧ Grew w w' := by
  have hmk := run_make_row' (P := Try.prog) 38 3 (.int .i64 0) 8 Try.underlying38 (by kernel_rfl) rfl .i64 .i64 n (by omega) (by omega)
  have HG0 := Lib.hid ((Grew.refl w).alloc (.cells (madeCells #[.int .i64 0] n) 3))
  have HB0 : Hid (BufK .i64 3 w.heap.size (w.alloc (.cells (madeCells #[.int .i64 0] n) 3)) (some ⟨w.heap.size, 0, none⟩) n n (setN n (fun k => (k : Int)) 0)) := Lib.hid (BufK.made .i64 3 w n (by unfold maxLen; omega))
  go_enter Try.func42, Try.ntmps42
  go_wp2
  go_loopw [8] (fun x wr => ∃ k : Nat, k ≤ n ∧ x = .int .i64 k ∧ Hid (BufK .i64 3 w.heap.size wr (some ⟨w.heap.size, 0, none⟩) n n (setN n (fun k => (k : Int)) k)) ∧ Hid (Grew w wr)) (fun x _ => n - (intOf x).toNat)
  case atStart => exact ⟨0, Nat.zero_le _, rfl, HB0, HG0⟩
  case round =>
    obtain ⟨k, hk, rfl, HB, HG⟩ := hrel
    by_cases hlt : k < n
    · obtain ⟨g3, e3, _, hg3, hc3, hf3⟩ := HB.out.at hlt
      obtain rfl : g3 = w.heap.size := by injection e3 with e3; injection e3 with e3; exact e3.symm
      have HS1 : Hid (BufK .i64 3 w.heap.size (wr.setCell ⟨w.heap.size, k, none⟩ (.int .i64 k)) (some ⟨w.heap.size, 0, none⟩) n n (setN n (fun k => (k : Int)) (k + 1))) := Lib.hid (HB.out.set k k)
      have HG1 : Hid (Grew w (wr.setCell ⟨w.heap.size, k, none⟩ (.int .i64 k))) := Lib.hid (Below.setCell HG.out (p := ⟨w.heap.size, k, none⟩) (Nat.le_refl _) _)
      clear e3
      go_wp2
      go_roundw
      case rel => exact ⟨k + 1, by omega, by go_num, HS1, HG1⟩
      case measure => simp [intOf]; omega
    · obtain rfl : k = n := by omega
      have HE := Lib.hid (setN_nums k)
      go_wp2
      go_ret
      exact ⟨rfl, by rw [← HE.out]; exact HB.out, HG.out⟩

set_option maxHeartbeats 1000000 in
theorem bounds_any (n : Nat) (w : World) (hn : n ≤ 17592186044416) : Calls Try.prog 41 #[.int .i64 n] w fun e w' => e = .returned (.slice (some ⟨w.heap.size, 0, none⟩) (n - 1 : Nat) (n - 1 : Nat)) ∧ BufK .i64 3 w.heap.size w' (some ⟨w.heap.size, 0, none⟩) (n - 1) (n - 1) (bnds n) ∧ Grew w w' := by
  have hneed := Lib.hid (need_any n w hn)
  obtain ⟨m, hm⟩ : ∃ m, m = n - 1 := ⟨_, rfl⟩
  have HE : Hid (setN m (fun k => (n : Int) - (k : Int)) m = bnds n) := Lib.hid (by rw [hm]; exact setN_bnds n)
  rw [← hm] at hneed ⊢
  have hmn : m ≤ n := by omega
  clear hm
  have hmk := run_make_row' (P := Try.prog) 38 3 (.int .i64 0) 8 Try.underlying38 (by kernel_rfl) rfl .i64 .i64 m (by omega) (by omega)
  have HG0 := Lib.hid ((Grew.refl w).alloc (.cells (madeCells #[.int .i64 0] m) 3))
  have HB0 : Hid (BufK .i64 3 w.heap.size (w.alloc (.cells (madeCells #[.int .i64 0] m) 3)) (some ⟨w.heap.size, 0, none⟩) m m (setN m (fun k => (n : Int) - (k : Int)) 0)) := Lib.hid (BufK.made .i64 3 w m (by unfold maxLen; omega))
  go_enter Try.func41, Try.ntmps41
  go_wp2_with fail
  refine hneed.out.mono ?_
  rintro e w1 ⟨rfl, rfl⟩
  go_wp2
  go_loopw [10] (fun x wr => ∃ k : Nat, k ≤ m ∧ x = .int .i64 k ∧ Hid (BufK .i64 3 w.heap.size wr (some ⟨w.heap.size, 0, none⟩) m m (setN m (fun k => (n : Int) - (k : Int)) k)) ∧ Hid (Grew w wr)) (fun x _ => m - (intOf x).toNat)
  case atStart => exact ⟨0, Nat.zero_le _, rfl, HB0, HG0⟩
  case round =>
    obtain ⟨k, hk, rfl, HB, HG⟩ := hrel
    by_cases hlt : k < m
    · obtain ⟨g3, e3, _, hg3, hc3, hf3⟩ := HB.out.at hlt
      obtain rfl : g3 = w.heap.size := by injection e3 with e3; injection e3 with e3; exact e3.symm
      have HS1 : Hid (BufK .i64 3 w.heap.size (wr.setCell ⟨w.heap.size, k, none⟩ (.int .i64 ((n : Int) - (k : Int)))) (some ⟨w.heap.size, 0, none⟩) m m (setN m (fun k => (n : Int) - (k : Int)) (k + 1))) := Lib.hid (HB.out.set k _)
      have HG1 : Hid (Grew w (wr.setCell ⟨w.heap.size, k, none⟩ (.int .i64 ((n : Int) - (k : Int))))) := Lib.hid (Below.setCell HG.out (p := ⟨w.heap.size, k, none⟩) (Nat.le_refl _) _)
      clear e3
      go_wp2
      go_roundw
      case rel => exact ⟨k + 1, by omega, by go_num, HS1, HG1⟩
      case measure => simp [intOf]; omega
    · obtain rfl : k = m := by omega
      go_wp2
      go_ret
      exact ⟨rfl, by rw [← HE.out]; exact HB.out, HG.out⟩

end Go.Proofs.Ytdcpankbolfmiaa
