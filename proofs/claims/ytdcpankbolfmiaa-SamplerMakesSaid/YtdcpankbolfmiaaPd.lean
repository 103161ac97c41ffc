/- Package part: Even, Count, Blocks. Conditions: n and k are at most 3000, the size is an int. -/
import Derived.Test.YtdcpankbolfmiaaPc
import Derived.Test.YtdcpankbolfmiaaPm
namespace Go.Proofs.Ytdcpankbolfmiaa
open Go.RowKit

theorem BufR.made (w : World) (n : Nat) (h : n ≤ 35184372088832) : BufR 81 w.heap.size (w.alloc (.cells (madeCells #[.int .i64 0, .int .i64 0] (n * 2)) 81)) (some ⟨w.heap.size, 0, none⟩) n n (List.replicate n (0, 0)) := by
  have h1 := World.ownsRow_lit (e := 81) (size := 2) (base := w.heap.size) w (madeCells #[.int .i64 0, .int .i64 0] (n * 2)) n (Nat.le_refl _) (by unfold maxLen; omega) (by simp [size_madeCells])
  unfold BufR
  rw [rcells_zero] at h1
  exact h1
theorem run_make_ranges (n : Nat) (h : n ≤ 1073741824) (w : World) : (Instr.makeSlice 66 (.int .i64 (n : Int)) (.int .i64 (n : Int))).run Try.prog w = .ok (.slice (some ⟨w.heap.size, 0, none⟩) n n) (w.alloc (.cells (madeCells #[.int .i64 0, .int .i64 0] (n * 2)) 81)) := by
  obtain ⟨i, hi, hz0, hz1, hz2⟩ := info_parts info_range
  have hr := run_make (P := Try.prog) w 66 81 i _ Try.underlying66 hi hz0 .i64 .i64 n n (by omega) (Int.le_refl _) (by rw [hz2]; omega) (by omega)
  simp only [Int.toNat_natCast, hz1] at hr
  exact hr

theorem even_none (n k : Int) (w : World) (h : n < 0 ∨ k < 1) :
    Calls Try.prog 37 #[.int .i64 n, .int .i64 k] w fun e w' => e = .returned (.slice none 0 0) ∧ w = w' := by
  by_cases h1 : n < 0
  · go_enter Try.func37, Try.ntmps37
    go_wp2
    go_ret
    exact ⟨rfl, rfl⟩
  · have h2 : k < 1 := by omega
    go_enter Try.func37, Try.ntmps37
    go_wp2
    go_ret
    exact ⟨rfl, rfl⟩

theorem wrap_nat {z : Int} {m : Nat} (h : z = (m : Int)) (hm : m ≤ 1000000000000) : wrap64 z = (m : Int) := by
  subst h
  unfold wrap64
  omega
theorem quo_nat (n k : Nat) : ((n : Int) / (k : Int)) = ((n / k : Nat) : Int) := by simp
theorem even_step_lt {n k i : Nat} (hn : n ≤ 3000) (hk : 0 < k) (hi : i < k) (hm : i < n % k) : wrap64 ((stV n k i : Nat) + wrap64 (wrap64 ((n : Int) / (k : Int)) + 1)) = ((stV n k (i + 1) : Nat) : Int) := by
  have hq := Nat.div_le_self n k
  have hs := stV_le (n := n) (k := k) (i := i + 1) (by omega) hk
  have hS := stV_succ_lt hm
  generalize stV n k i = a at *
  generalize stV n k (i + 1) = b at *
  rw [quo_nat]
  generalize n / k = q at *
  rw [wrap_nat (m := q) rfl (by omega), wrap_nat (z := (q : Int) + 1) (m := q + 1) (by omega) (by omega), wrap_nat (m := b) (by omega) (by omega)]
theorem even_step_ge {n k i : Nat} (hn : n ≤ 3000) (hk : 0 < k) (hi : i < k) (hm : ¬ i < n % k) : wrap64 ((stV n k i : Nat) + wrap64 ((n : Int) / (k : Int))) = ((stV n k (i + 1) : Nat) : Int) := by
  have hq := Nat.div_le_self n k
  have hs := stV_le (n := n) (k := k) (i := i + 1) (by omega) hk
  have hS := stV_succ_ge hm
  generalize stV n k i = a at *
  generalize stV n k (i + 1) = b at *
  rw [quo_nat]
  generalize n / k = q at *
  rw [wrap_nat (m := q) rfl (by omega), wrap_nat (m := b) (by omega) (by omega)]

theorem even_some (n k : Nat) (w : World) (hn : n ≤ 3000) (hk0 : 0 < k) (hk : k ≤ 3000) :
    Calls Try.prog 37 #[.int .i64 n, .int .i64 k] w fun e w' => e = .returned (.slice (some ⟨w.heap.size, 0, none⟩) k k) ∧ BufR 81 w.heap.size w' (some ⟨w.heap.size, 0, none⟩) k k (evenV n k) ∧ Grew w w' := by
  have hmk := run_make_ranges k (by omega)
  have HB0 := Lib.hid (BufR.made w k (by omega))
  go_enter Try.func37, Try.ntmps37
  go_wp2
  go_loopw [6, 22] (fun x y wr => ∃ i : Nat, i ≤ k ∧ y = .int .i64 i ∧ x = .int .i64 (stV n k i : Nat) ∧ Hid (BufR 81 w.heap.size wr (some ⟨w.heap.size, 0, none⟩) k k (fillP n k i)) ∧ Hid (Grew w wr)) (fun _ y _ => k - (intOf y).toNat)
  case atStart => exact ⟨0, Nat.zero_le _, rfl, by rw [stV_zero]; rfl, HB0, Lib.hid ((Grew.refl _).alloc _)⟩
  case round =>
    obtain ⟨i, hi, rfl, rfl, HB, HG⟩ := hrel
    by_cases hlt : i < k
    · obtain ⟨hc1, hc2, hf1, hf2⟩ := HB.out.at hlt
      by_cases hm : i < n % k
      · skip
        have HW := Lib.hid (even_step_lt hn hk0 hlt hm)
        have hm' : (i : Int) < (n : Int) % (k : Int) := by exact_mod_cast hm
        have HS1 := Lib.hid (HB.out.set i ((stV n k i : Nat), (stV n k (i + 1) : Nat)))
        have HG1 : Hid (Grew w ((wr.setCell ⟨w.heap.size, i * 2, none⟩ (.int .i64 (stV n k i : Nat))).setCell ⟨w.heap.size, i * 2 + 1, none⟩ (.int .i64 (stV n k (i + 1) : Nat)))) := Lib.hid ((HG.out.setCell (Nat.le_refl _) _).setCell (Nat.le_refl _) _)
        clear hm
        go_wp2
        go_roundw
        case rel => rw [HW.out]; exact ⟨i + 1, by omega, by go_num, rfl, HS1, HG1⟩
        case measure => simp [intOf]; omega
      · skip
        have HW := Lib.hid (even_step_ge hn hk0 hlt hm)
        have hm' : ¬ (i : Int) < (n : Int) % (k : Int) := by intro h; exact hm (by exact_mod_cast h)
        have HS1 := Lib.hid (HB.out.set i ((stV n k i : Nat), (stV n k (i + 1) : Nat)))
        have HG1 : Hid (Grew w ((wr.setCell ⟨w.heap.size, i * 2, none⟩ (.int .i64 (stV n k i : Nat))).setCell ⟨w.heap.size, i * 2 + 1, none⟩ (.int .i64 (stV n k (i + 1) : Nat)))) := Lib.hid ((HG.out.setCell (Nat.le_refl _) _).setCell (Nat.le_refl _) _)
        clear hm
        go_wp2
        go_roundw
        case rel => rw [HW.out]; exact ⟨i + 1, by omega, by go_num, rfl, HS1, HG1⟩
        case measure => simp [intOf]; omega
    · obtain rfl : i = k := by omega
      have HE := Lib.hid (fillP_end n i)
      go_wp2
      go_ret
      exact ⟨rfl, by rw [← HE.out]; exact HB.out, HG.out⟩

theorem count_none (n s : Int) (w : World) (h : n < 1 ∨ s < 1) :
    Calls Try.prog 20 #[.int .i64 n, .int .i64 s] w fun e w' => e = .returned (.int .i64 0) ∧ w = w' := by
  by_cases h1 : n < 1
  · go_enter Try.func20, Try.ntmps20
    go_wp2
    go_ret
    exact ⟨rfl, rfl⟩
  · have h2 : s < 1 := by omega
    go_enter Try.func20, Try.ntmps20
    go_wp2
    go_ret
    exact ⟨rfl, rfl⟩
theorem count_math {n s : Nat} (hn : n ≤ 3000) (hn0 : 0 < n) : wrap64 (((n : Int) - 1) / (s : Int) + 1) = ((cntV n s : Nat) : Int) := by
  have hc := Nat.div_le_self (n - 1) s
  have h1 : ((n : Int) - 1) = ((n - 1 : Nat) : Int) := by omega
  unfold cntV
  rw [h1, quo_nat]
  generalize (n - 1) / s = q at *
  rw [wrap_nat (z := (q : Int) + 1) (m := q + 1) (by omega) (by omega)]
theorem count_some (n s : Nat) (w : World) (hn : n ≤ 3000) (hn0 : 0 < n) (hs0 : 0 < s) (hs : s ≤ 9223372036854775807) :
    Calls Try.prog 20 #[.int .i64 n, .int .i64 s] w fun e w' => e = .returned (.int .i64 (cntV n s : Nat)) ∧ w = w' := by
  have HC := Lib.hid (count_math (s := s) hn hn0)
  go_enter Try.func20, Try.ntmps20
  go_wp2
  go_ret
  exact ⟨ret_int HC.out, rfl⟩

end Go.Proofs.Ytdcpankbolfmiaa
