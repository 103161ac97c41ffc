/- The reference's Even and Blocks. Conditions: n and k are at most 3000, the size is an int. -/
import Derived.Test.YtdcpankbolfmiaaPd
import Derived.Test.YtdcpankbolfmiaaIa
namespace Go.Proofs.Ytdcpankbolfmiaa
open Go.RowKit

theorem reven_none (n k : Int) (w : World) (h : n < 0 ∨ k < 1) :
    Calls Try.prog 38 #[.int .i64 n, .int .i64 k] w fun e w' => e = .returned (.slice none 0 0) ∧ w = w' := by
  by_cases h1 : n < 0
  · go_enter Try.func38, Try.ntmps38
    go_wp2
    go_ret
    exact ⟨rfl, rfl⟩
  · have h2 : k < 1 := by omega
    go_enter Try.func38, Try.ntmps38
    go_wp2
    go_ret
    exact ⟨rfl, rfl⟩
theorem evenV_take {n k j : Nat} (h : j < k) : rcells ((evenV n k).take (j + 1)) = rcells ((evenV n k).take j) ++ [.int .i64 (stV n k j : Nat), .int .i64 (stV n k (j + 1) : Nat)] := by
  rw [rcells_take (by rw [evenV_len]; exact h), evenV_at h]
theorem blkV_take {n s j : Nat} (h : j < cntV n s) : rcells ((blkV n s).take (j + 1)) = rcells ((blkV n s).take j) ++ [.int .i64 (j * s : Nat), .int .i64 (min n ((j + 1) * s) : Nat)] := by
  rw [rcells_take (by rw [blkV_len]; exact h), blkV_at h]

set_option maxHeartbeats 1000000 in
theorem reven_some (n k : Nat) (w : World) (hn : n ≤ 3000) (hk0 : 0 < k) (hk : k ≤ 3000) :
    Calls Try.prog 38 #[.int .i64 n, .int .i64 k] w fun e w' => (∃ a c, e = .returned (.slice a k c) ∧ BufR 84 w.heap.size w' a k c (evenV n k)) ∧ Grew w w' := by
  have hmk := run_make_row' (P := Try.prog) 38 3 (.int .i64 0) 8 Try.underlying38 (by kernel_rfl) rfl .i64 .i64 k (by omega) (by omega)
  have HB0 := Lib.hid (BufI.made 3 w k (by omega))
  obtain ⟨i0, hi0, hz0, hz1, hz2⟩ := info_parts info_rrange
  go_enter Try.func38, Try.ntmps38
  go_wp2
  go_loopw [6] (fun x wr => ∃ i : Nat, i ≤ n ∧ x = .int .i64 i ∧ Hid (BufI 3 w.heap.size wr (some ⟨w.heap.size, 0, none⟩) k k (szK k i)) ∧ Hid (Grew w wr)) (fun x _ => n - (intOf x).toNat)
  case atStart => exact ⟨0, Nat.zero_le _, rfl, HB0, Lib.hid ((Grew.refl _).alloc _)⟩
  case round =>
    obtain ⟨i, hi, rfl, HB, HG⟩ := hrel
    by_cases hlt : i < n
    · have hml := Nat.mod_lt i hk0

      obtain ⟨g, e, _, hg, hc, hf⟩ := HB.out.at hml
      obtain ⟨rfl⟩ : g = w.heap.size := by injection e with e; injection e with e; exact e.symm
      clear e
      have hsm := szK_small (i := i) hk0 hml
      have hz : el (szK k i) (i % k) + 1 ≤ 1000000 := by omega
      have hz2' : 0 ≤ el (szK k i) (i % k) := hsm.1
      have HS1 := Lib.hid (HB.out.set (i % k) (el (szK k i) (i % k) + 1))
      have HG1 : Hid (Grew w (wr.setCell ⟨w.heap.size, i % k, none⟩ (.int .i64 (el (szK k i) (i % k) + 1)))) := Lib.hid (HG.out.setCell (Nat.le_refl _) _)
      have HK : Hid ((szK k i).set (i % k) (el (szK k i) (i % k) + 1) = szK k (i + 1)) := Lib.hid rfl
      rw [HK.out] at HS1
      clear HK hsm
      generalize el (szK k i) (i % k) = z at *
      go_wp2_with fail
      go_roundw
      case rel => exact ⟨i + 1, by omega, by go_num, HS1, HG1⟩
      case measure => simp [intOf]; omega
    · obtain rfl : i = n := by omega
      clear hlt
      have HB1 := HB
      have HG0 := HG
      clear HB HG
      rename World => W1
      go_wp2_with fail
      go_loopw [7, 8, 9] (fun v x y wq => ∃ j : Nat, j ≤ k ∧ y = .int .i64 j ∧ x = .int .i64 (stV i k j : Nat) ∧ Hid (wq.ownsRow W1.heap.size 84 2 v j (rcells ((evenV i k).take j))) ∧ Hid (Grew W1 wq)) (fun _ _ y _ => k - (intOf y).toNat)
      case atStart => exact ⟨0, Nat.zero_le _, rfl, by rw [stV_zero]; rfl, Lib.hid (World.ownsRow_nil _ _ _ _), Lib.hid (Grew.refl _)⟩
      case round =>
        obtain ⟨j, hj, rfl, rfl, HB, HG⟩ := hrel
        by_cases hlt : j < k
        · obtain ⟨g, e, _, hg, hc, _⟩ := HB1.out.at hlt
          obtain ⟨rfl⟩ : g = w.heap.size := by injection e with e; injection e with e; exact e.symm
          clear e
          have hst := szK_step (n := i) hk0 hlt
          have hsl := stV_le (n := i) (k := k) (i := j + 1) (by omega) hk0
          have hsm := szK_small (i := i) hk0 hlt
          have HS := Lib.hid (evenV_take (n := i) hlt)
          generalize el (szK k i) j = z at *
          have HN := Lib.hid hst
          have hcq : wr.cell? ⟨w.heap.size, j, none⟩ = some (.int .i64 z) := (Below.cell HG.out (p := ⟨w.heap.size, j, none⟩) hg).trans hc
          have hgq : w.heap.size < wr.heap.size := Nat.lt_of_lt_of_le hg HG.out.size
          have hw : (stV i k j : Nat) + z ≤ 3000 := by omega
          have hz0' : 0 ≤ z := hsm.1
          clear hst hsl hsm
          go_wp2_with (at_builtin; refine wpList_append_own _ rfl _ _ 82 rfl W1.heap.size 84 i0 (.agg #[.int .i64 0, .int .i64 0]) 2 16 Try.underlying82 hi0 hz0 hz1 hz2 rfl (by decide) _ j _ rfl (HB.out.alloc _) ⟨wr.heap.size, 0, none⟩ 1 1 [.int .i64 (stV i k j : Nat), .int .i64 ((stV i k j : Nat) + z)] rfl ?qc1 ?qc2 ?qc3 ?qc4 ?qc5 ?qc6 ?_)
          case qc1 => rfl
          case qc2 => exact cell_two_new _ _ _ _
          case qc3 => intro u hu; simp only [List.mem_cons, List.not_mem_nil, or_false] at hu; rcases hu with rfl | rfl <;> rfl
          case qc4 => unfold maxLen; omega
          case qc5 => omega
          case qc6 => have := HG.out.size; simp; omega
          intro v' w1 hown hgrow hnil
          have HO : Hid (w1.ownsRow W1.heap.size 84 2 v' (j + 1) (rcells ((evenV i k).take (j + 1)))) := Lib.hid (by rw [HS.out, HN.out]; exact hown)
          have hG1 : Grew W1 w1 := Below.grown (HG.out.alloc _) hgrow (by have := HG.out.size; simp; omega) (fun b hb => (World.ownsRow.lt HB.out b hb).1)
          have HG1 := Lib.hid hG1
          have hc1 : w1.cell? ⟨w.heap.size, j, none⟩ = some (.int .i64 z) := (Below.cell hG1 (p := ⟨w.heap.size, j, none⟩) hg).trans hc
          clear hown hgrow hnil hG1
          go_wp2_with fail
          go_roundw
          case rel => exact ⟨j + 1, by omega, by go_num, by rw [HN.out], HO, HG1⟩
          case measure => simp [intOf]; omega
        · obtain rfl : j = k := by omega
          obtain ⟨s', c', rfl, hb⟩ := own_ranges HB.out
          rw [List.take_of_length_le (by rw [evenV_len]; exact Nat.le_refl _)] at hb
          have HB' := Lib.hid hb
          clear hb
          go_wp2
          go_ret
          exact ⟨⟨_, _, rfl, HB'.out.mono HG0.out.size⟩, HG0.out.trans HG.out⟩

end Go.Proofs.Ytdcpankbolfmiaa
