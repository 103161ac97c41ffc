/- Ranges that are appended: back and given of the statement; the reference's Even and Blocks. Conditions: at most 2^30 ranges. -/
import Derived.Test.YtfnffpogbkefaaaPb
import Derived.Lib.OwnBridge
namespace Go.Proofs.Ytfnffpogbkefaaa
open Go.RowKit

theorem info_range : (Try.prog.info? 39).map (fun i => (i.zero, i.size, i.bytes)) = some (some (.agg #[.int .i64 0, .int .i64 0]), 2, 16) := by kernel_rfl
theorem info_rrange : (Try.prog.info? 28).map (fun i => (i.zero, i.size, i.bytes)) = some (some (.agg #[.int .i64 0, .int .i64 0]), 2, 16) := by kernel_rfl
theorem cell_two_new (w : World) (x y : Value) (t : TypeId) : ∀ j u, [x, y][j]? = some u → (w.alloc (.cells #[x, y] t)).cell? ((⟨w.heap.size, 0, none⟩ : Addr).add j) = some u := by
  intro j u hj
  match j, hj with
  | 0, hj =>
    simp at hj
    subst hj
    simp [Addr.add]
  | 1, hj =>
    simp at hj
    subst hj
    simp [Addr.add]
theorem own_ranges {e : TypeId} {B n : Nat} {W : World} {v : Value} {rs : List Rg} (h : W.ownsRow B e 2 v n (rcells rs)) : ∃ a cap, v = .slice a n cap ∧ BufR e B W a n cap rs := by
  rcases h.2 with ⟨rfl, rfl⟩ | ⟨g, cap, cur, rfl, _⟩
  · exact ⟨none, 0, rfl, h⟩
  · exact ⟨_, _, rfl, h⟩
theorem rcells_take {rs : List Rg} {k : Nat} (h : k < rs.length) : rcells (rs.take (k + 1)) = rcells (rs.take k) ++ [.int .i64 (rg rs k).1, .int .i64 (rg rs k).2] := by
  rw [List.take_add_one, rg_lt h, rcells_append]; rfl

set_option maxHeartbeats 1000000 in
theorem back_any (l : Option Addr) (c : Nat) (rs : List Rg) (w : World) (hl : rs.length ≤ 1073741824) (h : RdR w.heap.size w l rs) :
    Calls Try.prog 11 #[.slice l rs.length c] w fun e w' => (∃ a' c', e = .returned (.slice a' rs.length c') ∧ BufR 28 w.heap.size w' a' rs.length c' rs) ∧ Grew w w' := by
  have HX := Lib.hid h
  obtain ⟨i0, hi, hz0, hz1, hz2⟩ := info_parts info_rrange
  clear h
  go_enter Try.func11, Try.ntmps11
  go_wp2
  go_loopw [3, 8] (fun v i wr => ∃ k : Nat, k ≤ rs.length ∧ i = .int .i64 k ∧ Hid (wr.ownsRow w.heap.size 28 2 v k (rcells (rs.take k))) ∧ Hid (Grew w wr)) (fun _ i _ => rs.length - (intOf i).toNat)
  case atStart => exact ⟨0, Nat.zero_le _, rfl, Lib.hid (World.ownsRow_nil _ _ _ _), Lib.hid (Grew.refl _)⟩
  case round =>
    obtain ⟨k, hk, rfl, HB, HG⟩ := hrel
    by_cases hlt : k < rs.length
    · obtain ⟨b, off, rfl, hb, hc1, hc2⟩ := (HX.out.grow HG.out).at hlt
      have HS := Lib.hid (rcells_take hlt)
      generalize (rg rs k).1 = lo at hc1 HS
      generalize (rg rs k).2 = hi2 at hc2 HS
      go_wp2_with (at_builtin; refine wpList_append_own _ rfl _ _ 26 rfl w.heap.size 28 i0 (.agg #[.int .i64 0, .int .i64 0]) 2 16 Try.underlying26 hi hz0 hz1 hz2 rfl (by decide) _ k _ rfl ((HB.out.alloc _).alloc _) ⟨wr.heap.size + 1, 0, none⟩ 1 1 [.int .i64 lo, .int .i64 hi2] rfl ?qc1 ?qc2 ?qc3 ?qc4 ?qc5 ?qc6 ?_)
      case qc1 => rfl
      case qc2 => have := cell_two_new (wr.alloc (.cells #[.int .i64 lo, .int .i64 hi2] 39)) (.int .i64 lo) (.int .i64 hi2) 28; rw [World.size_alloc] at this; exact this
      case qc3 => intro u hu; simp only [List.mem_cons, List.not_mem_nil, or_false] at hu; rcases hu with rfl | rfl <;> rfl
      case qc4 => unfold maxLen; omega
      case qc5 => omega
      case qc6 => have := HG.out.size; simp; omega
      intro v' w1 hown hgrow hnil
      have HO : Hid (w1.ownsRow w.heap.size 28 2 v' (k + 1) (rcells (rs.take (k + 1)))) := Lib.hid (by rw [HS.out]; exact hown)
      have HG1 : Hid (Grew w w1) := Lib.hid (Below.grown ((HG.out.alloc _).alloc _) hgrow (by have := HG.out.size; simp; omega) (fun j hj => (World.ownsRow.lt HB.out j hj).1))
      clear hown hgrow hnil
      go_wp2_with fail
      go_roundw
      case rel => exact ⟨k + 1, by omega, by go_num, HO, HG1⟩
      case measure => simp [intOf]; omega
    · obtain rfl : k = rs.length := by omega
      obtain ⟨s', c', rfl, hb⟩ := own_ranges HB.out
      rw [List.take_length] at hb
      have HB' := Lib.hid hb
      clear hb
      go_wp2
      go_ret
      exact ⟨⟨_, _, rfl, HB'.out⟩, HG.out⟩

set_option maxHeartbeats 1000000 in
theorem given_any (l : Option Addr) (c : Nat) (rs : List Rg) (w : World) (hl : rs.length ≤ 1073741824) (h : RdR w.heap.size w l rs) :
    Calls Try.prog 19 #[.slice l rs.length c] w fun e w' => (∃ a' c', e = .returned (.slice a' rs.length c') ∧ BufR 39 w.heap.size w' a' rs.length c' rs) ∧ Grew w w' := by
  have HX := Lib.hid h
  obtain ⟨i0, hi, hz0, hz1, hz2⟩ := info_parts info_range
  clear h
  go_enter Try.func19, Try.ntmps19
  go_wp2
  go_loopw [3, 8] (fun v i wr => ∃ k : Nat, k ≤ rs.length ∧ i = .int .i64 k ∧ Hid (wr.ownsRow w.heap.size 39 2 v k (rcells (rs.take k))) ∧ Hid (Grew w wr)) (fun _ i _ => rs.length - (intOf i).toNat)
  case atStart => exact ⟨0, Nat.zero_le _, rfl, Lib.hid (World.ownsRow_nil _ _ _ _), Lib.hid (Grew.refl _)⟩
  case round =>
    obtain ⟨k, hk, rfl, HB, HG⟩ := hrel
    by_cases hlt : k < rs.length
    · obtain ⟨b, off, rfl, hb, hc1, hc2⟩ := (HX.out.grow HG.out).at hlt
      have HS := Lib.hid (rcells_take hlt)
      generalize (rg rs k).1 = lo at hc1 HS
      generalize (rg rs k).2 = hi2 at hc2 HS
      go_wp2_with (at_builtin; refine wpList_append_own _ rfl _ _ 23 rfl w.heap.size 39 i0 (.agg #[.int .i64 0, .int .i64 0]) 2 16 Try.underlying23 hi hz0 hz1 hz2 rfl (by decide) _ k _ rfl ((HB.out.alloc _).alloc _) ⟨wr.heap.size + 1, 0, none⟩ 1 1 [.int .i64 lo, .int .i64 hi2] rfl ?qc1 ?qc2 ?qc3 ?qc4 ?qc5 ?qc6 ?_)
      case qc1 => rfl
      case qc2 => have := cell_two_new (wr.alloc (.cells #[.int .i64 lo, .int .i64 hi2] 28)) (.int .i64 lo) (.int .i64 hi2) 39; rw [World.size_alloc] at this; exact this
      case qc3 => intro u hu; simp only [List.mem_cons, List.not_mem_nil, or_false] at hu; rcases hu with rfl | rfl <;> rfl
      case qc4 => unfold maxLen; omega
      case qc5 => omega
      case qc6 => have := HG.out.size; simp; omega
      intro v' w1 hown hgrow hnil
      have HO : Hid (w1.ownsRow w.heap.size 39 2 v' (k + 1) (rcells (rs.take (k + 1)))) := Lib.hid (by rw [HS.out]; exact hown)
      have HG1 : Hid (Grew w w1) := Lib.hid (Below.grown ((HG.out.alloc _).alloc _) hgrow (by have := HG.out.size; simp; omega) (fun j hj => (World.ownsRow.lt HB.out j hj).1))
      clear hown hgrow hnil
      go_wp2_with fail
      go_roundw
      case rel => exact ⟨k + 1, by omega, by go_num, HO, HG1⟩
      case measure => simp [intOf]; omega
    · obtain rfl : k = rs.length := by omega
      obtain ⟨s', c', rfl, hb⟩ := own_ranges HB.out
      rw [List.take_length] at hb
      have HB' := Lib.hid hb
      clear hb
      go_wp2
      go_ret
      exact ⟨⟨_, _, rfl, HB'.out⟩, HG.out⟩
end Go.Proofs.Ytfnffpogbkefaaa
