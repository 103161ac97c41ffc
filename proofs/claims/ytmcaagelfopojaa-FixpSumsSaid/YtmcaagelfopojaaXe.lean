/- Sums of slices of int64 numbers: fixp.Sum and the reference's Sum return the sum modulo 2^64; slices.Clone with slices.Reverse leaves a slice of the call's own, turned round; what the sums of turned and of parted lists are. Condition: the slice takes at most 2^47 bytes. -/
import Derived.Test.YtmcaagelfopojaaXd
import Derived.Lib.OwnBridge
namespace Go.Proofs.Ytmcaagelfopojaa
open Go.RowKit Go.Shelf

theorem sumW_eq (zs : List Int) : It.sumW zs = wrap64 zs.sum := by
  have h : ∀ (l : List Int) (s : Int), l.foldl (fun s v => wrap64 (s + v)) (wrap64 s) = wrap64 (s + l.sum) := by
    intro l
    induction l with
    | nil => intro s; simp
    | cons x l ih =>
      intro s
      rw [List.foldl_cons, show wrap64 (wrap64 s + x) = wrap64 (s + x) from by unfold wrap64; omega, ih, List.sum_cons, Int.add_assoc]
  have h0 := h zs 0
  rw [show wrap64 0 = 0 from by unfold wrap64; omega, Int.zero_add] at h0
  exact h0
theorem sumW_reverse (zs : List Int) : It.sumW zs.reverse = It.sumW zs := by rw [sumW_eq, sumW_eq, List.sum_reverse]
theorem sumW_parts (zs : List Int) (k : Nat) : It.sumW [It.sumW (zs.take k), It.sumW (zs.drop k)] = It.sumW zs := by
  rw [sumW_eq, sumW_eq, sumW_eq, sumW_eq]
  have e : zs.sum = (zs.take k).sum + (zs.drop k).sum := by rw [← List.sum_append, List.take_append_drop]
  rw [e, List.sum_cons, List.sum_cons, List.sum_nil]
  unfold wrap64
  omega
theorem sumW_pair (a b : Int) : It.sumW [a, b] = wrap64 (a + b) := by rw [sumW_eq, List.sum_cons, List.sum_cons, List.sum_nil, Int.add_zero]

theorem sum_any (a : Option Addr) (len cap : Nat) (zs : List Int) (w : World) (hr : zs.length * 8 ≤ 140737488351232) (hI : It.Ints w.heap.size w (.slice a len cap) zs) :
    Calls Try.prog 18 #[.slice a len cap] w fun e w' => e = .returned (.int .i64 (It.sumW zs)) ∧ Grew w w' :=
  callsIn_wide.1 (It.SumVals_in Fence.wide 3 trivial trivial trivial rfl (Nat.le_refl _) a len cap zs hr w hI)

theorem It.sumW_nil : It.sumW [] = 0 := rfl
set_option maxHeartbeats 400000 in
theorem rsum_any (a : Option Addr) (len cap : Nat) (zs : List Int) (w : World) (hr : zs.length * 8 ≤ 140737488351232) (hI : It.Ints w.heap.size w (.slice a len cap) zs) :
    Calls Try.prog 21 #[.slice a len cap] w fun e w' => e = .returned (.int .i64 (It.sumW zs)) ∧ w = w' := by
  rcases hI with ⟨a, c, h, rfl⟩ | ⟨b, off, cp, h, hb, hc⟩
  · injection h with h1 h2 h3
    subst h1 h2 h3
    go_enter Try.func21, Try.ntmps21
    go_wp2
    go_loop [3, 4] (fun s i => s = .int .i64 0 ∧ i = .int .i64 0) (fun _ _ => 0)
    case atStart => exact ⟨rfl, rfl⟩
    case round =>
      obtain ⟨rfl, rfl⟩ := hrel
      go_wp2
      go_ret
      exact ⟨rfl, rfl⟩
  · injection h with h1 h2 h3
    subst h1 h2 h3
    have hl : zs.length ≤ 9223372036854775807 := by omega
    clear hr
    go_enter Try.func21, Try.ntmps21
    go_wp2
    go_loop [3, 4] (fun s i => ∃ k : Nat, k ≤ zs.length ∧ i = .int .i64 k ∧ s = .int .i64 (It.sumW (zs.take k))) (fun _ i => zs.length - (intOf i).toNat)
    case atStart => exact ⟨0, Nat.zero_le _, rfl, rfl⟩
    case round =>
      obtain ⟨k, hk, rfl, rfl⟩ := hrel
      by_cases hlt : k < zs.length
      · have hcell := hc k hlt
        have HS : Hid (It.sumW (zs.take (k + 1)) = wrap64 (It.sumW (zs.take k) + zs[k]?.getD 0)) := by
          rw [List.take_succ_eq_append_getElem hlt, It.sumW_snoc, List.getElem?_eq_getElem hlt]; rfl
        go_wp2
        go_round
        case rel => exact ⟨k + 1, by omega, by go_num, by rw [HS.out, List.getElem?_eq_getElem hlt]; rfl⟩
        case measure => simp [intOf]; omega
      · go_wp2
        go_ret
        exact ⟨ret_int (by rw [List.take_of_length_le (by omega)]), rfl⟩
/-- Two numbers in a new block are a slice of two. -/
theorem pair_ints (w : World) (x y : Int) : It.Ints (w.alloc (.cells #[.int .i64 x, .int .i64 y] 2)).heap.size (w.alloc (.cells #[.int .i64 x, .int .i64 y] 2)) (.slice (some ⟨w.heap.size, 0, none⟩) 2 2) [x, y] := by
  refine .inr ⟨w.heap.size, 0, 2, rfl, by simp, fun j hj => ?_⟩
  have h : j = 0 ∨ j = 1 := by simp at hj; omega
  rcases h with rfl | rfl
  · simp [World.cell?_alloc_new]
  · simp [World.cell?_alloc_new]
theorem pair_any (w : World) (x y : Int) :
    Calls Try.prog 18 #[.slice (some ⟨w.heap.size, 0, none⟩) 2 2] (w.alloc (.cells #[.int .i64 x, .int .i64 y] 2)) fun e w' => e = .returned (.int .i64 (wrap64 (x + y))) ∧ Grew w w' :=
  (sum_any _ _ _ [x, y] _ (by simp) (pair_ints w x y)).mono fun e w' ⟨he, hg⟩ => ⟨by rw [he, sumW_pair], ((Grew.refl _).alloc _).trans hg⟩
theorem sub_add {a g : Int} (h0 : -9223372036854775808 ≤ a) (h1 : a ≤ 9223372036854775807) : wrap64 (wrap64 (a - g) + g) = a := by unfold wrap64; omega
end Go.Proofs.Ytmcaagelfopojaa
