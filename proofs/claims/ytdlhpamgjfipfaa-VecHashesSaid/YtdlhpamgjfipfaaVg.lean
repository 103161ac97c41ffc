/- The statements' alive returns true: the example of the chapter holds. No condition. -/
import Derived.Test.YtdlhpamgjfipfaaVf
namespace Go.Proofs.Ytdlhpamgjfipfaa
open Go.RowKit

theorem example_ok (a a' : Option Addr) (c c' : Nat) : okV [⟨a, c, [1, 2]⟩, ⟨a', c', [10, 20]⟩] = true := rfl
theorem example_sum (a a' : Option Addr) (c c' : Nat) : sumV [⟨a, c, [1, 2]⟩, ⟨a', c', [10, 20]⟩] = [11, 22] := by kernel_rfl
theorem rd_new (w : World) (zs : List Int) : Rd (w.alloc (.cells (zs.map (Value.int .i64)).toArray 2)).heap.size (w.alloc (.cells (zs.map (Value.int .i64)).toArray 2)) (some ⟨w.heap.size, 0, none⟩) zs := by
  refine .inr ⟨w.heap.size, 0, rfl, by simp, fun j hj => ?_⟩
  rw [Nat.zero_add, World.cell?_alloc_new, List.getElem?_toArray, List.getElem?_map, el_lt hj]
  rfl
theorem fit_two {x y : Int} (hx : In64 x) (hy : In64 y) : Fit [x, y] := all_two hx hy

set_option maxHeartbeats 1000000 in
theorem valive_any (w : World) : Calls Try.prog 10 #[] w fun e w' => e = .returned (.bool true) ∧ Grew w w' := by
  have g1 : Grew (w.alloc (.cells #[.int .i64 1, .int .i64 2] 2)) ((w.alloc (.cells #[.int .i64 1, .int .i64 2] 2)).alloc (.cells #[.int .i64 10, .int .i64 20] 2)) := (Grew.refl _).alloc _
  have h1 := (rd_new w [1, 2]).grow g1
  have h2 := rd_new (w.alloc (.cells #[.int .i64 1, .int .i64 2] 2)) [10, 20]
  have hL := lot_two 26 ((w.alloc (.cells #[.int .i64 1, .int .i64 2] 2)).alloc (.cells #[.int .i64 10, .int .i64 20] 2)) ⟨some ⟨w.heap.size, 0, none⟩, 2, [1, 2]⟩ ⟨_, 2, [10, 20]⟩ (by simp) (by simp) h1 h2 (fit_two (by unfold In64; omega) (by unfold In64; omega)) (fit_two (by unfold In64; omega) (by unfold In64; omega))
  have hC := vsum_any _ _ _ _ hL
  rw [example_ok, example_sum] at hC
  simp only [List.length_cons, List.length_nil, World.size_alloc] at hC
  have HC := Lib.hid hC
  clear hC hL h1 h2 g1
  go_enter Try.func10, Try.ntmps10
  go_wp2_with fail
  refine HC.out.mono ?_
  rintro e w1 ⟨⟨a2, cap2, rfl, B1⟩, g1⟩
  have HB := Lib.hid B1
  have HG := Lib.hid ((((Grew.refl w).alloc _).alloc _).alloc _ |>.trans g1)
  clear g1
  obtain ⟨g, rfl, _, hgl, hc0, _⟩ := B1.at (k := 0) (by omega)
  obtain ⟨g', e', _, _, hc1, _⟩ := B1.at (k := 1) (by omega)
  obtain rfl : g = g' := by injection e' with e'; injection e'
  rw [show el [11, 22] 0 = 11 from rfl] at hc0
  rw [show el [11, 22] 1 = 22 from rfl] at hc1
  clear B1 e'
  go_wp2_with fail
  refine (vhash_any _ 0 [] _ (by simp) Rd.empty).mono ?_
  rintro e w2 ⟨rfl, rfl⟩
  rw [show hv [] ([] : List Int).length = 1 from rfl]
  go_wp2
  go_ret
  exact ⟨by simp, HG.out.alloc _⟩
end Go.Proofs.Ytdlhpamgjfipfaa
