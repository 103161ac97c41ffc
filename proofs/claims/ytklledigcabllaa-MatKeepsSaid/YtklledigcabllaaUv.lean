/- What the statements of layer 7 take: the chapter's example holds; a matrix that came in (CameM); contracts at a length said otherwise. No condition. -/
import Derived.Test.YtklledigcabllaaUt
namespace Go.Proofs.Ytklledigcabllaa
open Go.RowKit

/-- A block that holds just these numbers. -/
theorem rd_lit {B : Nat} {W : World} {b : Nat} {zs : List Int} (h : W.heap[b]? = some (.cells (zs.map (Value.int .i64)).toArray 2 (0, 0))) (hb : b < B) : Rd B W (some ⟨b, 0, none⟩) zs := by
  refine .inr ⟨b, 0, rfl, hb, fun j hj => ?_⟩
  simp [World.cell?, h, el_lt hj]
theorem mul_lit : mulL [1, 2, 3, 4] 2 2 [1, 1] 0 = [3, 7] := by decide +kernel
theorem mul22 (w : World) (b b' : Nat) (h : Rd w.heap.size w (some ⟨b, 0, none⟩) [1, 2, 3, 4]) (h' : Rd w.heap.size w (some ⟨b', 0, none⟩) [1, 1]) :
    Calls Try.prog 20 #[.agg #[.int .i64 2, .int .i64 2, .slice (some ⟨b, 0, none⟩) 4 4], .slice (some ⟨b', 0, none⟩) 2 2, .int .i64 0] w fun e w' => (∃ g, e = .returned (.tuple #[.slice (some ⟨g, 0, none⟩) 2 2, .bool true]) ∧ Buf w.heap.size w' (some ⟨g, 0, none⟩) 2 2 [3, 7]) ∧ Grew w w' :=
  (mul_yes (R := 2) (C := 2) (cap := 4) (cap' := 2) (q := 0) w rfl rfl (by decide) (by decide) (by decide) (by decide) (by decide) (by decide) h h'
    (fun j hj => by
      have : j = 0 ∨ j = 1 ∨ j = 2 ∨ j = 3 := by simp at hj; omega
      rcases this with rfl | rfl | rfl | rfl <;> exact ⟨by decide, by decide⟩)
    (fun j hj => by
      have : j = 0 ∨ j = 1 := by simp at hj; omega
      rcases this with rfl | rfl <;> exact ⟨by decide, by decide⟩)).mono fun _ _ h => by rw [mul_lit] at h; exact h

set_option maxHeartbeats 1000000 in
theorem malive_any (w : World) : Calls Try.prog 9 #[] w fun e w' => e = .returned (.bool true) ∧ Grew w w' := by
  have hg : Grew w ((w.alloc (.cells #[.int .i64 1, .int .i64 2, .int .i64 3, .int .i64 4] 2)).alloc (.cells #[.int .i64 1, .int .i64 1] 2)) := ((Grew.refl w).alloc _).alloc _
  have h1 : ((w.alloc (.cells #[.int .i64 1, .int .i64 2, .int .i64 3, .int .i64 4] 2)).alloc (.cells #[.int .i64 1, .int .i64 1] 2)).heap[w.heap.size]? = some (.cells (([1, 2, 3, 4] : List Int).map (Value.int .i64)).toArray 2 (0, 0)) :=
    (Below.heap_alloc _ _ _ (by simp)).trans (World.alloc_heap_new w _)
  have h2 : ((w.alloc (.cells #[.int .i64 1, .int .i64 2, .int .i64 3, .int .i64 4] 2)).alloc (.cells #[.int .i64 1, .int .i64 1] 2)).heap[w.heap.size + 1]? = some (.cells (([1, 1] : List Int).map (Value.int .i64)).toArray 2 (0, 0)) := by
    have := World.alloc_heap_new (w.alloc (.cells #[.int .i64 1, .int .i64 2, .int .i64 3, .int .i64 4] 2)) (.cells #[.int .i64 1, .int .i64 1] 2)
    rwa [World.size_alloc] at this
  have HG := Lib.hid hg
  have H1 := Lib.hid (rd_lit h1 (B := w.heap.size + 1 + 1) (by omega))
  have H2 := Lib.hid (rd_lit h2 (B := w.heap.size + 1 + 1) (by omega))
  have hs : ((w.alloc (.cells #[.int .i64 1, .int .i64 2, .int .i64 3, .int .i64 4] 2)).alloc (.cells #[.int .i64 1, .int .i64 1] 2)).heap.size = w.heap.size + 1 + 1 := by simp
  have HS := Lib.hid hs
  clear hg h1 h2 hs
  go_enter Try.func9, Try.ntmps9
  go_wp2_with fail
  generalize (w.alloc (.cells #[.int .i64 1, .int .i64 2, .int .i64 3, .int .i64 4] 2)).alloc (.cells #[.int .i64 1, .int .i64 1] 2) = W0 at *
  refine (mul22 W0 w.heap.size (w.heap.size + 1) (by rw [HS.out]; exact H1.out) (by rw [HS.out]; exact H2.out)).mono ?_
  rintro e w1 ⟨⟨g, rfl, hb⟩, g1⟩
  obtain ⟨g0, e0, _, _, hc0, _⟩ := hb.at (k := 0) (by decide)
  obtain ⟨g2, e2, _, _, hc1, _⟩ := hb.at (k := 1) (by decide)
  obtain rfl : g = g0 := (by injection e0 with e0; injection e0)
  obtain rfl : g = g2 := (by injection e2 with e2; injection e2)
  have HG1 := Lib.hid (HG.out.trans g1)
  have hc0' : w1.cell? ⟨g, 0, none⟩ = some (.int .i64 3) := hc0
  have hc1' : w1.cell? ⟨g, 1, none⟩ = some (.int .i64 7) := hc1
  clear g1 hb e0 e2 hc0 hc1
  go_wp2
  go_ret
  exact ⟨rfl, HG1.out⟩

/-- A matrix that came in. -/
def CameM (w : World) (R C : Int) (a : Option Addr) (len cap : Nat) (zs : List Int) : Prop :=
  (Lit.int .i64 R).wf = true ∧ (Lit.int .i64 C).wf = true ∧ zs.length = len ∧ len ≤ cap ∧ cap ≤ 9223372036854775807 ∧ Rd w.heap.size w a zs ∧ (a = none → cap = 0) ∧ Fit zs
theorem cameM_none {w : World} {R C : Int} (hR : (Lit.int .i64 R).wf = true) (hC : (Lit.int .i64 C).wf = true) : CameM w R C none 0 0 [] :=
  ⟨hR, hC, rfl, Nat.le_refl _, Nat.zero_le _, .inl rfl, fun _ => rfl, fun j hj => by simp at hj⟩
theorem cameM_some {w : World} {R C : Int} {a : Addr} {len cap : Nat} {zs : List Int} (hR : (Lit.int .i64 R).wf = true) (hC : (Lit.int .i64 C).wf = true) (hl : len ≤ cap) (hm : cap ≤ maxLen) (hz : zs.length = cap)
    (hc : ∀ i, i < zs.length → w.cell? (a.add i) = some (.int .i64 (zs.getD i 0))) (hw : ∀ n ∈ zs, (Lit.int .i64 n).wf = true) : CameM w R C (some a) len cap (zs.take len) := by
  have hlen : (zs.take len).length = len := by rw [List.length_take]; omega
  have hel : ∀ j, j < len → el (zs.take len) j = zs.getD j 0 := fun j hj => by unfold el; rw [List.getElem?_take_of_lt hj, List.getD_eq_getElem?_getD]
  refine ⟨hR, hC, hlen, hl, by unfold maxLen at hm; exact hm, ?_, (fun h => nomatch h), fun j hj => ?_⟩
  · by_cases h0 : len = 0
    · exact .inl (List.eq_nil_of_length_eq_zero (hlen.trans h0))
    · obtain ⟨b, off, spot⟩ := a
      have h1 := hc 0 (by omega)
      have hspot : spot = none := by simpa [Addr.add] using World.cell?_spot h1
      subst hspot
      rw [Addr.add_lit] at h1
      refine .inr ⟨b, off, rfl, block_in h1, fun j hj => ?_⟩
      rw [hlen] at hj
      have h2 := hc j (by omega)
      rw [Addr.add_lit] at h2
      rw [h2, hel j hj]
  · rw [hlen] at hj
    rw [hel j hj]
    refine in64_wf (hw _ ?_)
    rw [List.getD_eq_getElem?_getD, List.getElem?_eq_getElem (by omega)]
    exact List.getElem_mem _
theorem wf_in {R : Int} (h : (Lit.int .i64 R).wf = true) : In64 R := in64_wf h
end Go.Proofs.Ytklledigcabllaa
