/- Configurations and inputs that came in. No condition. -/
import Derived.Test.YthcahpgandappaaGreatDoorCa
import Derived.ChangeArms
import Derived.Deep.Fields
import Derived.OpenShut
namespace Go.Proofs.YthcahpgandappaaGreatDoor
open Go.RowKit Go.ChangeShapes Go.WideShapes

def i64c (x : Int) : Prop := -9223372036854775808 ≤ x ∧ x ≤ 9223372036854775807
/-- A configuration that came in. -/
def CameC (w : World) (a : Option Addr) (n c : Nat) (f : Cf) : Prop := f.z.length = n ∧ n ≤ c ∧ c ≤ maxLen ∧ (a = none → c = 0) ∧ RdK .i64 w.heap.size w a f.z ∧ (∀ x ∈ f.z, i64c x) ∧ i64c f.sh ∧ i64c f.ra ∧ i64c f.mo ∧ i64c f.wo ∧ i64c f.ba ∧ i64c f.mi ∧ i64c f.st ∧ i64c f.bu ∧ i64c f.ch ∧ i64c f.wi ∧ i64c f.ca
theorem array12 {α : Type} {cs : List α} (h : cs.length = 12) : ∃ c0 c1 c2 c3 c4 c5 c6 c7 c8 c9 c10 c11, cs = [c0, c1, c2, c3, c4, c5, c6, c7, c8, c9, c10, c11] := by
  match cs, h with
  | [c0, c1, c2, c3, c4, c5, c6, c7, c8, c9, c10, c11], _ => exact ⟨c0, c1, c2, c3, c4, c5, c6, c7, c8, c9, c10, c11, rfl⟩
theorem int_in {H : Type} {enc : TypeId × Value → H} {w : World} {base : Nat} {held : Bool} {t : TypeId} {fuel : Nat} {v : Value} {y : DataW H × List MemPlace} (ht : Tryz.prog.underlying t = some (.int .i64))
    (h : DataW.trod enc Tryz.prog w base (fun _ => true) held fuel t [v] = some y) : ∃ x, v = .int .i64 x ∧ i64c x := by
  obtain ⟨x, e, _, hw⟩ := DataW.trod_int ht h
  simp at e
  exact ⟨x, e, in64_wf hw⟩
theorem sizes_in {H : Type} {enc : TypeId × Value → H} {w : World} {base : Nat} {held : Bool} {t e : TypeId} {fuel : Nat} {v : Value} {y : DataW H × List MemPlace} (ht : Tryz.prog.underlying t = some (.slice e)) (he : Tryz.prog.underlying e = some (.int .i64)) (ce : Tryz.prog.cellsOf e = 1)
    (h : DataW.trod enc Tryz.prog w base (fun _ => true) held fuel t [v] = some y) : ∃ a n c zs, v = .slice a n c ∧ zs.length = n ∧ n ≤ c ∧ c ≤ maxLen ∧ (a = none → c = 0) ∧ RdK .i64 w.heap.size w a zs ∧ (∀ x ∈ zs, i64c x) := by
  rcases open_ints ht he ce h with ⟨hcs, _⟩ | ⟨a, len, cap, zs, hcs, _, hl, hm, hz, _, hc, hwz⟩
  · simp only [List.cons.injEq, and_true] at hcs
    exact ⟨none, 0, 0, [], hcs, rfl, Nat.le_refl _, Nat.zero_le _, fun _ => rfl, .inl rfl, fun x hx => by cases hx⟩
  · simp only [List.cons.injEq, and_true] at hcs
    simp only [if_true] at hz
    have hlen : (zs.take len).length = len := by rw [List.length_take]; omega
    have hel : ∀ j, j < len → el (zs.take len) j = zs.getD j 0 := fun j hj => by unfold el; rw [List.getElem?_take_of_lt hj, List.getD_eq_getElem?_getD]
    refine ⟨some a, len, cap, zs.take len, hcs, hlen, hl, hm, (fun h => nomatch h), ?_, fun x hx => in64_wf (hwz _ (List.mem_of_mem_take hx))⟩
    by_cases h0 : len = 0
    · exact .inl (List.eq_nil_of_length_eq_zero (hlen.trans h0))
    · obtain ⟨b, off, spot⟩ := a
      have h1 := hc 0 (by omega)
      have hspot : spot = none := by simpa [Addr.add] using World.cell?_spot h1
      subst hspot
      rw [Addr.add_lit] at h1
      refine .inr ⟨b, off, rfl, block_in h1, fun j hj => ?_⟩
      rw [hlen] at hj
      have h2 := hc j (by omega)
      rw [Addr.add_lit] at h2
      rw [h2, hel j hj]
theorem some_at {α : Type} {xs : List α} {i n : Nat} (hl : xs.length = n) (hi : i < n) : ∃ y, xs[i]? = some y := ⟨xs[i], List.getElem?_eq_getElem (by omega)⟩
set_option maxHeartbeats 4000000 in
theorem config_list {H : Type} {enc : TypeId × Value → H} {w : World} {base : Nat} {held : Bool} {fuel : Nat} {cs : List Value} {y : DataW H × List MemPlace}
    (h : DataW.trod enc Tryz.prog w base (fun _ => true) held fuel 24 cs = some y) : ∃ a n c f, cs = (#[.slice a n c, .int .i64 f.sh, .int .i64 f.ra, .int .i64 f.mo, .int .i64 f.wo, .int .i64 f.ba, .int .i64 f.mi, .int .i64 f.st, .int .i64 f.bu, .int .i64 f.ch, .int .i64 f.wi, .int .i64 f.ca] : Array Value).toList ∧ CameC w a n c f := by
  obtain ⟨xs, n, _, _, hl, hlen, hf⟩ := DataW.trod_struct Tryz.underlying24 h
  have hlen12 : xs.length = 12 := hlen
  rw [show Tryz.prog.cellsOf 24 = 12 from by kernel_rfl] at hl
  obtain ⟨c0, c1, c2, c3, c4, c5, c6, c7, c8, c9, c10, c11, rfl⟩ := array12 hl
  have hI : Tryz.prog.cellsOf 3 = 1 := by kernel_rfl
  have hJ : Tryz.prog.cellsOf 2 = 1 := by kernel_rfl
  have hS : Tryz.prog.cellsOf 22 = 1 := by kernel_rfl
  obtain ⟨y0, e0⟩ := some_at (i := 0) hlen12 (by decide)
  have h0 : DataW.trod enc Tryz.prog w base (fun _ => true) held n 22 [c0] = some y0 := by
    have k : DataW.trod enc Tryz.prog w base (fun _ => true) held n 22 (([c0, c1, c2, c3, c4, c5, c6, c7, c8, c9, c10, c11].drop 0).take (Tryz.prog.cellsOf 22)) = some y0 := (hf 0 _ rfl).trans e0
    rw [hS] at k
    exact k
  obtain ⟨a, n0, c, zs, rfl, k1, k2, k3, k4, k5, k6⟩ := sizes_in Tryz.underlying22 Tryz.underlying3 hI h0
  obtain ⟨y1, e1⟩ := some_at (i := 1) hlen12 (by decide)
  have h1 : DataW.trod enc Tryz.prog w base (fun _ => true) held n 3 [c1] = some y1 := by
    have k : DataW.trod enc Tryz.prog w base (fun _ => true) held n 3 (([Value.slice a n0 c, c1, c2, c3, c4, c5, c6, c7, c8, c9, c10, c11].drop 1).take (Tryz.prog.cellsOf 3)) = some y1 := (hf 1 _ rfl).trans e1
    rw [hI] at k
    exact k
  obtain ⟨x1, rfl, b1⟩ := int_in Tryz.underlying3 h1
  obtain ⟨y2, e2⟩ := some_at (i := 2) hlen12 (by decide)
  have h2 : DataW.trod enc Tryz.prog w base (fun _ => true) held n 2 [c2] = some y2 := by
    have k : DataW.trod enc Tryz.prog w base (fun _ => true) held n 2 (([Value.slice a n0 c, Value.int .i64 x1, c2, c3, c4, c5, c6, c7, c8, c9, c10, c11].drop 2).take (Tryz.prog.cellsOf 2)) = some y2 := (hf 2 _ rfl).trans e2
    rw [hJ] at k
    exact k
  obtain ⟨x2, rfl, b2⟩ := int_in Tryz.underlying2 h2
  obtain ⟨y3, e3⟩ := some_at (i := 3) hlen12 (by decide)
  have h3 : DataW.trod enc Tryz.prog w base (fun _ => true) held n 2 [c3] = some y3 := by
    have k : DataW.trod enc Tryz.prog w base (fun _ => true) held n 2 (([Value.slice a n0 c, Value.int .i64 x1, Value.int .i64 x2, c3, c4, c5, c6, c7, c8, c9, c10, c11].drop 3).take (Tryz.prog.cellsOf 2)) = some y3 := (hf 3 _ rfl).trans e3
    rw [hJ] at k
    exact k
  obtain ⟨x3, rfl, b3⟩ := int_in Tryz.underlying2 h3
  obtain ⟨y4, e4⟩ := some_at (i := 4) hlen12 (by decide)
  have h4 : DataW.trod enc Tryz.prog w base (fun _ => true) held n 3 [c4] = some y4 := by
    have k : DataW.trod enc Tryz.prog w base (fun _ => true) held n 3 (([Value.slice a n0 c, Value.int .i64 x1, Value.int .i64 x2, Value.int .i64 x3, c4, c5, c6, c7, c8, c9, c10, c11].drop 4).take (Tryz.prog.cellsOf 3)) = some y4 := (hf 4 _ rfl).trans e4
    rw [hI] at k
    exact k
  obtain ⟨x4, rfl, b4⟩ := int_in Tryz.underlying3 h4
  obtain ⟨y5, e5⟩ := some_at (i := 5) hlen12 (by decide)
  have h5 : DataW.trod enc Tryz.prog w base (fun _ => true) held n 3 [c5] = some y5 := by
    have k : DataW.trod enc Tryz.prog w base (fun _ => true) held n 3 (([Value.slice a n0 c, Value.int .i64 x1, Value.int .i64 x2, Value.int .i64 x3, Value.int .i64 x4, c5, c6, c7, c8, c9, c10, c11].drop 5).take (Tryz.prog.cellsOf 3)) = some y5 := (hf 5 _ rfl).trans e5
    rw [hI] at k
    exact k
  obtain ⟨x5, rfl, b5⟩ := int_in Tryz.underlying3 h5
  obtain ⟨y6, e6⟩ := some_at (i := 6) hlen12 (by decide)
  have h6 : DataW.trod enc Tryz.prog w base (fun _ => true) held n 3 [c6] = some y6 := by
    have k : DataW.trod enc Tryz.prog w base (fun _ => true) held n 3 (([Value.slice a n0 c, Value.int .i64 x1, Value.int .i64 x2, Value.int .i64 x3, Value.int .i64 x4, Value.int .i64 x5, c6, c7, c8, c9, c10, c11].drop 6).take (Tryz.prog.cellsOf 3)) = some y6 := (hf 6 _ rfl).trans e6
    rw [hI] at k
    exact k
  obtain ⟨x6, rfl, b6⟩ := int_in Tryz.underlying3 h6
  obtain ⟨y7, e7⟩ := some_at (i := 7) hlen12 (by decide)
  have h7 : DataW.trod enc Tryz.prog w base (fun _ => true) held n 3 [c7] = some y7 := by
    have k : DataW.trod enc Tryz.prog w base (fun _ => true) held n 3 (([Value.slice a n0 c, Value.int .i64 x1, Value.int .i64 x2, Value.int .i64 x3, Value.int .i64 x4, Value.int .i64 x5, Value.int .i64 x6, c7, c8, c9, c10, c11].drop 7).take (Tryz.prog.cellsOf 3)) = some y7 := (hf 7 _ rfl).trans e7
    rw [hI] at k
    exact k
  obtain ⟨x7, rfl, b7⟩ := int_in Tryz.underlying3 h7
  obtain ⟨y8, e8⟩ := some_at (i := 8) hlen12 (by decide)
  have h8 : DataW.trod enc Tryz.prog w base (fun _ => true) held n 3 [c8] = some y8 := by
    have k : DataW.trod enc Tryz.prog w base (fun _ => true) held n 3 (([Value.slice a n0 c, Value.int .i64 x1, Value.int .i64 x2, Value.int .i64 x3, Value.int .i64 x4, Value.int .i64 x5, Value.int .i64 x6, Value.int .i64 x7, c8, c9, c10, c11].drop 8).take (Tryz.prog.cellsOf 3)) = some y8 := (hf 8 _ rfl).trans e8
    rw [hI] at k
    exact k
  obtain ⟨x8, rfl, b8⟩ := int_in Tryz.underlying3 h8
  obtain ⟨y9, e9⟩ := some_at (i := 9) hlen12 (by decide)
  have h9 : DataW.trod enc Tryz.prog w base (fun _ => true) held n 3 [c9] = some y9 := by
    have k : DataW.trod enc Tryz.prog w base (fun _ => true) held n 3 (([Value.slice a n0 c, Value.int .i64 x1, Value.int .i64 x2, Value.int .i64 x3, Value.int .i64 x4, Value.int .i64 x5, Value.int .i64 x6, Value.int .i64 x7, Value.int .i64 x8, c9, c10, c11].drop 9).take (Tryz.prog.cellsOf 3)) = some y9 := (hf 9 _ rfl).trans e9
    rw [hI] at k
    exact k
  obtain ⟨x9, rfl, b9⟩ := int_in Tryz.underlying3 h9
  obtain ⟨y10, e10⟩ := some_at (i := 10) hlen12 (by decide)
  have h10 : DataW.trod enc Tryz.prog w base (fun _ => true) held n 3 [c10] = some y10 := by
    have k : DataW.trod enc Tryz.prog w base (fun _ => true) held n 3 (([Value.slice a n0 c, Value.int .i64 x1, Value.int .i64 x2, Value.int .i64 x3, Value.int .i64 x4, Value.int .i64 x5, Value.int .i64 x6, Value.int .i64 x7, Value.int .i64 x8, Value.int .i64 x9, c10, c11].drop 10).take (Tryz.prog.cellsOf 3)) = some y10 := (hf 10 _ rfl).trans e10
    rw [hI] at k
    exact k
  obtain ⟨x10, rfl, b10⟩ := int_in Tryz.underlying3 h10
  obtain ⟨y11, e11⟩ := some_at (i := 11) hlen12 (by decide)
  have h11 : DataW.trod enc Tryz.prog w base (fun _ => true) held n 3 [c11] = some y11 := by
    have k : DataW.trod enc Tryz.prog w base (fun _ => true) held n 3 (([Value.slice a n0 c, Value.int .i64 x1, Value.int .i64 x2, Value.int .i64 x3, Value.int .i64 x4, Value.int .i64 x5, Value.int .i64 x6, Value.int .i64 x7, Value.int .i64 x8, Value.int .i64 x9, Value.int .i64 x10, c11].drop 11).take (Tryz.prog.cellsOf 3)) = some y11 := (hf 11 _ rfl).trans e11
    rw [hI] at k
    exact k
  obtain ⟨x11, rfl, b11⟩ := int_in Tryz.underlying3 h11
  exact ⟨a, n0, c, ⟨zs, x1, x2, x3, x4, x5, x6, x7, x8, x9, x10, x11⟩, rfl, k1, k2, k3, k4, k5, k6, b1, b2, b3, b4, b5, b6, b7, b8, b9, b10, b11⟩
set_option maxRecDepth 100000 in
theorem config_in {H : Type} {enc : TypeId × Value → H} {w : World} {base : Nat} {held : Bool} {r : Reach} {b0 : Nat} {v : Value} {d : DataW H} {p : List MemPlace}
    (hv : Value.okWide Tryz.prog w r b0 24 v) (h : DataW.Trod enc Tryz.prog w base (fun _ => true) held 24 v d p) : ∃ a n c f, v = .agg #[.slice a n c, .int .i64 f.sh, .int .i64 f.ra, .int .i64 f.mo, .int .i64 f.wo, .int .i64 f.ba, .int .i64 f.mi, .int .i64 f.st, .int .i64 f.bu, .int .i64 f.ch, .int .i64 f.wi, .int .i64 f.ca] ∧ CameC w a n c f := by
  obtain ⟨cs, rfl, _⟩ := okWide_struct Tryz.underlying24 hv
  obtain ⟨fuel, hf⟩ := h
  obtain ⟨a, n, c, f, e, k⟩ := config_list (cs := cs.toList) (by simpa [Value.cells] using hf)
  exact ⟨a, n, c, f, by rw [show cs = #[.slice a n c, .int .i64 f.sh, .int .i64 f.ra, .int .i64 f.mo, .int .i64 f.wo, .int .i64 f.ba, .int .i64 f.mi, .int .i64 f.st, .int .i64 f.bu, .int .i64 f.ch, .int .i64 f.wi, .int .i64 f.ca] from Array.toList_inj.1 e], k⟩
end Go.Proofs.YthcahpgandappaaGreatDoor
