/- Examples that came in: what the walk is told of one (CameX) and of a slice of them (CameE). No condition. -/
import Derived.Test.YthcahpgandappaaEd
import Derived.Test.YthcahpgandappaaWf
import Derived.Deep.SlicePairs
import Derived.Lib.SmallJoins
namespace Go.Proofs.Ythcahpgandappaa
open Go.RowKit Go.ChangeShapes Go.WideShapes

/-- A list that came in, as a slice's own facts. -/
def CameL (w : World) (a : Option Addr) (len cap : Nat) (zs : List Int) : Prop := zs.length = len ∧ len ≤ cap ∧ cap ≤ maxLen ∧ RdK .i64 w.heap.size w a zs ∧ FitL zs ∧ (a = none → cap = 0)
theorem cameL_none (w : World) : CameL w none 0 0 [] := ⟨rfl, Nat.le_refl _, Nat.zero_le _, .inl rfl, (fun x hx => by cases hx), fun _ => rfl⟩
theorem cameL_some {w : World} {a : Addr} {len cap : Nat} {zs : List Int} (hl : len ≤ cap) (hm : cap ≤ maxLen) (hz : zs.length = cap)
    (hc : ∀ i, i < zs.length → w.cell? (a.add i) = some (.int .i64 (zs.getD i 0))) (hw : ∀ n ∈ zs, (Lit.int .i64 n).wf = true) : CameL w (some a) len cap (zs.take len) := by
  have hlen : (zs.take len).length = len := by rw [List.length_take]; omega
  have hel : ∀ j, j < len → el (zs.take len) j = zs.getD j 0 := fun j hj => by unfold el; rw [List.getElem?_take_of_lt hj, List.getD_eq_getElem?_getD]
  refine ⟨hlen, hl, hm, ?_, fun x hx => in64_wf (hw _ (List.mem_of_mem_take hx)), (fun h => nomatch h)⟩
  by_cases h0 : len = 0
  · exact .inl (List.eq_nil_of_length_eq_zero (hlen.trans h0))
  · obtain ⟨b, off, spot⟩ := a
    have h1 := hc 0 (by omega)
    have hspot : spot = none := by simpa [Addr.add] using World.cell?_spot h1
    subst hspot
    rw [Addr.add_lit] at h1
    refine .inr ⟨b, off, rfl, block_in h1, fun j hj => ?_⟩
    rw [hlen] at hj
    have h2 := hc j (by omega)
    rw [Addr.add_lit] at h2
    rw [h2, hel j hj]
theorem list_in {H : Type} {enc : TypeId × Value → H} {P : Program} {w : World} {base : Nat} {held : Bool} {t e : TypeId} {fuel : Nat} {v : Value} {x : DataW H × List MemPlace}
    (ht : P.underlying t = some (.slice e)) (he : P.underlying e = some (.int .i64)) (ce : P.cellsOf e = 1) (h : DataW.trod enc P w base (fun _ => true) held fuel t [v] = some x) : ∃ a len cap zs, v = .slice a len cap ∧ CameL w a len cap zs := by
  rcases open_ints ht he ce h with ⟨hcs, _⟩ | ⟨a, len, cap, zs, hcs, _, hl, hm, hz, _, hcell, hwz⟩
  · simp only [List.cons.injEq, and_true] at hcs
    exact ⟨none, 0, 0, [], hcs, cameL_none w⟩
  · simp only [List.cons.injEq, and_true] at hcs
    simp only [if_true] at hz
    exact ⟨some a, len, cap, _, hcs, cameL_some hl hm hz hcell hwz⟩

instance : Inhabited Pl := ⟨⟨none, 0, none, 0⟩⟩
/-- An example that came in. -/
def CameX (w : World) (xa : Option Addr) (xc : Nat) (ya : Option Addr) (yc : Nat) (e : Ex) : Prop := CameL w xa e.1.length xc e.1 ∧ CameL w ya e.2.length yc e.2
theorem example_in {w : World} {a b : Option Addr} {n m c d : Nat} {zs ys : List Int} (h : CameL w a n c zs) (k : CameL w b m d ys) : ∃ e : Ex, (Value.agg #[.slice a n c, .slice b m d] = .agg #[.slice a e.1.length c, .slice b e.2.length d]) ∧ CameX w a c b d e := by
  obtain ⟨h1, h2⟩ := h
  obtain ⟨k1, k2⟩ := k
  subst h1 k1
  exact ⟨(zs, ys), rfl, ⟨rfl, h2⟩, ⟨rfl, k2⟩⟩
/-- A slice of examples that came in. -/
def CameE (w : World) (a : Option Addr) (len cap : Nat) (es : List Ex) : Prop := es.length = len ∧ len ≤ cap ∧ cap ≤ maxLen ∧ RdE w.heap.size w a es ∧ FitE es ∧ LenE es
theorem cameE_none (w : World) : CameE w none 0 0 [] := ⟨rfl, Nat.le_refl _, Nat.zero_le _, .inl rfl, (fun x hx => by cases hx), fun k hk => absurd hk (Nat.not_lt_zero _)⟩
theorem examples_in {H : Type} {enc : TypeId × Value → H} {P : Program} {w : World} {base : Nat} {held : Bool} {t e q i : TypeId} {f0 f1 : Field} {fuel : Nat} {a : Option Addr} {len cap : Nat} {x : DataW H × List MemPlace}
    (ht : P.underlying t = some (.slice e)) (he : P.underlying e = some (.struct #[f0, f1])) (ce : P.cellsOf e = 2) (o0 : f0.offset = 0) (o1 : f1.offset = 1) (c0 : P.cellsOf f0.type = 1) (c1 : P.cellsOf f1.type = 1)
    (t0 : f0.type = q) (t1 : f1.type = q) (hq : P.underlying q = some (.slice i)) (hi : P.underlying i = some (.int .i64)) (ci : P.cellsOf i = 1)
    (h : DataW.trod enc P w base (fun _ => true) held fuel t [.slice a len cap] = some x) : ∃ es, CameE w a len cap es := by
  rcases Go.Deep.open_slice_pairs ht he ce o0 o1 c0 c1 h with ⟨hcs, _⟩ | ⟨p, l, c, m, n, V0, V1, D0, D1, P0, P1, hcs, _, hl, hm, hmm, _, hx⟩
  · simp only [List.cons.injEq, Value.slice.injEq, and_true] at hcs
    obtain ⟨rfl, rfl, rfl⟩ := hcs
    exact ⟨[], cameE_none w⟩
  · simp only [List.cons.injEq, Value.slice.injEq, and_true] at hcs
    obtain ⟨rfl, rfl, rfl⟩ := hcs
    have hlm : len ≤ m := by rw [hmm]; simp; omega
    have each : ∀ j, j < len → ∃ r : Pl × Ex, w.cell? (p.add (j * 2)) = some (.slice r.1.xa r.2.1.length r.1.xc) ∧ w.cell? (p.add (j * 2 + 1)) = some (.slice r.1.ya r.2.2.length r.1.yc) ∧ CameX w r.1.xa r.1.xc r.1.ya r.1.yc r.2 := by
      intro j hj
      obtain ⟨h1, h2, h3, h4⟩ := hx j (by omega)
      rw [t0] at h3
      rw [t1] at h4
      obtain ⟨xa, xn, xc, xz, e0, k0⟩ := list_in hq hi ci h3
      obtain ⟨ya, yn, yc, yz, e1, k1⟩ := list_in hq hi ci h4
      obtain ⟨k01, k02⟩ := k0
      obtain ⟨k11, k12⟩ := k1
      subst k01 k11
      exact ⟨(⟨xa, xc, ya, yc⟩, (xz, yz)), by rw [h1, e0], by rw [h2, e1], ⟨rfl, k02⟩, ⟨rfl, k12⟩⟩
    obtain ⟨q, hq⟩ := Go.Deep.choose_lt each
    have hlen : ((List.range len).map (fun j => (q j).2)).length = len := by simp
    have hat : ∀ j, j < len → ex ((List.range len).map (fun j => (q j).2)) j = (q j).2 := fun j hj => by simp [ex, hj]
    refine ⟨(List.range len).map (fun j => (q j).2), hlen, hl, hm, ?_, ?_, fun j hj => ?_⟩
    · by_cases h0 : len = 0
      · exact .inl (List.eq_nil_of_length_eq_zero (hlen.trans h0))
      · obtain ⟨b, off, spot⟩ := p
        have h1 := (hq 0 (by omega)).1
        have hspot : spot = none := by simpa [Addr.add] using World.cell?_spot h1
        subst hspot
        rw [Addr.add_lit] at h1
        refine .inr ⟨b, off, rfl, block_in h1, fun j hj => ?_⟩
        rw [hlen] at hj
        obtain ⟨h2, h3, h4, h5⟩ := hq j hj
        rw [Addr.add_lit] at h2 h3
        refine ⟨_, _, _, _, by unfold lx; rw [hat j hj]; exact h2, by unfold ly; rw [hat j hj]; exact h3, by rw [hat j hj]; exact h4.2.2.2.1, by rw [hat j hj]; exact h5.2.2.2.1, h4.2.2.2.2.2, h5.2.2.2.2.2⟩
    · intro e he
      obtain ⟨j, hj, rfl⟩ := List.mem_map.1 he
      obtain ⟨_, _, h4, h5⟩ := hq j (List.mem_range.1 hj)
      exact ⟨h4.2.2.2.2.1, h5.2.2.2.2.1⟩
    · rw [hlen] at hj
      obtain ⟨_, _, h4, h5⟩ := hq j hj
      unfold lx ly
      rw [hat j hj]
      have a1 := h4.2.1
      have a2 := h4.2.2.1
      have b1 := h5.2.1
      have b2 := h5.2.2.1
      unfold maxLen at a2 b2
      omega
end Go.Proofs.Ythcahpgandappaa
