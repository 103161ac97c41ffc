/- Slices of ranges that came in: what the walk is told of them. No condition. -/
import Derived.Test.YtfnffpogbkefaaaPa
import Derived.Test.YtfnffpogbkefaaaWf
import Derived.Deep.SlicePairs
namespace Go.Proofs.Ytfnffpogbkefaaa
open Go.RowKit Go.ChangeShapes Go.WideShapes

/-- A slice of ranges that came in: it can be read; its numbers are within their bounds. -/
def CameR (w : World) (a : Option Addr) (len cap : Nat) (rs : List Rg) : Prop :=
  rs.length = len ∧ len ≤ cap ∧ cap ≤ maxLen ∧ RdR w.heap.size w a rs ∧ ∀ j, j < rs.length → In64 (rg rs j).1 ∧ In64 (rg rs j).2
theorem cameR_none (w : World) : CameR w none 0 0 [] := ⟨rfl, Nat.le_refl _, Nat.zero_le _, .inl rfl, fun j hj => by simp at hj⟩

theorem ranges_in {H : Type} {enc : TypeId × Value → H} {P : Program} {w : World} {base : Nat} {spare : Nat → Bool} {held : Bool} {t e : TypeId} {f0 f1 : Field} {fuel : Nat} {a : Option Addr} {len cap : Nat} {x : DataW H × List MemPlace}
    (ht : P.underlying t = some (.slice e)) (he : P.underlying e = some (.struct #[f0, f1])) (ce : P.cellsOf e = 2) (o0 : f0.offset = 0) (o1 : f1.offset = 1) (c0 : P.cellsOf f0.type = 1) (c1 : P.cellsOf f1.type = 1)
    (k0 : P.underlying f0.type = some (.int .i64)) (k1 : P.underlying f1.type = some (.int .i64))
    (h : DataW.trod enc P w base spare held fuel t [.slice a len cap] = some x) : ∃ rs, CameR w a len cap rs := by
  rcases Go.Deep.open_slice_pairs ht he ce o0 o1 c0 c1 h with ⟨hcs, _⟩ | ⟨p, l, c, m, n, V0, V1, D0, D1, P0, P1, hcs, _, hl, hm, hmm, _, hx⟩
  · simp only [List.cons.injEq, Value.slice.injEq, and_true] at hcs
    obtain ⟨rfl, rfl, rfl⟩ := hcs
    exact ⟨[], cameR_none w⟩
  · simp only [List.cons.injEq, Value.slice.injEq, and_true] at hcs
    obtain ⟨rfl, rfl, rfl⟩ := hcs
    have hlm : len ≤ m := by rw [hmm]; split <;> omega
    have each : ∀ i, i < len → ∃ q : Int × Int, w.cell? (p.add (i * 2)) = some (.int .i64 q.1) ∧ w.cell? (p.add (i * 2 + 1)) = some (.int .i64 q.2) ∧ In64 q.1 ∧ In64 q.2 := by
      intro i hi
      obtain ⟨h1, h2, h3, h4⟩ := hx i (by omega)
      obtain ⟨y0, e0, _, w0⟩ := DataW.trod_int k0 h3
      obtain ⟨y1, e1, _, w1⟩ := DataW.trod_int k1 h4
      simp only [List.cons.injEq, and_true] at e0 e1
      exact ⟨(y0, y1), by rw [h1, e0], by rw [h2, e1], in64_wf w0, in64_wf w1⟩
    obtain ⟨q, hq⟩ := Go.Deep.choose_lt each
    have hlen : ((List.range len).map q).length = len := by simp
    have hat : ∀ j, j < len → rg ((List.range len).map q) j = q j := fun j hj => by simp [rg, hj]
    refine ⟨(List.range len).map q, hlen, hl, hm, ?_, fun j hj => ?_⟩
    · by_cases h0 : len = 0
      · exact .inl (List.eq_nil_of_length_eq_zero (hlen.trans h0))
      · obtain ⟨b, off, spot⟩ := p
        have h1 := (hq 0 (by omega)).1
        have hspot : spot = none := by simpa [Addr.add] using World.cell?_spot h1
        subst hspot
        rw [Addr.add_lit] at h1
        refine .inr ⟨b, off, rfl, block_in h1, fun j hj => ?_⟩
        rw [hlen] at hj
        have h2 := hq j hj
        rw [Addr.add_lit, Addr.add_lit] at h2
        rw [hat j hj]
        exact ⟨h2.1, h2.2.1⟩
    · rw [hlen] at hj
      rw [hat j hj]
      exact (hq j hj).2.2
end Go.Proofs.Ytfnffpogbkefaaa
