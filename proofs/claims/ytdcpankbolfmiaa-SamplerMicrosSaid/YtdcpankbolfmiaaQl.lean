/- An append of a whole slice of integers to a row of the call's own; three numbers that came in as an array. -/
import Derived.Test.YtdcpankbolfmiaaQk
import Derived.Test.YtdcpankbolfmiaaTx
import Derived.Laws.AppendOwnNone
import Derived.Laws.IdiomArrays
import Derived.Lib.SmallJoins
import Derived.WideShapes
namespace Go.Proofs.Ytdcpankbolfmiaa
open Go.RowKit Go.ChangeShapes
set_option linter.unusedVariables false

/-- What is appended can be read. -/
theorem news_at {q : IntKind} {B n c : Nat} {W : World} {x : Addr} {zs : List Int} {e : TypeId} (h : BufK q e B W (some x) n c zs) : ∀ (j : Nat) (u : Value), (zs.map (Value.int q))[j]? = some u → W.cell? (x.add j) = some u := by
  intro j u hj
  have hlt : j < zs.length := by
    rcases Nat.lt_or_ge j zs.length with h' | h'
    · exact h'
    · rw [List.getElem?_eq_none (by simpa using h')] at hj; cases hj
  obtain ⟨g, e, _, _, hc, _⟩ := h.at (k := j) (by rw [← h.len]; exact hlt)
  obtain rfl := Option.some.inj e
  rw [List.getElem?_map, el_lt hlt] at hj
  rw [Addr.add_lit, Nat.zero_add, hc]
  exact hj
theorem bufK_none {q : IntKind} {B n c : Nat} {W : World} {zs : List Int} {e : TypeId} (h : BufK q e B W none n c zs) : n = 0 ∧ c = 0 ∧ zs = [] := by
  rcases h.2 with ⟨e1, h0⟩ | ⟨g, c', cur, e1, _⟩
  · injection e1 with _ e2 e3
    subst h0 e3
    exact ⟨rfl, rfl, List.eq_nil_of_length_eq_zero h.len⟩
  · cases e1

/-- What a call that makes memory leaves of a block of four cells. -/
theorem keep_w4 {V W W' : World} {b : Nat} {x0 x1 x2 x3 : Value} (g : Grew W W') (h : Grew V W ∧ W.cell? ⟨b, 0, none⟩ = some x0 ∧ W.cell? ⟨b, 1, none⟩ = some x1 ∧ W.cell? ⟨b, 2, none⟩ = some x2 ∧ W.cell? ⟨b, 3, none⟩ = some x3) :
    Grew V W' ∧ W'.cell? ⟨b, 0, none⟩ = some x0 ∧ W'.cell? ⟨b, 1, none⟩ = some x1 ∧ W'.cell? ⟨b, 2, none⟩ = some x2 ∧ W'.cell? ⟨b, 3, none⟩ = some x3 :=
  ⟨h.1.trans g, (Below.cell g (block_in h.2.1)).trans h.2.1, (Below.cell g (block_in h.2.2.1)).trans h.2.2.1, (Below.cell g (block_in h.2.2.2.1)).trans h.2.2.2.1, (Below.cell g (block_in h.2.2.2.2)).trans h.2.2.2.2⟩

theorem keep_w5 {V W W' : World} {b b2 i : Nat} {x0 x1 x2 x3 x4 : Value} (g : Grew W W') (h : Grew V W ∧ W.cell? ⟨b2, i, none⟩ = some x4 ∧ W.cell? ⟨b, 0, none⟩ = some x0 ∧ W.cell? ⟨b, 1, none⟩ = some x1 ∧ W.cell? ⟨b, 2, none⟩ = some x2 ∧ W.cell? ⟨b, 3, none⟩ = some x3) :
    Grew V W' ∧ W'.cell? ⟨b2, i, none⟩ = some x4 ∧ W'.cell? ⟨b, 0, none⟩ = some x0 ∧ W'.cell? ⟨b, 1, none⟩ = some x1 ∧ W'.cell? ⟨b, 2, none⟩ = some x2 ∧ W'.cell? ⟨b, 3, none⟩ = some x3 :=
  ⟨h.1.trans g, (Below.cell g (block_in h.2.1)).trans h.2.1, (Below.cell g (block_in h.2.2.1)).trans h.2.2.1, (Below.cell g (block_in h.2.2.2.1)).trans h.2.2.2.1, (Below.cell g (block_in h.2.2.2.2.1)).trans h.2.2.2.2.1, (Below.cell g (block_in h.2.2.2.2.2)).trans h.2.2.2.2.2⟩

/-- An array of three integers by value, as it came in. -/
theorem three_in {H : Type} {enc : TypeId × Value → H} {P : Program} {w : World} {base : Nat} {spare : Nat → Bool} {held : Bool} {r : Reach} {b0 : Nat} {t e : TypeId} {k : IntKind} {v : Value} {d : DataW H} {p : List MemPlace}
    (ht : P.underlying t = some (.array 3 e)) (he : P.underlying e = some (.int k)) (hce : P.cellsOf e = 1) (hC : P.cellsOf t = 3) (hv : Value.okWide P w r b0 t v) (h : DataW.Trod enc P w base spare held t v d p) :
    ∃ x y z : Int, v = .agg #[.int k x, .int k y, .int k z] ∧ (Lit.int k x).wf = true ∧ (Lit.int k y).wf = true ∧ (Lit.int k z).wf = true := by
  have hv' : ∃ cs, v = .agg cs ∧ cs.size = P.cellsOf t := by
    simp only [Value.okWide, ht] at hv
    obtain ⟨cs, h1, h2, _⟩ := hv
    exact ⟨cs, h1, h2⟩
  obtain ⟨cs, rfl, hsz⟩ := hv'
  obtain ⟨c0, c1, c2, rfl⟩ := Joins.array3 (hsz.trans hC)
  obtain ⟨fuel, hf⟩ := h
  obtain ⟨y0, y1, y2, n, _, h0, h1, h2⟩ := trod_array3 ht hce (by simpa [Value.cells] using hf)
  obtain ⟨x, e0, _, w0⟩ := DataW.trod_int he h0
  obtain ⟨y, e1, _, w1⟩ := DataW.trod_int he h1
  obtain ⟨z, e2, _, w2⟩ := DataW.trod_int he h2
  simp at e0 e1 e2
  subst e0 e1 e2
  exact ⟨x, y, z, rfl, w0, w1, w2⟩
end Go.Proofs.Ytdcpankbolfmiaa
