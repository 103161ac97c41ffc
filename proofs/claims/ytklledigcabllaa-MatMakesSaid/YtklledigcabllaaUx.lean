/- Conditions on cells that are kept where calls make nothing but new memory. No condition. -/
import Derived.Test.YtklledigcabllaaUw
namespace Go.Proofs.Ytklledigcabllaa
open Go.RowKit

theorem keep_h3 {V W W' : World} {a b c : Addr} {x y z : Value} (k : Grew W W') (h : Grew V W ∧ W.cell? a = some x ∧ W.cell? b = some y ∧ W.cell? c = some z) :
    Grew V W' ∧ W'.cell? a = some x ∧ W'.cell? b = some y ∧ W'.cell? c = some z :=
  ⟨h.1.trans k, (Below.cell k (World.block_lt_of_cell? W a h.2.1)).trans h.2.1, (Below.cell k (World.block_lt_of_cell? W b h.2.2.1)).trans h.2.2.1, (Below.cell k (World.block_lt_of_cell? W c h.2.2.2)).trans h.2.2.2⟩
theorem keep_h6 {V W W' : World} {a b c d e f : Addr} {x y z u v s : Value} (k : Grew W W') (h : Grew V W ∧ W.cell? a = some x ∧ W.cell? b = some y ∧ W.cell? c = some z ∧ W.cell? d = some u ∧ W.cell? e = some v ∧ W.cell? f = some s) :
    Grew V W' ∧ W'.cell? a = some x ∧ W'.cell? b = some y ∧ W'.cell? c = some z ∧ W'.cell? d = some u ∧ W'.cell? e = some v ∧ W'.cell? f = some s := by
  obtain ⟨h0, h1, h2, h3, h4, h5, h6⟩ := h
  exact ⟨h0.trans k, (Below.cell k (World.block_lt_of_cell? W a h1)).trans h1, (Below.cell k (World.block_lt_of_cell? W b h2)).trans h2, (Below.cell k (World.block_lt_of_cell? W c h3)).trans h3, (Below.cell k (World.block_lt_of_cell? W d h4)).trans h4, (Below.cell k (World.block_lt_of_cell? W e h5)).trans h5, (Below.cell k (World.block_lt_of_cell? W f h6)).trans h6⟩
theorem keep_h9 {V W W' : World} {a b c d e f g i j : Addr} {x y z u v s t o p : Value} (k : Grew W W') (h : Grew V W ∧ W.cell? a = some x ∧ W.cell? b = some y ∧ W.cell? c = some z ∧ W.cell? d = some u ∧ W.cell? e = some v ∧ W.cell? f = some s ∧ W.cell? g = some t ∧ W.cell? i = some o ∧ W.cell? j = some p) :
    Grew V W' ∧ W'.cell? a = some x ∧ W'.cell? b = some y ∧ W'.cell? c = some z ∧ W'.cell? d = some u ∧ W'.cell? e = some v ∧ W'.cell? f = some s ∧ W'.cell? g = some t ∧ W'.cell? i = some o ∧ W'.cell? j = some p := by
  obtain ⟨h0, h1, h2, h3, h4, h5, h6, h7, h8, h9⟩ := h
  exact ⟨h0.trans k, (Below.cell k (World.block_lt_of_cell? W a h1)).trans h1, (Below.cell k (World.block_lt_of_cell? W b h2)).trans h2, (Below.cell k (World.block_lt_of_cell? W c h3)).trans h3, (Below.cell k (World.block_lt_of_cell? W d h4)).trans h4, (Below.cell k (World.block_lt_of_cell? W e h5)).trans h5, (Below.cell k (World.block_lt_of_cell? W f h6)).trans h6, (Below.cell k (World.block_lt_of_cell? W g h7)).trans h7, (Below.cell k (World.block_lt_of_cell? W i h8)).trans h8, (Below.cell k (World.block_lt_of_cell? W j h9)).trans h9⟩
theorem keep_h12 {V W W' : World} {a b c d e f g i j l m n : Addr} {x y z u v s t o p q r aa : Value} (k : Grew W W') (h : Grew V W ∧ W.cell? a = some x ∧ W.cell? b = some y ∧ W.cell? c = some z ∧ W.cell? d = some u ∧ W.cell? e = some v ∧ W.cell? f = some s ∧ W.cell? g = some t ∧ W.cell? i = some o ∧ W.cell? j = some p ∧ W.cell? l = some q ∧ W.cell? m = some r ∧ W.cell? n = some aa) :
    Grew V W' ∧ W'.cell? a = some x ∧ W'.cell? b = some y ∧ W'.cell? c = some z ∧ W'.cell? d = some u ∧ W'.cell? e = some v ∧ W'.cell? f = some s ∧ W'.cell? g = some t ∧ W'.cell? i = some o ∧ W'.cell? j = some p ∧ W'.cell? l = some q ∧ W'.cell? m = some r ∧ W'.cell? n = some aa := by
  obtain ⟨h0, h1, h2, h3, h4, h5, h6, h7, h8, h9, h10, h11, h12⟩ := h
  exact ⟨h0.trans k, (Below.cell k (World.block_lt_of_cell? W a h1)).trans h1, (Below.cell k (World.block_lt_of_cell? W b h2)).trans h2, (Below.cell k (World.block_lt_of_cell? W c h3)).trans h3, (Below.cell k (World.block_lt_of_cell? W d h4)).trans h4, (Below.cell k (World.block_lt_of_cell? W e h5)).trans h5, (Below.cell k (World.block_lt_of_cell? W f h6)).trans h6, (Below.cell k (World.block_lt_of_cell? W g h7)).trans h7, (Below.cell k (World.block_lt_of_cell? W i h8)).trans h8, (Below.cell k (World.block_lt_of_cell? W j h9)).trans h9, (Below.cell k (World.block_lt_of_cell? W l h10)).trans h10, (Below.cell k (World.block_lt_of_cell? W m h11)).trans h11, (Below.cell k (World.block_lt_of_cell? W n h12)).trans h12⟩
end Go.Proofs.Ytklledigcabllaa
