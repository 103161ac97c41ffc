/- What is left when every number of examples of the call's own is changed in place: the blocks from B0 on and below D alone. No condition. -/
import Derived.Test.YthdkanmpapioeaaDoorEo
namespace Go.Proofs.YthdkanmpapioeaaDoor
open Go.RowKit Go.MapKept

/-- All but the blocks from B0 on and below D is as it was. -/
structure Mid (B0 D : Nat) (W W' : World) : Prop where
  os : W'.os = W.os
  tape : W'.tape = W.tape
  output : W'.output = W.output
  size : W.heap.size ≤ W'.heap.size
  low : ∀ b, b < B0 → W'.heap[b]? = W.heap[b]?
  high : ∀ b, D ≤ b → b < W.heap.size → W'.heap[b]? = W.heap[b]?
theorem Mid.refl (B0 D : Nat) (W : World) : Mid B0 D W W := ⟨rfl, rfl, rfl, Nat.le_refl _, fun _ _ => rfl, fun _ _ _ => rfl⟩
theorem Mid.below {B0 D : Nat} {W W' : World} (h : Mid B0 D W W') : Below B0 W W' := ⟨h.os, h.tape, h.output, h.size, h.low⟩
theorem Mid.set {B0 D g t : Nat} {W W' : World} (h : Mid B0 D W W') (h1 : B0 ≤ g) (h2 : g < D) (v : Value) : Mid B0 D W (W'.setCell ⟨g, t, none⟩ v) := by
  have hs := grownBy_setCell1 W' ⟨g, t, none⟩ v
  have far : ∀ b, b ≠ g → (W'.setCell ⟨g, t, none⟩ v).heap[b]? = W'.heap[b]? := fun b hb => heap_setCell_other W' ⟨g, t, none⟩ b v hb
  exact ⟨hs.os.trans h.os, hs.tape.trans h.tape, hs.output.trans h.output, Nat.le_trans h.size hs.size, fun b hb => (far b (by omega)).trans (h.low b hb), fun b hb hl => (far b (by omega)).trans (h.high b hb hl)⟩
theorem own_mid {B0 D : Nat} {W W' : World} {n size : Nat} {e : TypeId} {v : Value} {xs : List Value} (h : W.ownsRow D e size v n xs) (m : Mid B0 D W W') : W'.ownsRow D e size v n xs := by
  refine ⟨h.1, ?_⟩
  rcases h.2 with e1 | ⟨g, c, cur, rfl, hb, hc, rest⟩
  · exact .inl e1
  · exact .inr ⟨g, c, cur, rfl, hb, (m.high g hb (Array.getElem?_eq_some_iff.1 hc).1).trans hc, rest⟩
theorem Mid.lot {B0 D : Nat} {W W' : World} {v : Value} {rs : List (Pl × Ex)} (m : Mid B0 D W W') (h : LotE D W v rs) : LotE D W' v rs := own_mid h m
theorem Mid.own {B0 D : Nat} {W W' : World} {rs : List (Pl × Ex)} (m : Mid B0 D W W') (h : OwnL D W rs) : OwnL D W' rs := fun j r hj => ⟨own_mid (h j r hj).1 m, own_mid (h j r hj).2 m⟩
theorem Mid.rdl {B0 D : Nat} {W W' : World} {rs : List (Pl × Ex)} (m : Mid B0 D W W') (h : RdL B0 W rs) : RdL B0 W' rs := h.below m.below

/-- Numbers in a block that may be changed. -/
def IntR (B0 D G : Nat) (W : World) (a : Option Addr) (n : Nat) : Prop := ∀ t, t < n → ∃ g cs, a = some ⟨g, 0, none⟩ ∧ B0 ≤ g ∧ g < D ∧ g ≠ G ∧ W.heap[g]? = some (.cells cs 2 (0, 0)) ∧ ∀ j, j < n → ∃ z : Int, cs[j]? = some (.int .i64 z)
theorem IntR.at {B0 D G n t : Nat} {W : World} {a : Option Addr} (h : IntR B0 D G W a n) (ht : t < n) : ∃ g z, a = some ⟨g, 0, none⟩ ∧ B0 ≤ g ∧ g < D ∧ g ≠ G ∧ W.cell? ⟨g, t, none⟩ = some (.int .i64 z) ∧ W.frozen? ⟨g, t, none⟩ = false := by
  obtain ⟨g, cs, ha, h1, h2, h3, hg, hz⟩ := h t ht
  obtain ⟨z, hz⟩ := hz t ht
  exact ⟨g, z, ha, h1, h2, h3, by simp [World.cell?, hg, hz], by simp [World.frozen?, hg]⟩
theorem IntR.set {B0 D G n g t : Nat} {W : World} {a : Option Addr} (h : IntR B0 D G W a n) (z : Int) : IntR B0 D G (W.setCell ⟨g, t, none⟩ (.int .i64 z)) a n := by
  intro i hi
  obtain ⟨g', cs, ha, h1, h2, h3, hg, hz⟩ := h i hi
  by_cases e : g' = g
  · subst e
    refine ⟨g', cs.setIfInBounds t (.int .i64 z), ha, h1, h2, h3, heap_setCell_same W g' t cs 2 _ hg, fun j hj => ?_⟩
    obtain ⟨y, hy⟩ := hz j hj
    have hlt : j < cs.size := (Array.getElem?_eq_some_iff.1 hy).1
    by_cases ej : t = j
    · subst ej
      exact ⟨z, by rw [Array.getElem?_setIfInBounds_self_of_lt hlt]⟩
    · exact ⟨y, by rw [Array.getElem?_setIfInBounds_ne ej]; exact hy⟩
  · exact ⟨g', cs, ha, h1, h2, h3, (heap_setCell_other W ⟨g, t, none⟩ g' _ e).trans hg, hz⟩
theorem intR_of {B0 D G n cap : Nat} {W : World} {a : Option Addr} {zs : List Int} (h : BufK .i64 2 B0 W a n cap zs) (hD : W.heap.size ≤ D) (hG : ∀ g, a = some ⟨g, 0, none⟩ → 0 < n → g ≠ G) : IntR B0 D G W a n := by
  intro t ht
  rcases h.2 with ⟨_, h0⟩ | ⟨g, c, cur, e, hb, hg, hnc, hm, hsz, htk⟩
  · omega
  · injection e with e1 e2 e3
    have hlt : g < W.heap.size := (Array.getElem?_eq_some_iff.1 hg).1
    refine ⟨g, cur, e1, hb, by omega, hG g e1 (by omega), hg, fun j hj => ?_⟩
    have hl := BufK.len h
    have h1 : (zs.map (Value.int .i64))[j]? = some (.int .i64 (el zs j)) := by rw [List.getElem?_map, el_lt (by omega)]; rfl
    rw [← htk, List.getElem?_take_of_lt (by omega)] at h1
    exact ⟨_, by simpa using h1⟩

/-- Between two changes: the row of examples lies in block G as it lay; the numbers may be changed; all else is as it was. -/
structure Mut (B0 D G : Nat) (W0 W : World) (rs : List (Pl × Ex)) : Prop where
  row : ∀ (j : Nat) (r : Pl × Ex), rs[j]? = some r → W.cell? ⟨G, j * 2, none⟩ = some (.slice r.1.xa r.2.1.length r.1.xc) ∧ W.cell? ⟨G, j * 2 + 1, none⟩ = some (.slice r.1.ya r.2.2.length r.1.yc)
  ints : ∀ (j : Nat) (r : Pl × Ex), rs[j]? = some r → IntR B0 D G W r.1.xa r.2.1.length ∧ IntR B0 D G W r.1.ya r.2.2.length
  mid : Mid B0 D W0 W
theorem Mut.set {B0 D G g t : Nat} {W0 W : World} {rs : List (Pl × Ex)} (h : Mut B0 D G W0 W rs) (h1 : B0 ≤ g) (h2 : g < D) (h3 : g ≠ G) (z : Int) : Mut B0 D G W0 (W.setCell ⟨g, t, none⟩ (.int .i64 z)) rs := by
  refine ⟨fun j r hj => ?_, fun j r hj => ⟨(h.ints j r hj).1.set z, (h.ints j r hj).2.set z⟩, h.mid.set h1 h2 _⟩
  obtain ⟨q1, q2⟩ := h.row j r hj
  exact ⟨(World.cell?_setCell_far W ⟨g, t, none⟩ ⟨G, j * 2, none⟩ _ h3).trans q1, (World.cell?_setCell_far W ⟨g, t, none⟩ ⟨G, j * 2 + 1, none⟩ _ h3).trans q2⟩
theorem Mut.start {B0 n vc : Nat} {W1 W0 : World} {va : Option Addr} {rs : List (Pl × Ex)} (hl : LotE B0 W1 (.slice va n vc) rs) (ho : OwnL B0 W1 rs) (g : Grew W1 W0) : ∃ G, (0 < rs.length → va = some ⟨G, 0, none⟩) ∧ Mut B0 W1.heap.size G W0 W0 rs := by
  by_cases h0 : rs.length = 0
  · obtain rfl := List.eq_nil_of_length_eq_zero h0
    exact ⟨0, fun h => absurd h (Nat.lt_irrefl _), ⟨fun j r hj => by simp at hj, fun j r hj => by simp at hj, Mid.refl _ _ _⟩⟩
  · obtain ⟨r0, hr0⟩ : ∃ r, rs[0]? = some r := ⟨_, List.getElem?_eq_getElem (by omega)⟩
    obtain ⟨G, cap, e, _, hG, _⟩ := hl.at hr0
    injection e with e1 e2 e3
    obtain ⟨curG, hcG⟩ : ∃ cur, W1.heap[G]? = some (.cells cur 24 (0, 0)) := by
      rcases hl.2 with ⟨e, _⟩ | ⟨g', c, cur, e, _, hc, _⟩
      · injection e with e; rw [e1] at e; cases e
      · injection e with e _ _
        obtain rfl : G = g' := by rw [e1] at e; injection e with e; injection e
        exact ⟨cur, hc⟩
    refine ⟨G, fun _ => e1, ⟨fun j r hj => ?_, fun j r hj => ?_, Mid.refl _ _ _⟩⟩
    · obtain ⟨g', c', e', _, hg', _, k0, k1, _⟩ := hl.at hj
      injection e' with e' _ _
      obtain rfl : G = g' := by rw [e1] at e'; injection e' with e'; injection e'
      exact ⟨(Below.cell g (p := ⟨G, j * 2, none⟩) hg').trans k0, (Below.cell g (p := ⟨G, j * 2 + 1, none⟩) hg').trans k1⟩
    · have key : ∀ (a : Option Addr) (m c : Nat) (zs : List Int), BufK .i64 2 B0 W1 a m c zs → IntR B0 W1.heap.size G W0 a m := fun a m c zs h => by
        have h1 := intR_of (D := W1.heap.size) (G := G) h (Nat.le_refl _) (fun x hx hpos e => by
          subst e
          rcases h.2 with ⟨_, h0⟩ | ⟨g', c', cur, e, _, hc, _⟩
          · omega
          · injection e with e _ _
            obtain rfl : x = g' := by rw [hx] at e; injection e with e; injection e
            rw [hcG] at hc
            injection hc with hc
            injection hc with _ hc
            exact absurd hc (by decide))
        intro t ht
        obtain ⟨x, cs, ha, q1, q2, q3, q4, q5⟩ := h1 t ht
        exact ⟨x, cs, ha, q1, q2, q3, (Below.block g x q2).trans q4, q5⟩
      exact ⟨key _ _ _ _ (ho j r hj).1, key _ _ _ _ (ho j r hj).2⟩
end Go.Proofs.YthdkanmpapioeaaDoor
