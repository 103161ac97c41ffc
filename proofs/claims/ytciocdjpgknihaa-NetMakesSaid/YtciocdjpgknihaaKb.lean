/- A network in memory (NetM), its links; a slice of vectors that a call makes (Pile); what a function leaves that collects vectors (KpV). No condition. -/
import Derived.Test.YtciocdjpgknihaaKa
import Derived.Test.YtciocdjpgknihaaHe
namespace Go.Proofs.Ytciocdjpgknihaa
open Go.RowKit Go.MapKept

/-- Block b holds a struct of four cells. -/
def Four (W : World) (b : Nat) (t : TypeId) (x y z u : Value) : Prop := W.heap[b]? = some (.cells #[x, y, z, u] t (0, 0))
section
variable {W W' : World} {b : Nat} {t : TypeId} {x y z u : Value}
theorem Four.lt (h : Four W b t x y z u) : b < W.heap.size := (Array.getElem?_eq_some_iff.1 h).1
theorem Four.c0 (h : Four W b t x y z u) : W.cell? ⟨b, 0, none⟩ = some x := by simp [World.cell?, show W.heap[b]? = _ from h]
theorem Four.c1 (h : Four W b t x y z u) : W.cell? ⟨b, 1, none⟩ = some y := by simp [World.cell?, show W.heap[b]? = _ from h]
theorem Four.c2 (h : Four W b t x y z u) : W.cell? ⟨b, 2, none⟩ = some z := by simp [World.cell?, show W.heap[b]? = _ from h]
theorem Four.c3 (h : Four W b t x y z u) : W.cell? ⟨b, 3, none⟩ = some u := by simp [World.cell?, show W.heap[b]? = _ from h]
theorem Four.alloc (h : Four W b t x y z u) (o : Obj) : Four (W.alloc o) b t x y z u := (Below.heap_alloc W o b h.lt).trans h
theorem Four.grow (h : Four W b t x y z u) (g : Grew W W') : Four W' b t x y z u := (Below.block g b h.lt).trans h
theorem Four.grown {r : Option Nat} (h : Four W b t x y z u) (g : W.grownBy W' r) (hne : some b ≠ r) : Four W' b t x y z u := (g.block b h.lt hne).trans h
theorem Four.new (W : World) (t : TypeId) (x y z u : Value) : Four (W.alloc (.cells #[x, y, z, u] t)) W.heap.size t x y z u := (MapKept.heap_alloc W _).1
end

/-- The cells of a link; those of the first links. -/
def lkC (P : Nat) (zs : List Int) (k : Nat) : List Value :=
  [.int .i64 (sz zs (k + 1)), .int .i64 (sz zs k), .slice (some ⟨P, oW zs k, none⟩) (sz zs (k + 1) * sz zs k) (nP zs - oW zs k), .slice (some ⟨P, oB zs k, none⟩) (sz zs (k + 1)) (nP zs - oB zs k)]
def lcells (P : Nat) (zs : List Int) : Nat → List Value
  | 0 => []
  | k + 1 => lcells P zs k ++ lkC P zs k
theorem lcells_len (P : Nat) (zs : List Int) : ∀ k, (lcells P zs k).length = k * 4
  | 0 => rfl
  | k + 1 => by simp only [lcells, List.length_append, lcells_len P zs k, lkC, List.length_cons, List.length_nil]; omega
theorem lcells_at (P : Nat) (zs : List Int) {k i : Nat} (hi : i < 4) : ∀ {m : Nat}, k < m → (lcells P zs m)[k * 4 + i]? = (lkC P zs k)[i]?
  | 0, h => by omega
  | m + 1, h => by
    simp only [lcells]
    by_cases e : k = m
    · subst e
      rw [List.getElem?_append_right (by rw [lcells_len]; omega), lcells_len]
      congr 1
      omega
    · rw [List.getElem?_append_left (by rw [lcells_len]; omega)]
      exact lcells_at P zs hi (by omega)

/-- What a function leaves that collects vectors: all but vectors and slices of vectors. -/
def KpV (W W' : World) : Prop := W.heap.size ≤ W'.heap.size ∧ ∀ (j : Nat) (cs : Array Value) (t : TypeId) (m : Nat × Nat), W.heap[j]? = some (.cells cs t m) → t ≠ 32 → t ≠ 35 → W'.heap[j]? = some (.cells cs t m)
theorem KpV.refl (W : World) : KpV W W := ⟨Nat.le_refl _, fun _ _ _ _ h _ _ => h⟩
theorem KpV.trans {A B C : World} (h : KpV A B) (k : KpV B C) : KpV A C := ⟨Nat.le_trans h.1 k.1, fun j cs t m hj h1 h2 => k.2 j cs t m (h.2 j cs t m hj h1 h2) h1 h2⟩
theorem KpV.of_grew {W W' : World} (h : Grew W W') : KpV W W' := ⟨h.size, fun j _ _ _ hj _ _ => (Below.block h j (Array.getElem?_eq_some_iff.1 hj).1).trans hj⟩
theorem KpV.of_grown {W W' : World} {g : Nat} {cur : Array Value} {t : TypeId} {m : Nat × Nat} (h : W.grownBy W' (some g)) (hg : W.heap[g]? = some (.cells cur t m)) (ht : t = 32 ∨ t = 35) : KpV W W' :=
  ⟨h.size, fun j cs t' m' hj h1 h2 => (h.block j (Array.getElem?_eq_some_iff.1 hj).1 (fun e => by
    injection e with e
    subst e
    rw [hg] at hj
    injection hj with hj
    injection hj with _ e2
    rcases ht with h | h
    · exact h1 (e2.symm.trans h)
    · exact h2 (e2.symm.trans h))).trans hj⟩
theorem own_kp {W W' : World} {B n size : Nat} {e : TypeId} {v : Value} {xs : List Value} (h : W.ownsRow B e size v n xs) (k : KpV W W') (h1 : e ≠ 32) (h2 : e ≠ 35) : W'.ownsRow B e size v n xs := by
  refine ⟨h.1, ?_⟩
  rcases h.2 with e1 | ⟨g, c, cur, rfl, hb, hc, rest⟩
  · exact .inl e1
  · exact .inr ⟨g, c, cur, rfl, hb, k.2 g _ _ _ hc h1 h2, rest⟩

/-- Block b is the network with the sizes zs, the parameters ps and q; all that it has lies in blocks from D on. -/
def NetM (D : Nat) (W : World) (b : Nat) (zs ps : List Int) (q : Int) : Prop :=
  D ≤ b ∧ ∃ sb P la lc, Four W b 58 (.pointer (some ⟨sb, 0, none⟩)) (.slice (some ⟨P, 0, none⟩) (nP zs) (nP zs)) (.slice la (lnk zs) lc) (.int .i64 q) ∧ Shp D W sb zs ∧
    Buf D W (some ⟨P, 0, none⟩) (nP zs) (nP zs) ps ∧ W.ownsRow D 70 4 (.slice la (lnk zs) lc) (lnk zs) (lcells P zs (lnk zs))
/-- What holds of its numbers. -/
structure NetP (zs ps : List Int) (q : Int) : Prop where
  right : Right zs
  len : ps.length = nP zs
  fit : Fit ps
  q0 : 0 ≤ q
  q1 : q ≤ 62
section
variable {D D' b r : Nat} {W W' : World} {zs ps : List Int} {q : Int}
theorem NetM.lt (h : NetM D W b zs ps q) : b < W.heap.size := by obtain ⟨_, _, _, _, _, h, _⟩ := h; exact h.lt
theorem NetM.grow (h : NetM D W b zs ps q) (g : Grew W W') : NetM D W' b zs ps q := by
  obtain ⟨h0, sb, P, la, lc, h1, h2, h3, h4⟩ := h
  exact ⟨h0, sb, P, la, lc, h1.grow g, h2.grow g, h3.grow g, own_grow h4 g⟩
theorem NetM.mono (h : NetM D W b zs ps q) (hD : D' ≤ D) : NetM D' W b zs ps q := by
  obtain ⟨h0, sb, P, la, lc, h1, h2, h3, h4⟩ := h
  refine ⟨Nat.le_trans hD h0, sb, P, la, lc, h1, h2.mono hD, h3.mono hD, h4.1, ?_⟩
  rcases h4.2 with e | ⟨g, c, cur, e, hb, rest⟩
  · exact .inl e
  · exact .inr ⟨g, c, cur, e, Nat.le_trans hD hb, rest⟩
/-- An older block is written. -/
theorem NetM.grown (h : NetM D W b zs ps q) (g : W.grownBy W' (some r)) (hr : r < D) : NetM D W' b zs ps q := by
  obtain ⟨h0, sb, P, la, lc, h1, h2, h3, h4⟩ := h
  exact ⟨h0, sb, P, la, lc, h1.grown g (fun e => by injection e with e; omega), h2.grown g hr, own_aside h3 g hr, own_aside h4 g hr⟩
theorem NetM.kp (h : NetM D W b zs ps q) (k : KpV W W') : NetM D W' b zs ps q := by
  obtain ⟨h0, sb, P, la, lc, h1, ⟨s0, sa, cs, aw, cw, ab, cb, s1, s2, s3, s4⟩, h3, h4⟩ := h
  exact ⟨h0, sb, P, la, lc, k.2 _ _ _ _ h1 (by decide) (by decide), ⟨s0, sa, cs, aw, cw, ab, cb, k.2 _ _ _ _ s1 (by decide) (by decide), own_kp s2 k (by decide) (by decide), own_kp s3 k (by decide) (by decide), own_kp s4 k (by decide) (by decide)⟩, own_kp h3 k (by decide) (by decide), own_kp h4 k (by decide) (by decide)⟩
/-- A link in a network's memory. -/
theorem link_at {P k m n lc : Nat} {la : Option Addr} (h : W.ownsRow D 70 4 (.slice la n lc) n (lcells P zs m)) (hn : m = n) (hk : k < m) : ∃ g, la = some ⟨g, 0, none⟩ ∧ D ≤ g ∧ g < W.heap.size ∧ n ≤ lc ∧ lc ≤ maxLen ∧
    W.cell? ⟨g, k * 4, none⟩ = some (.int .i64 (sz zs (k + 1))) ∧ W.cell? ⟨g, k * 4 + 1, none⟩ = some (.int .i64 (sz zs k)) ∧ W.cell? ⟨g, k * 4 + 2, none⟩ = some (.slice (some ⟨P, oW zs k, none⟩) (sz zs (k + 1) * sz zs k) (nP zs - oW zs k)) ∧
    W.cell? ⟨g, k * 4 + 3, none⟩ = some (.slice (some ⟨P, oB zs k, none⟩) (sz zs (k + 1)) (nP zs - oB zs k)) := by
  subst hn
  rcases h.2 with ⟨_, h0⟩ | ⟨g, c, cur, e, hb, hg, hc, hm, _⟩
  · omega
  · injection e with e1 e2 e3
    subst e1 e3
    refine ⟨g, rfl, hb, (Array.getElem?_eq_some_iff.1 hg).1, hc, hm, ?_, ?_, ?_, ?_⟩
    · have := lcells_at P zs (k := k) (i := 0) (by omega) hk
      rw [World.ownsRow.cellAt h _ (by omega)]
      exact this
    · rw [World.ownsRow.cellAt h _ (by omega), lcells_at P zs (by omega) hk]; rfl
    · rw [World.ownsRow.cellAt h _ (by omega), lcells_at P zs (by omega) hk]; rfl
    · rw [World.ownsRow.cellAt h _ (by omega), lcells_at P zs (by omega) hk]; rfl
end

/-- A row that is owned stays while a block of another make is written. -/
theorem own_kept {w w' : World} {r : Option Nat} {B n size : Nat} {e : TypeId} {v : Value} {xs : List Value} (h : w.ownsRow B e size v n xs) (hg : w.grownBy w' r)
    (hne : ∀ g, r = some g → ∀ cur, w.heap[g]? ≠ some (.cells cur e (0, 0))) : w'.ownsRow B e size v n xs := by
  refine h.kept hg ?_
  rcases h.2 with ⟨rfl, _⟩ | ⟨g, cap, cur, rfl, _, hg1, _⟩
  · exact .inl rfl
  · right
    intro e
    exact hne g e.symm cur hg1
theorem own_type {w : World} {B n size g : Nat} {e : TypeId} {v : Value} {xs : List Value} (h : w.ownsRow B e size v n xs) (hv : v.ownBlock = some g) : B ≤ g ∧ ∃ cur, w.heap[g]? = some (.cells cur e (0, 0)) := by
  rcases h.2 with ⟨rfl, _⟩ | ⟨g', cap, cur, rfl, hb, hg1, _⟩
  · cases hv
  · injection hv with hv
    have hv : g' = g := hv
    subst hv
    exact ⟨hb, cur, hg1⟩

/-- A vector that can be read: its elements lie below B, or the call has made them. -/
def Body (B : Nat) (W : World) (u : Vec) : Prop := u.zs.length ≤ u.cap ∧ u.cap ≤ 9223372036854775807 ∧ (Rd B W u.a u.zs ∨ Buf 0 W u.a u.zs.length u.cap u.zs)
theorem Body.of_buf {B D : Nat} {W : World} {u : Vec} (h : Buf D W u.a u.zs.length u.cap u.zs) : Body B W u := ⟨(buf_fits h).1, (buf_fits h).2, .inr (h.mono (Nat.zero_le _))⟩
theorem Body.kept {B : Nat} {W W' : World} {r : Option Nat} {u : Vec} (h : Body B W u) (hg : W.grownBy W' r) (hne : ∀ g, r = some g → B ≤ g ∧ ∀ cur, W.heap[g]? ≠ some (.cells cur 2 (0, 0))) (hB : B ≤ W.heap.size) : Body B W' u := by
  refine ⟨h.1, h.2.1, ?_⟩
  rcases h.2.2 with h | h
  · left
    refine Rd.below h ⟨hg.os, hg.tape, hg.output, hg.size, fun k hk => hg.block k (Nat.lt_of_lt_of_le hk hB) (fun e => ?_)⟩
    have := (hne k e.symm).1
    omega
  · exact .inr (own_kept h hg (fun g e => (hne g e).2))
theorem Body.rd {B : Nat} {W : World} {u : Vec} (h : Body B W u) (hB : B ≤ W.heap.size) : Rd W.heap.size W u.a u.zs := by
  rcases h.2.2 with h | h
  · exact h.mono hB
  · exact h.rd

def slV (u : Vec) : Value := .slice u.a u.zs.length u.cap
/-- v is a slice of vectors that a call has made from block B on. -/
def Pile (e : TypeId) (B : Nat) (W : World) (v : Value) (vs : List Vec) : Prop := B ≤ W.heap.size ∧ W.ownsRow B e 1 v vs.length (vs.map slV) ∧ ∀ j, j < vs.length → Body B W (va vs j)
section
variable {e : TypeId} {B : Nat} {W W' : World} {v : Value} {vs : List Vec}
theorem Pile.nil (e : TypeId) {B : Nat} {W : World} (h : B ≤ W.heap.size) : Pile e B W (.slice none 0 0) [] := ⟨h, World.ownsRow_nil _ _ _ _, fun j hj => by simp at hj⟩
theorem Pile.kept {r : Option Nat} (h : Pile e B W v vs) (hg : W.grownBy W' r) (hne : ∀ g, r = some g → B ≤ g ∧ (∀ cur, W.heap[g]? ≠ some (.cells cur 2 (0, 0))) ∧ ∀ cur, W.heap[g]? ≠ some (.cells cur e (0, 0))) : Pile e B W' v vs :=
  ⟨Nat.le_trans h.1 hg.size, own_kept h.2.1 hg (fun g e => (hne g e).2.2), fun j hj => (h.2.2 j hj).kept hg (fun g e => ⟨(hne g e).1, (hne g e).2.1⟩) h.1⟩
theorem Pile.grow (h : Pile e B W v vs) (g : Grew W W') : Pile e B W' v vs := h.kept (g.by' none) (fun g e => by cases e)
theorem va_left {vs : List Vec} {u : Vec} {j : Nat} (h : j < vs.length) : va (vs ++ [u]) j = va vs j := by unfold va; rw [List.getElem?_append_left h]
theorem va_here {vs : List Vec} {u : Vec} : va (vs ++ [u]) vs.length = u := by unfold va; simp
/-- What an append leaves. -/
theorem Pile.snoc {W0 : World} {v' : Value} {u : Vec} (h : Pile e B W v vs) (hu : Body B W u) (he : e ≠ 2) (hg0 : Grew W W0) (hg : W0.grownBy W' v.ownBlock)
    (h3 : W'.ownsRow B e 1 v' (vs.length + 1) (vs.map slV ++ [slV u])) : Pile e B W' v' (vs ++ [u]) := by
  have h0 := h.grow hg0
  have hu0 : Body B W0 u := hu.kept (hg0.by' none) (fun g e => by cases e) h.1
  have hty : ∀ g, v.ownBlock = some g → B ≤ g ∧ ∀ cur, W0.heap[g]? ≠ some (.cells cur 2 (0, 0)) := fun g e' => by
    obtain ⟨hb, cur', e2⟩ := own_type h0.2.1 e'
    refine ⟨hb, fun cur e3 => ?_⟩
    rw [e3] at e2
    injection e2 with e2
    injection e2 with _ e2
    exact he e2.symm
  refine ⟨Nat.le_trans h0.1 hg.size, ?_, fun j hj => ?_⟩
  · rw [List.length_append, List.length_singleton, List.map_append]
    exact h3
  · rw [List.length_append, List.length_singleton] at hj
    by_cases e1 : j < vs.length
    · rw [va_left e1]
      exact (h0.2.2 j e1).kept hg hty h0.1
    · obtain rfl : j = vs.length := by omega
      rw [va_here]
      exact hu0.kept hg hty h0.1
theorem va_set_same {vs : List Vec} {k : Nat} (u : Vec) (h : k < vs.length) : va (vs.set k u) k = u := by unfold va; rw [List.getElem?_set_self h]; rfl
theorem va_set_other {vs : List Vec} {k j : Nat} (u : Vec) (h : k ≠ j) : va (vs.set k u) j = va vs j := by unfold va; rw [List.getElem?_set_ne h]
/-- What a store leaves. -/
theorem Pile.set {g cap : Nat} {u : Vec} (h : Pile e B W (.slice (some ⟨g, 0, none⟩) vs.length cap) vs) (hu : Body B W u) (he : e ≠ 2) (k : Nat) : Pile e B (W.setCell ⟨g, k, none⟩ (slV u)) (.slice (some ⟨g, 0, none⟩) vs.length cap) (vs.set k u) := by
  have hty : ∀ g', some g = some g' → B ≤ g' ∧ ∀ cur, W.heap[g']? ≠ some (.cells cur 2 (0, 0)) := fun g' e' => by
    injection e' with e'
    subst e'
    obtain ⟨hb, cur', e2⟩ := own_type h.2.1 (g := g) rfl
    refine ⟨hb, fun cur e3 => ?_⟩
    rw [e3] at e2
    injection e2 with e2
    injection e2 with _ e2
    exact he e2.symm
  have hg := grownBy_setCell1 W ⟨g, k, none⟩ (slV u)
  refine ⟨Nat.le_trans h.1 hg.size, ?_, fun j hj => ?_⟩
  · have := (World.ownsRow.stored h.2.1 k (slV u)).1
    rw [List.length_set, List.map_set]
    exact this
  · rw [List.length_set] at hj
    by_cases e1 : k = j
    · subst e1
      rw [va_set_same u hj]
      exact hu.kept hg hty h.1
    · rw [va_set_other u e1]
      exact (h.2.2 j hj).kept hg hty h.1
theorem Pile.slice (h : Pile e B W v vs) : ∃ a cap, v = .slice a vs.length cap ∧ vs.length ≤ cap ∧ cap ≤ maxLen := by
  rcases h.2.1.2 with ⟨rfl, h0⟩ | ⟨g, cap, cur, rfl, _, _, hc, hm, _⟩
  · exact ⟨none, 0, by rw [h0], by omega, Nat.zero_le _⟩
  · exact ⟨_, _, rfl, hc, hm⟩
theorem Pile.at {a : Option Addr} {n cap j : Nat} (h : Pile e B W (.slice a n cap) vs) (hj : j < vs.length) : ∃ g, a = some ⟨g, 0, none⟩ ∧ B ≤ g ∧ g < W.heap.size ∧ W.cell? ⟨g, j, none⟩ = some (slV (va vs j)) ∧ W.frozen? ⟨g, j, none⟩ = false ∧ vs.length ≤ cap := by
  rcases h.2.1.2 with ⟨e, h0⟩ | ⟨g, cap', cur, e, hb, hg, hc, _⟩
  · omega
  · injection e with e1 e2 e3
    subst e1 e2 e3
    refine ⟨g, rfl, hb, (Array.getElem?_eq_some_iff.1 hg).1, ?_, World.ownsRow.frozenAt h.2.1 j, hc⟩
    rw [World.ownsRow.cellAt h.2.1 j (by omega), List.getElem?_map, va_lt hj]
    rfl
/-- A list of vectors that can be read. -/
theorem Pile.lot {a : Option Addr} {n cap : Nat} (h : Pile e B W (.slice a n cap) vs) (hl : vs.length ≤ 1048576) (hs : ∀ j, j < vs.length → (va vs j).zs.length ≤ 1048576) (hf : ∀ j, j < vs.length → Fit (va vs j).zs) : Lot W a cap vs := by
  obtain ⟨a', c', e', h1, h2⟩ := h.slice
  obtain ⟨rfl, rfl, rfl⟩ : a = a' ∧ n = vs.length ∧ cap = c' := by injection e' with e1 e2 e3; exact ⟨e1, e2, e3⟩
  refine ⟨by omega, h1, fun j hj => by have := hs j hj; omega, ?_, fun j hj => (h.2.2 j hj).rd h.1, hf⟩
  by_cases h0 : vs = []
  · exact .inl h0
  · obtain ⟨g, rfl, _, hg, _⟩ := h.at (j := 0) (List.length_pos_iff.2 h0)
    refine .inr ⟨g, 0, rfl, hg, fun j hj => ?_⟩
    obtain ⟨g', e1, _, _, hc, _⟩ := h.at hj
    obtain rfl : g = g' := by injection e1 with e1; injection e1
    rw [Nat.zero_add]
    exact hc
end
end Go.Proofs.Ytciocdjpgknihaa
