/- A slice of slices of integers whose rows a call has made from a block on (Ords); a block of one cell, of four; a part of a slice that can be read. -/
import Derived.Test.YtdcpankbolfmiaaQa
import Derived.Test.YtdcpankbolfmiaaTo
import Derived.Test.YtdcpankbolfmiaaOe
import Derived.Deep.OwnRows
namespace Go.Proofs.Ytdcpankbolfmiaa
open Go.RowKit Go.MapKept

/-- A block that holds a struct of four cells. -/
def Four (W : World) (b : Nat) (t : TypeId) (x y z u : Value) : Prop := W.heap[b]? = some (.cells #[x, y, z, u] t (0, 0))
section
variable {W W' : World} {b : Nat} {t : TypeId} {x y z u : Value}
theorem Four.lt (h : Four W b t x y z u) : b < W.heap.size := (Array.getElem?_eq_some_iff.1 h).1
theorem Four.c0 (h : Four W b t x y z u) : W.cell? ⟨b, 0, none⟩ = some x := by simp [World.cell?, show W.heap[b]? = _ from h]
theorem Four.c1 (h : Four W b t x y z u) : W.cell? ⟨b, 1, none⟩ = some y := by simp [World.cell?, show W.heap[b]? = _ from h]
theorem Four.c2 (h : Four W b t x y z u) : W.cell? ⟨b, 2, none⟩ = some z := by simp [World.cell?, show W.heap[b]? = _ from h]
theorem Four.c3 (h : Four W b t x y z u) : W.cell? ⟨b, 3, none⟩ = some u := by simp [World.cell?, show W.heap[b]? = _ from h]
theorem Four.f3 (h : Four W b t x y z u) : W.frozen? ⟨b, 3, none⟩ = false := by simp [World.frozen?, show W.heap[b]? = _ from h]
theorem Four.f0 (h : Four W b t x y z u) : W.frozen? ⟨b, 0, none⟩ = false := by simp [World.frozen?, show W.heap[b]? = _ from h]
theorem Four.f1 (h : Four W b t x y z u) : W.frozen? ⟨b, 1, none⟩ = false := by simp [World.frozen?, show W.heap[b]? = _ from h]
theorem Four.f2 (h : Four W b t x y z u) : W.frozen? ⟨b, 2, none⟩ = false := by simp [World.frozen?, show W.heap[b]? = _ from h]
theorem Four.set0 (h : Four W b t x y z u) (v : Value) : Four (W.setCell ⟨b, 0, none⟩ v) b t v y z u := by
  have := heap_setCell_same W b 0 #[x, y, z, u] t v h
  unfold Four
  rw [this]; rfl
theorem Four.set1 (h : Four W b t x y z u) (v : Value) : Four (W.setCell ⟨b, 1, none⟩ v) b t x v z u := by
  have := heap_setCell_same W b 1 #[x, y, z, u] t v h
  unfold Four
  rw [this]; rfl
theorem Four.set2 (h : Four W b t x y z u) (v : Value) : Four (W.setCell ⟨b, 2, none⟩ v) b t x y v u := by
  have := heap_setCell_same W b 2 #[x, y, z, u] t v h
  unfold Four
  rw [this]; rfl
theorem Four.set3 (h : Four W b t x y z u) (v : Value) : Four (W.setCell ⟨b, 3, none⟩ v) b t x y z v := by
  have := heap_setCell_same W b 3 #[x, y, z, u] t v h
  unfold Four
  rw [this]; rfl
theorem Four.alloc (h : Four W b t x y z u) (o : Obj) : Four (W.alloc o) b t x y z u := (Below.heap_alloc W o b h.lt).trans h
theorem Four.grow (h : Four W b t x y z u) (g : Grew W W') : Four W' b t x y z u := (Below.block g b h.lt).trans h
theorem Four.grown {r : Option Nat} (h : Four W b t x y z u) (g : W.grownBy W' r) (hne : some b ≠ r) : Four W' b t x y z u := (g.block b h.lt hne).trans h
theorem Four.new (W : World) (t : TypeId) (x y z u : Value) : Four (W.alloc (.cells #[x, y, z, u] t)) W.heap.size t x y z u := (MapKept.heap_alloc W _).1
end

/-- v is a slice of slices that a call has made from block B on, and so are its rows: it holds the lists ls. -/
def Ords (B : Nat) (W : World) (v : Value) (ls : List (List Int)) : Prop :=
  ∃ (A : Nat → Option Addr) (C : Nat → Nat), W.ownsRow B 38 1 v ls.length ((List.range ls.length).map fun j => Value.slice (A j) (rowAt ls j).length (C j)) ∧
    ∀ j, j < ls.length → BufK .i64 3 B W (A j) (rowAt ls j).length (C j) (rowAt ls j)
section
variable {B : Nat} {W W' : World} {v : Value} {ls : List (List Int)}
theorem Ords.nil (B : Nat) (W : World) : Ords B W (.slice none 0 0) [] := ⟨fun _ => none, fun _ => 0, World.ownsRow_nil _ _ _ _, fun j hj => by simp at hj⟩
theorem Ords.kept {r : Option Nat} (h : Ords B W v ls) (hg : W.grownBy W' r) (hne : ∀ g, r = some g → ∀ cur e, W.heap[g]? ≠ some (.cells cur e (0, 0))) : Ords B W' v ls := by
  obtain ⟨A, C, h1, h2⟩ := h
  exact ⟨A, C, own_kept h1 hg (fun g e cur => hne g e cur _), fun j hj => own_kept (h2 j hj) hg (fun g e cur => hne g e cur _)⟩
theorem Ords.grow (h : Ords B W v ls) (g : Grew W W') : Ords B W' v ls := h.kept (g.by' none) (fun g e => by cases e)
/-- What an append to the outer slice leaves. -/
theorem Ords.snoc {W0 : World} {v' : Value} {a : Option Addr} {c : Nat} {zs : List Int} {A : Nat → Option Addr} {C : Nat → Nat} (h1 : W.ownsRow B 38 1 v ls.length ((List.range ls.length).map fun j => Value.slice (A j) (rowAt ls j).length (C j)))
    (h2 : ∀ j, j < ls.length → BufK .i64 3 B W (A j) (rowAt ls j).length (C j) (rowAt ls j)) (hz : BufK .i64 3 B W a zs.length c zs) (hg0 : Grew W W0) (hg : W0.grownBy W' v.ownBlock)
    (h3 : W'.ownsRow B 38 1 v' (ls.length + 1) (((List.range ls.length).map fun j => Value.slice (A j) (rowAt ls j).length (C j)) ++ [.slice a zs.length c])) : Ords B W' v' (ls ++ [zs]) := by
  have k1 : W0.ownsRow B 38 1 v ls.length _ := own_kept h1 (hg0.by' none) (fun g e => by cases e)
  have hty : ∀ g, v.ownBlock = some g → ∀ cur, W0.heap[g]? ≠ some (.cells cur 3 (0, 0)) := fun g e cur e' => by
    obtain ⟨cur', e2⟩ := own_type k1 e
    rw [e'] at e2
    injection e2 with e2
    injection e2 with _ e2
    exact absurd e2 (by decide)
  refine ⟨fun j => if j < ls.length then A j else a, fun j => if j < ls.length then C j else c, ?_, fun j hj => ?_⟩
  · rw [List.length_append, List.length_singleton, List.range_succ, List.map_append]
    have e1 : (List.range ls.length).map (fun j => Value.slice (if j < ls.length then A j else a) (rowAt (ls ++ [zs]) j).length (if j < ls.length then C j else c)) = (List.range ls.length).map (fun j => Value.slice (A j) (rowAt ls j).length (C j)) :=
      List.map_congr_left (fun j hj => by
        have hj := List.mem_range.1 hj
        simp only [if_pos hj, rowAt_left hj])
    rw [e1]
    simpa [rowAt_here] using h3
  · rw [List.length_append, List.length_singleton] at hj
    by_cases e : j < ls.length
    · simp only [if_pos e, rowAt_left e]
      exact own_kept (own_kept (h2 j e) (hg0.by' none) (fun g e => by cases e)) hg hty
    · obtain rfl : j = ls.length := by omega
      simp only [if_neg e, rowAt_here]
      exact own_kept (own_kept hz (hg0.by' none) (fun g e => by cases e)) hg hty
/-- How long it is, and where a row lies. -/
theorem Ords.slice (h : Ords B W v ls) : ∃ a cap, v = .slice a ls.length cap := by
  obtain ⟨A, C, h1, _⟩ := h
  rcases h1.2 with ⟨rfl, h0⟩ | ⟨g, cap, cur, rfl, _⟩
  · exact ⟨none, 0, by rw [h0]⟩
  · exact ⟨_, _, rfl⟩
theorem Ords.at {a : Option Addr} {cap j : Nat} (h : Ords B W (.slice a ls.length cap) ls) (hj : j < ls.length) : ∃ g aj cj, a = some ⟨g, 0, none⟩ ∧ g < W.heap.size ∧ W.cell? ⟨g, j, none⟩ = some (.slice aj (rowAt ls j).length cj) ∧ RdK .i64 W.heap.size W aj (rowAt ls j) := by
  obtain ⟨A, C, h1, h2⟩ := h
  rcases h1.2 with ⟨e, h0⟩ | ⟨g, cap', cur, e, _, hg, _⟩
  · omega
  · injection e with e1 e2 e3
    subst e1 e3
    refine ⟨g, A j, C j, rfl, (Array.getElem?_eq_some_iff.1 hg).1, ?_, (h2 j hj).rd⟩
    rw [World.ownsRow.cellAt h1 j (by omega)]
    simp [hj]
end

section
variable {B : Nat} {W W' : World} {ls : List (List Int)}
/-- What a store of a row in place of an empty one leaves. -/
theorem rowAt_set (ls : List (List Int)) (zs : List Int) {j i : Nat} (hj : j < ls.length) : rowAt (ls.set j zs) i = if i = j then zs else rowAt ls i := by
  unfold rowAt
  rw [List.getElem?_set]
  by_cases e : i = j
  · subst e; simp [hj]
  · simp [e, Ne.symm e]
theorem Ords.put {g n c j m cz : Nat} {az : Option Addr} {zs : List Int} (h : Ords B W (.slice (some ⟨g, 0, none⟩) n c) ls) (hn : ls.length = n) (hj : j < n) (hm : zs.length = m) (hz : BufK .i64 3 B W az m cz zs) :
    Ords B (W.setCell ⟨g, j, none⟩ (.slice az m cz)) (.slice (some ⟨g, 0, none⟩) n c) (ls.set j zs) := by
  subst hm hn
  obtain ⟨A, C, h1, h2⟩ := h
  have hty : ∀ g', some g = some g' → ∀ cur, W.heap[g']? ≠ some (.cells cur 3 (0, 0)) := fun g' e cur e' => by
    obtain ⟨cur', e2⟩ := own_type h1 e
    rw [e'] at e2
    injection e2 with e2
    injection e2 with _ e2
    exact absurd e2 (by decide)
  have hset := (World.ownsRow.stored h1 j (.slice az zs.length cz)).1
  refine ⟨fun i => if i = j then az else A i, fun i => if i = j then cz else C i, ?_, fun i hi => ?_⟩
  · have e1 : (List.range (ls.set j zs).length).map (fun i => Value.slice (if i = j then az else A i) (rowAt (ls.set j zs) i).length (if i = j then cz else C i)) = ((List.range ls.length).map (fun i => Value.slice (A i) (rowAt ls i).length (C i))).set j (.slice az zs.length cz) := by
      apply List.ext_getElem?
      intro i
      rw [List.getElem?_set]
      by_cases e : i = j
      · subst e
        simp [hj, rowAt_set ls zs hj]
      · by_cases h3 : i < ls.length
        · simp [h3, e, Ne.symm e, rowAt_set ls zs hj]
        · simp [h3, Ne.symm e]
    rw [e1, List.length_set]
    exact hset
  · rw [List.length_set] at hi
    by_cases e : i = j
    · subst e
      simp only [if_true, rowAt_set ls zs hj]
      exact own_kept hz (grownBy_setCell1 W ⟨g, i, none⟩ _) hty
    · simp only [if_neg e, rowAt_set ls zs hj]
      exact own_kept (h2 i hi) (grownBy_setCell1 W ⟨g, j, none⟩ _) hty
/-- What is made: empty rows. -/
theorem Ords.made (w : World) (n : Nat) (h : n ≤ maxLen) : Ords w.heap.size (w.alloc (.cells (madeCells #[.slice none 0 0] n) 38)) (.slice (some ⟨w.heap.size, 0, none⟩) n n) (List.replicate n []) := by
  have h1 := World.ownsRow_lit (e := 38) (size := 1) (base := w.heap.size) w (madeCells #[.slice none 0 0] n) n (Nat.le_refl _) h (by simp [size_madeCells])
  refine ⟨fun _ => none, fun _ => 0, ?_, fun j hj => ?_⟩
  · have e1 : (List.range (List.replicate n ([] : List Int)).length).map (fun j => Value.slice none (rowAt (List.replicate n []) j).length 0) = (madeCells #[.slice none 0 0] n).toList := by
      rw [toList_madeCells_one]
      apply List.ext_getElem?
      intro j
      by_cases h3 : j < n
      · simp [h3, rowAt, List.getElem?_replicate]
      · simp [h3]
    rw [e1, List.length_replicate]
    exact h1
  · rw [List.length_replicate] at hj
    simp only [rowAt, List.getElem?_replicate, if_pos hj, Option.getD_some, List.length_nil]
    exact World.ownsRow_nil _ _ _ _
theorem Ords.left {r : Nat} {v : Value} (h : Ords B W v ls) (hg : W.grownBy W' (some r)) (h1 : ∀ cur, W.heap[r]? ≠ some (.cells cur 38 (0, 0))) (h2 : ∀ cur, W.heap[r]? ≠ some (.cells cur 3 (0, 0))) : Ords B W' v ls := by
  obtain ⟨A, C, k1, k2⟩ := h
  exact ⟨A, C, own_kept k1 hg (fun g e cur => by injection e with e; subst e; exact h1 cur), fun j hj => own_kept (k2 j hj) hg (fun g e cur => by injection e with e; subst e; exact h2 cur)⟩
/-- The frozen mark of a cell. -/
theorem Ords.free {g n c : Nat} (h : Ords B W (.slice (some ⟨g, 0, none⟩) n c) ls) (hn : ls.length = n) (j : Nat) : W.frozen? ⟨g, j, none⟩ = false := by
  subst hn
  obtain ⟨A, C, k1, _⟩ := h
  exact World.ownsRow.frozenAt k1 j
theorem Ords.mono {B' : Nat} {v : Value} (h : Ords B W v ls) (hB : B' ≤ B) : Ords B' W v ls := by
  obtain ⟨A, C, k1, k2⟩ := h
  refine ⟨A, C, ?_, fun j hj => (k2 j hj).mono hB⟩
  refine ⟨k1.1, ?_⟩
  rcases k1.2 with e | ⟨g, c, cur, e1, hb, rest⟩
  · exact .inl e
  · exact .inr ⟨g, c, cur, e1, Nat.le_trans hB hb, rest⟩
end
theorem rowAt_ord {n E e : Nat} {zs : List Int} (h : e < E) : rowAt (ordL n zs E) e = ordE n zs e := by unfold rowAt; rw [ordL_get h]; rfl

/-- A part of a slice that can be read. -/
theorem RdK.cut {q : IntKind} {B c f m : Nat} {W : World} {a : Option Addr} {zs : List Int} (h : RdK q B W a zs) (hc : f + m ≤ zs.length) (hm : f + m ≤ c) :
    RdK q B W (if c = f then a else Option.map (fun x => x.add f) a) ((zs.drop f).take m) := by
  by_cases h0 : m = 0
  · subst h0; rw [List.take_zero]; exact .inl rfl
  · rw [if_neg (by omega)]
    rcases h with h | ⟨b, off, e, hb, hx⟩
    · subst h; simp only [List.length_nil] at hc; omega
    · subst e
      refine .inr ⟨b, off + f, by simp [Addr.add], hb, fun j hj => ?_⟩
      rw [List.length_take, List.length_drop] at hj
      have h1 : el ((zs.drop f).take m) j = el zs (f + j) := by
        unfold el
        rw [List.getElem?_take_of_lt (by omega), List.getElem?_drop]
      rw [h1, Nat.add_assoc]
      exact hx (f + j) (by omega)
theorem RdK.cut_some {q : IntKind} {B f m b off : Nat} {W : World} {zs : List Int} (h : RdK q B W (some ⟨b, off, none⟩) zs) (hc : f + m ≤ zs.length) : RdK q B W (some ⟨b, off + f, none⟩) ((zs.drop f).take m) := by
  by_cases h0 : m = 0
  · subst h0; rw [List.take_zero]; exact .inl rfl
  · have := h.cut (c := f + m) hc (Nat.le_refl _)
    rw [if_neg (by omega), Option.map_some, Addr.add_lit] at this
    exact this
end Go.Proofs.Ytdcpankbolfmiaa
