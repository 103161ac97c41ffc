/- Slices of integers of any kind in memory: what can be read (RdK), what a call has made for itself (BufK), rows made by make, rows that a struct's cells hold (Two). No condition. -/
import Derived.Test.YtdcpankbolfmiaaVa
import Derived.Test.YtdcpankbolfmiaaWf
import Derived.OwnWalk
namespace Go.Proofs.Ytdcpankbolfmiaa
open Go.RowKit

/-- The numbers can be read: there are none, or they lie in a block below B. -/
def RdK (q : IntKind) (B : Nat) (W : World) (a : Option Addr) (zs : List Int) : Prop :=
  zs = [] ∨ ∃ b off, a = some ⟨b, off, none⟩ ∧ b < B ∧ ∀ j, j < zs.length → W.cell? ⟨b, off + j, none⟩ = some (.int q (el zs j))
section
variable {q : IntKind} {B B' n cap k : Nat} {W W' : World} {a : Option Addr} {zs : List Int} {e : TypeId}
theorem RdK.at (h : RdK q B W a zs) (hk : k < zs.length) : ∃ b off, a = some ⟨b, off, none⟩ ∧ b < B ∧ W.cell? ⟨b, off + k, none⟩ = some (.int q (el zs k)) := by
  rcases h with rfl | ⟨b, off, ha, hb, hc⟩
  · simp at hk
  · exact ⟨b, off, ha, hb, hc k hk⟩
theorem RdK.below (h : RdK q B W a zs) (g : Below B W W') : RdK q B W' a zs := by
  rcases h with h | ⟨b, off, ha, hb, hc⟩
  · exact .inl h
  · exact .inr ⟨b, off, ha, hb, fun j hj => (g.cell (p := ⟨b, off + j, none⟩) hb).trans (hc j hj)⟩
theorem RdK.mono (h : RdK q B W a zs) (hB : B ≤ B') : RdK q B' W a zs := by
  rcases h with h | ⟨b, off, ha, hb, hc⟩
  · exact .inl h
  · exact .inr ⟨b, off, ha, Nat.lt_of_lt_of_le hb hB, hc⟩
theorem RdK.grow (h : RdK q W.heap.size W a zs) (g : Grew W W') : RdK q W'.heap.size W' a zs := (RdK.below h g).mono g.size
theorem el_drop (zs : List Int) (k j : Nat) : el (zs.drop k) j = el zs (k + j) := by unfold el; rw [List.getElem?_drop]
/-- The rest of a slice, from k on, as the walk spells its address. -/
theorem RdK.drop {c : Nat} (h : RdK q B W a zs) (hc : zs.length ≤ c) : RdK q B W (if c = k then a else Option.map (fun x => x.add k) a) (zs.drop k) := by
  by_cases e : c = k
  · exact .inl (List.drop_eq_nil_of_le (by omega))
  · rw [if_neg e]
    rcases h with rfl | ⟨b, off, rfl, hb, hz⟩
    · exact .inl List.drop_nil
    · refine .inr ⟨b, off + k, by simp [Addr.add], hb, fun j hj => ?_⟩
      rw [List.length_drop] at hj
      rw [el_drop, Nat.add_assoc]
      exact hz (k + j) (by omega)
theorem RdK.empty : RdK q B W a [] := .inl rfl
theorem RdK.rd (h : RdK .i64 B W a zs) : Rd B W a zs := h

/-- Numbers in a block that a call has made for itself, from block B on; they may be written. -/
def BufK (q : IntKind) (e : TypeId) (B : Nat) (W : World) (a : Option Addr) (n cap : Nat) (zs : List Int) : Prop := W.ownsRow B e 1 (.slice a n cap) n (zs.map (Value.int q))
theorem BufK.len (h : BufK q e B W a n cap zs) : zs.length = n := by have := h.1; simpa using this
theorem BufK.at (h : BufK q e B W a n cap zs) (hk : k < n) : ∃ g, a = some ⟨g, 0, none⟩ ∧ B ≤ g ∧ g < W.heap.size ∧ W.cell? ⟨g, k, none⟩ = some (.int q (el zs k)) ∧ W.frozen? ⟨g, k, none⟩ = false := by
  rcases h.2 with ⟨_, h0⟩ | ⟨g, c, cur, e, hb, hg, _⟩
  · omega
  · injection e with e1 e2 e3
    subst e1 e3
    have hlt : g < W.heap.size := by
      rcases Nat.lt_or_ge g W.heap.size with h' | h'
      · exact h'
      · rw [Array.getElem?_eq_none h'] at hg; cases hg
    refine ⟨g, rfl, hb, hlt, ?_, World.ownsRow.frozenAt h k⟩
    rw [World.ownsRow.cellAt h k (by omega), List.getElem?_map, el_lt (by rw [h.len]; exact hk)]
    rfl
theorem BufK.fits (h : BufK q e B W a n cap zs) : n ≤ cap ∧ cap ≤ maxLen := by
  rcases h.2 with ⟨e, _⟩ | ⟨g, c, cur, e, _, _, hc, hm, _⟩
  · injection e with e1 e2 e3
    subst e2 e3
    exact ⟨Nat.le_refl _, Nat.zero_le _⟩
  · injection e with e1 e2 e3
    subst e3
    exact ⟨hc, hm⟩
theorem BufK.rd (h : BufK q e B W a n cap zs) : RdK q W.heap.size W a zs := by
  by_cases h0 : n = 0
  · exact .inl (List.eq_nil_of_length_eq_zero (h.len.trans h0))
  · obtain ⟨g, ha, _, hg, _⟩ := h.at (k := 0) (by omega)
    refine .inr ⟨g, 0, ha, hg, fun j hj => ?_⟩
    obtain ⟨g', ha', _, _, hc, _⟩ := h.at (k := j) (by rw [← h.len]; exact hj)
    obtain rfl : g = g' := by rw [ha] at ha'; injection ha' with e; injection e
    rw [Nat.zero_add]; exact hc
theorem BufK.set {g : Nat} (h : BufK q e B W (some ⟨g, 0, none⟩) n cap zs) (k : Nat) (v : Int) : BufK q e B (W.setCell ⟨g, k, none⟩ (.int q v)) (some ⟨g, 0, none⟩) n cap (zs.set k v) := by
  have := (World.ownsRow.stored h k (.int q v)).1
  unfold BufK
  rw [List.map_set]
  exact this
theorem BufK.kept (h : BufK q e B W a n cap zs) (k : Below W.heap.size W W') : BufK q e B W' a n cap zs := by
  refine ⟨h.1, ?_⟩
  rcases h.2 with e | ⟨g, c, cur, e, hb, hg, rest⟩
  · exact .inl e
  · refine .inr ⟨g, c, cur, e, hb, ?_, rest⟩
    have hlt : g < W.heap.size := by
      rcases Nat.lt_or_ge g W.heap.size with h' | h'
      · exact h'
      · rw [Array.getElem?_eq_none h'] at hg; cases hg
    rw [Below.block k g hlt]; exact hg
theorem BufK.grow (h : BufK q e B W a n cap zs) (k : Grew W W') : BufK q e B W' a n cap zs := h.kept k
theorem BufK.mono (h : BufK q e B W a n cap zs) (hB : B' ≤ B) : BufK q e B' W a n cap zs := by
  refine ⟨h.1, ?_⟩
  rcases h.2 with e | ⟨g, c, cur, e1, hb, rest⟩
  · exact .inl e
  · exact .inr ⟨g, c, cur, e1, Nat.le_trans hB hb, rest⟩
theorem own_ints {v : Value} (h : W.ownsRow B e 1 v n (zs.map (Value.int q))) : ∃ a cap, v = .slice a n cap ∧ BufK q e B W a n cap zs := by
  rcases h.2 with ⟨rfl, rfl⟩ | ⟨g, cap, cur, rfl, _⟩
  · exact ⟨none, 0, rfl, h⟩
  · exact ⟨_, _, rfl, h⟩
end
theorem BufK.made (q : IntKind) (e : TypeId) (w : World) (n : Nat) (h : n ≤ maxLen) : BufK q e w.heap.size (w.alloc (.cells (madeCells #[.int q 0] n) e)) (some ⟨w.heap.size, 0, none⟩) n n (List.replicate n 0) := by
  have h1 := World.ownsRow_lit (e := e) (size := 1) (base := w.heap.size) w (madeCells #[.int q 0] n) n (Nat.le_refl _) h (by simp [size_madeCells])
  unfold BufK
  rw [toList_madeCells_one] at h1
  simpa using h1

/-- A slice of integers that came in: it can be read; its numbers are within their kind's bounds. -/
def CameK (q : IntKind) (w : World) (a : Option Addr) (len cap : Nat) (zs : List Int) : Prop :=
  zs.length = len ∧ len ≤ cap ∧ cap * 8 ≤ 140737488351232 ∧ RdK q w.heap.size w a zs ∧ (a = none → cap = 0) ∧ ∀ j, j < zs.length → (Lit.int q (el zs j)).wf = true
theorem cameK_none (q : IntKind) (w : World) : CameK q w none 0 0 [] := ⟨rfl, Nat.le_refl _, Nat.zero_le _, .inl rfl, fun _ => rfl, fun j hj => by simp at hj⟩
theorem cameK_some {q : IntKind} {w : World} {a : Addr} {len cap : Nat} {zs : List Int} (hl : len ≤ cap) (hr : cap * 8 ≤ 140737488351232) (hz : zs.length = cap)
    (hc : ∀ i, i < zs.length → w.cell? (a.add i) = some (.int q (zs.getD i 0))) (hw : ∀ n ∈ zs, (Lit.int q n).wf = true) : CameK q w (some a) len cap (zs.take len) := by
  have hlen : (zs.take len).length = len := by rw [List.length_take]; omega
  have hel : ∀ j, j < len → el (zs.take len) j = zs.getD j 0 := fun j hj => by unfold el; rw [List.getElem?_take_of_lt hj, List.getD_eq_getElem?_getD]
  refine ⟨hlen, hl, hr, ?_, (fun h => nomatch h), fun j hj => ?_⟩
  · by_cases h0 : len = 0
    · exact .inl (List.eq_nil_of_length_eq_zero (hlen.trans h0))
    · obtain ⟨b, off, spot⟩ := a
      have h1 := hc 0 (by omega)
      have hspot : spot = none := by simpa [Addr.add] using World.cell?_spot h1
      subst hspot
      rw [Addr.add_lit] at h1
      refine .inr ⟨b, off, rfl, block_in h1, fun j hj => ?_⟩
      rw [hlen] at hj
      have h2 := hc j (by omega)
      rw [Addr.add_lit] at h2
      rw [h2, hel j hj]
  · rw [hlen] at hj
    rw [hel j hj]
    refine hw _ ?_
    rw [List.getD_eq_getElem?_getD, List.getElem?_eq_getElem (by omega)]
    exact List.getElem_mem _

/-- The cell of a block of one cell that has just been made. -/
theorem cell_one_at (W : World) (v : Value) (t : TypeId) : ∀ (j : Nat) (u : Value), [v][j]? = some u → (W.alloc (.cells #[v] t)).cell? (Addr.add ⟨W.heap.size, 0, none⟩ j) = some u := by
  intro j u hj
  match j, hj with
  | 0, hj =>
    simp at hj
    subst hj
    simp [Addr.add]
  | j + 1, hj => simp at hj

/-- Block b holds a struct of two cells. -/
def Two (W : World) (b : Nat) (t : TypeId) (x y : Value) : Prop := W.heap[b]? = some (.cells #[x, y] t (0, 0))
section
variable {W W' : World} {b : Nat} {t : TypeId} {x y : Value}
theorem Two.lt (h : Two W b t x y) : b < W.heap.size := (Array.getElem?_eq_some_iff.1 h).1
theorem Two.c0 (h : Two W b t x y) : W.cell? ⟨b, 0, none⟩ = some x := by simp [World.cell?, show W.heap[b]? = _ from h]
theorem Two.c1 (h : Two W b t x y) : W.cell? ⟨b, 1, none⟩ = some y := by simp [World.cell?, show W.heap[b]? = _ from h]
theorem Two.f0 (h : Two W b t x y) : W.frozen? ⟨b, 0, none⟩ = false := by simp [World.frozen?, show W.heap[b]? = _ from h]
theorem Two.f1 (h : Two W b t x y) : W.frozen? ⟨b, 1, none⟩ = false := by simp [World.frozen?, show W.heap[b]? = _ from h]
theorem Two.set1 (h : Two W b t x y) (v : Value) : Two (W.setCell ⟨b, 1, none⟩ v) b t x v := by
  have := heap_setCell_same W b 1 #[x, y] t v h
  unfold Two
  rw [this]; rfl
theorem Two.set0 (h : Two W b t x y) (v : Value) : Two (W.setCell ⟨b, 0, none⟩ v) b t v y := by
  have := heap_setCell_same W b 0 #[x, y] t v h
  unfold Two
  rw [this]; rfl
theorem Two.other (h : Two W b t x y) (p : Addr) (v : Value) (hne : b ≠ p.block) : Two (W.setCell p v) b t x y := (heap_setCell_other W p b v hne).trans h
theorem Two.alloc (h : Two W b t x y) (o : Obj) : Two (W.alloc o) b t x y := (Below.heap_alloc W o b h.lt).trans h
theorem Two.grow (h : Two W b t x y) (g : Grew W W') : Two W' b t x y := (Below.block g b h.lt).trans h
theorem Two.grown {r : Option Nat} (h : Two W b t x y) (g : W.grownBy W' r) (hne : some b ≠ r) : Two W' b t x y := (g.block b h.lt hne).trans h
theorem Two.new (W : World) (t : TypeId) (x y : Value) : Two (W.alloc (.cells #[x, y] t)) W.heap.size t x y := (MapKept.heap_alloc W _).1
end
theorem grownBy_drewN {a b : World} {r : Option Nat} (h : a.grownBy b r) (n : Nat) : a.grownBy (b.drewN n) r := ⟨h.os, h.tape, h.output, h.size, h.block⟩
theorem grownBy_trans {a b c : World} {r : Option Nat} (h : a.grownBy b r) (k : b.grownBy c r) : a.grownBy c r :=
  ⟨k.os.trans h.os, k.tape.trans h.tape, k.output.trans h.output, Nat.le_trans h.size k.size, fun j hj hr => (k.block j (Nat.lt_of_lt_of_le hj h.size) hr).trans (h.block j hj hr)⟩
theorem grownBy_below {a b : World} {r B : Nat} (h : a.grownBy b (some r)) (hB : B ≤ r) (hs : B ≤ a.heap.size) : Below B a b :=
  ⟨h.os, h.tape, h.output, h.size, fun k hk => h.block k (Nat.lt_of_lt_of_le hk hs) (fun e => by injection e with e; omega)⟩
theorem grownBy_setCell1 (W : World) (p : Addr) (v : Value) : W.grownBy (W.setCell p v) (some p.block) :=
  ⟨rfl, rfl, rfl, by simp, fun k _ hk => heap_setCell_other W p k v (fun e => hk (by rw [e]))⟩
theorem Grew.by' {a b : World} (h : Grew a b) (r : Option Nat) : a.grownBy b r := ⟨h.os, h.tape, h.output, h.size, fun j hj _ => Below.block h j hj⟩
end Go.Proofs.Ytdcpankbolfmiaa
