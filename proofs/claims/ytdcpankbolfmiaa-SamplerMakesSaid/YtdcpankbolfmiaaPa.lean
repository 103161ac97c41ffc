/- Ranges in memory: what can be read (RdR), what a call has made for itself (BufR). No condition. -/
import Derived.Test.YtdcpankbolfmiaaGw
import Derived.Laws.CopyOwn
import Derived.Laws.OwnMore
import Derived.Deep.OwnRows
namespace Go.Proofs.Ytdcpankbolfmiaa
open Go.RowKit

/-- A range: the first index, and the one behind the last. -/
abbrev Rg := Int × Int
/-- The range at an index. -/
def rg (rs : List Rg) (k : Nat) : Rg := rs[k]?.getD (0, 0)
theorem rg_lt {rs : List Rg} {k : Nat} (h : k < rs.length) : rs[k]? = some (rg rs k) := by unfold rg; rw [List.getElem?_eq_getElem h]; rfl
theorem rg_set_same {rs : List Rg} {k : Nat} (v : Rg) (h : k < rs.length) : rg (rs.set k v) k = v := by unfold rg; rw [List.getElem?_set_self h]; rfl
theorem rg_set_other {rs : List Rg} {k j : Nat} (v : Rg) (h : k ≠ j) : rg (rs.set k v) j = rg rs j := by unfold rg; rw [List.getElem?_set_ne h]
theorem rg_ext {xs ys : List Rg} (hl : xs.length = ys.length) (h : ∀ j, j < xs.length → rg xs j = rg ys j) : xs = ys := by
  apply List.ext_getElem? 
  intro j
  by_cases hj : j < xs.length
  · rw [rg_lt hj, rg_lt (hl ▸ hj), h j hj]
  · rw [List.getElem?_eq_none (by omega), List.getElem?_eq_none (by omega)]
/-- Ranges as cells. -/
def rcells : List Rg → List Value
  | [] => []
  | r :: rs => .int .i64 r.1 :: .int .i64 r.2 :: rcells rs
theorem rcells_append (xs ys : List Rg) : rcells (xs ++ ys) = rcells xs ++ rcells ys := by
  induction xs with
  | nil => rfl
  | cons r rs ih => simp [rcells, ih]
theorem rcells_length (rs : List Rg) : (rcells rs).length = rs.length * 2 := by
  induction rs with
  | nil => rfl
  | cons r rs ih => simp only [rcells, List.length_cons, ih]; omega
theorem rcells_lo {rs : List Rg} {k : Nat} (h : k < rs.length) : (rcells rs)[k * 2]? = some (.int .i64 (rg rs k).1) := by
  induction rs generalizing k with
  | nil => simp at h
  | cons r rs ih =>
    cases k with
    | zero => rfl
    | succ k =>
      rw [show (k + 1) * 2 = k * 2 + 1 + 1 from by omega]
      simp only [rcells, List.getElem?_cons_succ]
      rw [ih (by simpa using h)]
      rfl
theorem rcells_hi {rs : List Rg} {k : Nat} (h : k < rs.length) : (rcells rs)[k * 2 + 1]? = some (.int .i64 (rg rs k).2) := by
  induction rs generalizing k with
  | nil => simp at h
  | cons r rs ih =>
    cases k with
    | zero => rfl
    | succ k =>
      rw [show (k + 1) * 2 + 1 = k * 2 + 1 + 1 + 1 from by omega]
      simp only [rcells, List.getElem?_cons_succ]
      rw [ih (by simpa using h)]
      rfl
theorem rcells_set (rs : List Rg) (k : Nat) (v : Rg) : rcells (rs.set k v) = ((rcells rs).set (k * 2) (.int .i64 v.1)).set (k * 2 + 1) (.int .i64 v.2) := by
  induction rs generalizing k with
  | nil => rfl
  | cons r rs ih =>
    cases k with
    | zero => rfl
    | succ k =>
      rw [show (k + 1) * 2 + 1 = k * 2 + 1 + 1 + 1 from by omega, show (k + 1) * 2 = k * 2 + 1 + 1 from by omega]
      simp only [rcells, List.set_cons_succ, ih]

/-- The ranges can be read: there are none, or they lie in a block below B. -/
def RdR (B : Nat) (W : World) (a : Option Addr) (rs : List Rg) : Prop :=
  rs = [] ∨ ∃ b off, a = some ⟨b, off, none⟩ ∧ b < B ∧ ∀ j, j < rs.length → W.cell? ⟨b, off + j * 2, none⟩ = some (.int .i64 (rg rs j).1) ∧ W.cell? ⟨b, off + j * 2 + 1, none⟩ = some (.int .i64 (rg rs j).2)
section
variable {B B' n cap k : Nat} {W W' : World} {a : Option Addr} {e : TypeId} {rs : List Rg}
theorem RdR.at (h : RdR B W a rs) (hk : k < rs.length) : ∃ b off, a = some ⟨b, off, none⟩ ∧ b < B ∧ W.cell? ⟨b, off + k * 2, none⟩ = some (.int .i64 (rg rs k).1) ∧ W.cell? ⟨b, off + k * 2 + 1, none⟩ = some (.int .i64 (rg rs k).2) := by
  rcases h with rfl | ⟨b, off, ha, hb, hc⟩
  · simp at hk
  · exact ⟨b, off, ha, hb, hc k hk⟩
theorem RdR.below (h : RdR B W a rs) (g : Below B W W') : RdR B W' a rs := by
  rcases h with h | ⟨b, off, ha, hb, hc⟩
  · exact .inl h
  · exact .inr ⟨b, off, ha, hb, fun j hj => ⟨(g.cell (p := ⟨b, off + j * 2, none⟩) hb).trans (hc j hj).1, (g.cell (p := ⟨b, off + j * 2 + 1, none⟩) hb).trans (hc j hj).2⟩⟩
theorem RdR.mono (h : RdR B W a rs) (hB : B ≤ B') : RdR B' W a rs := by
  rcases h with h | ⟨b, off, ha, hb, hc⟩
  · exact .inl h
  · exact .inr ⟨b, off, ha, Nat.lt_of_lt_of_le hb hB, hc⟩
theorem RdR.grow (h : RdR W.heap.size W a rs) (g : Grew W W') : RdR W'.heap.size W' a rs := (RdR.below h g).mono g.size
theorem RdR.empty : RdR B W a [] := .inl rfl

/-- Ranges in a block that a call has made for itself, from block B on; they may be written. -/
def BufR (e : TypeId) (B : Nat) (W : World) (a : Option Addr) (n cap : Nat) (rs : List Rg) : Prop := W.ownsRow B e 2 (.slice a n cap) n (rcells rs)
theorem BufR.len (h : BufR e B W a n cap rs) : rs.length = n := by have := h.1; rw [rcells_length] at this; omega
theorem BufR.block (h : BufR e B W a n cap rs) (hn : 0 < n) : ∃ g, a = some ⟨g, 0, none⟩ ∧ B ≤ g ∧ g < W.heap.size := by
  rcases h.2 with ⟨_, h0⟩ | ⟨g, c, cur, e, hb, hg, _⟩
  · omega
  · injection e with e1 e2 e3
    subst e1 e3
    have hlt : g < W.heap.size := by
      rcases Nat.lt_or_ge g W.heap.size with h' | h'
      · exact h'
      · rw [Array.getElem?_eq_none h'] at hg; cases hg
    exact ⟨g, rfl, hb, hlt⟩
theorem BufR.at {g : Nat} (h : BufR e B W (some ⟨g, 0, none⟩) n cap rs) (hk : k < n) : W.cell? ⟨g, k * 2, none⟩ = some (.int .i64 (rg rs k).1) ∧ W.cell? ⟨g, k * 2 + 1, none⟩ = some (.int .i64 (rg rs k).2) ∧ W.frozen? ⟨g, k * 2, none⟩ = false ∧ W.frozen? ⟨g, k * 2 + 1, none⟩ = false := by
  have hl := BufR.len h
  refine ⟨?_, ?_, World.ownsRow.frozenAt h _, World.ownsRow.frozenAt h _⟩
  · rw [World.ownsRow.cellAt h _ (by omega), rcells_lo (by omega)]
  · rw [World.ownsRow.cellAt h _ (by omega), rcells_hi (by omega)]
theorem BufR.rd (h : BufR e B W a n cap rs) : RdR W.heap.size W a rs := by
  by_cases h0 : n = 0
  · exact .inl (List.eq_nil_of_length_eq_zero (h.len.trans h0))
  · obtain ⟨g, rfl, _, hg⟩ := h.block (by omega)
    refine .inr ⟨g, 0, rfl, hg, fun j hj => ?_⟩
    have := h.at (k := j) (by rw [← h.len]; exact hj)
    rw [Nat.zero_add]
    exact ⟨this.1, this.2.1⟩
theorem BufR.set {g : Nat} (h : BufR e B W (some ⟨g, 0, none⟩) n cap rs) (k : Nat) (v : Rg) : BufR e B ((W.setCell ⟨g, k * 2, none⟩ (.int .i64 v.1)).setCell ⟨g, k * 2 + 1, none⟩ (.int .i64 v.2)) (some ⟨g, 0, none⟩) n cap (rs.set k v) := by
  have h1 := (World.ownsRow.stored h (k * 2) (.int .i64 v.1)).1
  have h2 := (World.ownsRow.stored h1 (k * 2 + 1) (.int .i64 v.2)).1
  unfold BufR
  rw [rcells_set]
  exact h2
theorem BufR.kept (h : BufR e B W a n cap rs) (k : Below W.heap.size W W') : BufR e B W' a n cap rs := by
  refine ⟨h.1, ?_⟩
  rcases h.2 with e | ⟨g, c, cur, e, hb, hg, rest⟩
  · exact .inl e
  · refine .inr ⟨g, c, cur, e, hb, ?_, rest⟩
    have hlt : g < W.heap.size := by
      rcases Nat.lt_or_ge g W.heap.size with h' | h'
      · exact h'
      · rw [Array.getElem?_eq_none h'] at hg; cases hg
    rw [Below.block k g hlt]; exact hg
theorem BufR.grow (h : BufR e B W a n cap rs) (k : Grew W W') : BufR e B W' a n cap rs := h.kept k
theorem BufR.mono (h : BufR e B W a n cap rs) (hB : B' ≤ B) : BufR e B' W a n cap rs := by
  refine ⟨h.1, ?_⟩
  rcases h.2 with e | ⟨g, c, cur, e, hb, rest⟩
  · exact .inl e
  · exact .inr ⟨g, c, cur, e, Nat.le_trans hB hb, rest⟩
theorem BufR.nil : BufR e B W none 0 0 [] := World.ownsRow_nil W B e 2
end

/-- The first range that has an index, from the k-th on. -/
def ofV (i : Int) (rs : List Rg) : Int := match rs.findIdx? (fun r => decide (r.1 ≤ i) && decide (i < r.2)) with
  | some k => k
  | none => -1
/-- .. in rounds: none among the first k has it. -/
def noneV (i : Int) (rs : List Rg) (k : Nat) : Prop := ∀ j, j < k → ¬ ((rg rs j).1 ≤ i ∧ i < (rg rs j).2)
theorem noneV.step {i : Int} {rs : List Rg} {k : Nat} (h : noneV i rs k) (h1 : ¬ ((rg rs k).1 ≤ i ∧ i < (rg rs k).2)) : noneV i rs (k + 1) := by
  intro j hj
  by_cases e : j = k
  · rw [e]; exact h1
  · exact h j (by omega)
theorem ofV_here {i : Int} {rs : List Rg} {k : Nat} (hk : k < rs.length) (h : noneV i rs k) (h1 : (rg rs k).1 ≤ i) (h2 : i < (rg rs k).2) : ofV i rs = k := by
  have : rs.findIdx? (fun r => decide (r.1 ≤ i) && decide (i < r.2)) = some k := by
    rw [List.findIdx?_eq_some_iff_getElem]
    refine ⟨hk, ?_, fun j hj => ?_⟩
    · have := rg_lt hk
      rw [List.getElem?_eq_getElem hk] at this
      injection this with this
      rw [this]; simp [h1, h2]
    · have hj' : j < rs.length := by omega
      have := rg_lt hj'
      rw [List.getElem?_eq_getElem hj'] at this
      injection this with this
      rw [this]
      have := h j hj
      simpa using this
  unfold ofV; rw [this]
theorem ofV_none {i : Int} {rs : List Rg} (h : noneV i rs rs.length) : ofV i rs = -1 := by
  have : rs.findIdx? (fun r => decide (r.1 ≤ i) && decide (i < r.2)) = none := by
    rw [List.findIdx?_eq_none_iff]
    intro r hr
    obtain ⟨j, hj, rfl⟩ := List.getElem_of_mem hr
    have := rg_lt hj
    rw [List.getElem?_eq_getElem hj] at this
    injection this with this
    rw [this]
    have := h j hj
    simpa using this
  unfold ofV; rw [this]

/-- Where the first k ranges end. -/
def endV (rs : List Rg) : Nat → Int
  | 0 => 0
  | k + 1 => (rg rs k).2
/-- Whether the range at k begins there and does not end in front of it. -/
def stepB (rs : List Rg) (k : Nat) : Bool := decide ((rg rs k).1 = endV rs k) && decide (endV rs k ≤ (rg rs k).2)
def chainB (rs : List Rg) : Nat → Bool
  | 0 => true
  | k + 1 => chainB rs k && stepB rs k
/-- Whether ranges follow each other from 0 to n. -/
def coversV (n : Int) (rs : List Rg) : Bool := chainB rs rs.length && decide (endV rs rs.length = n)
theorem chainB_later {rs : List Rg} {m k : Nat} (h : chainB rs m = false) (hk : m ≤ k) : chainB rs k = false := by
  induction k with
  | zero => rw [show m = 0 from by omega] at h; exact h
  | succ k ih =>
    by_cases e : m = k + 1
    · rw [← e]; exact h
    · simp only [chainB]; rw [ih (by omega)]; rfl
theorem coversV_no {n : Int} {rs : List Rg} {k : Nat} (hk : k < rs.length) (h : stepB rs k = false) : coversV n rs = false := by
  unfold coversV
  rw [chainB_later (m := k + 1) (by simp only [chainB]; rw [h]; simp) (by omega)]
  rfl
theorem chainB_all {rs : List Rg} {k : Nat} (h : ∀ j, j < k → stepB rs j = true) : chainB rs k = true := by
  induction k with
  | zero => rfl
  | succ k ih => simp only [chainB]; rw [ih (fun j hj => h j (by omega)), h k (by omega)]; rfl
end Go.Proofs.Ytdcpankbolfmiaa
