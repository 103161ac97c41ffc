/- Examples in memory: what can be read (RdE), what a call has made for itself (OwnE: its lists too; LotE: the lists lie elsewhere). No condition. -/
import Derived.Test.YthcahpgandappaaEa
import Derived.Test.YthcahpgandappaaNa
import Derived.Test.YthcahpgandappaaTx
namespace Go.Proofs.Ythcahpgandappaa
open Go.RowKit

/-- The example at an index; its two lengths. -/
def ex (es : List Ex) (k : Nat) : Ex := es[k]?.getD ([], [])
def lx (es : List Ex) (k : Nat) : Nat := (ex es k).1.length
def ly (es : List Ex) (k : Nat) : Nat := (ex es k).2.length
theorem ex_lt {es : List Ex} {k : Nat} (h : k < es.length) : es[k]? = some (ex es k) := by unfold ex; rw [List.getElem?_eq_getElem h]; rfl
theorem ex_mem {es : List Ex} {k : Nat} (h : k < es.length) : ex es k ∈ es := List.mem_of_getElem? (ex_lt h)
theorem ex_ext {xs ys : List Ex} (hl : xs.length = ys.length) (h : ∀ j, j < xs.length → ex xs j = ex ys j) : xs = ys := by
  apply List.ext_getElem?
  intro j
  by_cases hj : j < xs.length
  · rw [ex_lt hj, ex_lt (hl ▸ hj), h j hj]
  · rw [List.getElem?_eq_none (by omega), List.getElem?_eq_none (by omega)]

/-- Where an example's lists lie: address and capacity, of both. -/
structure Pl where
  xa : Option Addr
  xc : Nat
  ya : Option Addr
  yc : Nat
def Pl.x (p : Pl) (e : Ex) : Value := .slice p.xa e.1.length p.xc
def Pl.y (p : Pl) (e : Ex) : Value := .slice p.ya e.2.length p.yc

/-- The examples can be read: there are none, or they lie in a block below B, their lists too. -/
def RdE (B : Nat) (W : World) (a : Option Addr) (es : List Ex) : Prop :=
  es = [] ∨ ∃ b off, a = some ⟨b, off, none⟩ ∧ b < B ∧ ∀ j, j < es.length → ∃ xa xc ya yc,
    W.cell? ⟨b, off + j * 2, none⟩ = some (.slice xa (lx es j) xc) ∧ W.cell? ⟨b, off + j * 2 + 1, none⟩ = some (.slice ya (ly es j) yc) ∧
    RdK .i64 B W xa (ex es j).1 ∧ RdK .i64 B W ya (ex es j).2 ∧ (xa = none → xc = 0) ∧ (ya = none → yc = 0)
section
variable {B B' n cap k : Nat} {W W' : World} {a : Option Addr} {es : List Ex}
theorem RdE.at (h : RdE B W a es) (hk : k < es.length) : ∃ b off xa xc ya yc, a = some ⟨b, off, none⟩ ∧ b < B ∧
    W.cell? ⟨b, off + k * 2, none⟩ = some (.slice xa (lx es k) xc) ∧ W.cell? ⟨b, off + k * 2 + 1, none⟩ = some (.slice ya (ly es k) yc) ∧
    RdK .i64 B W xa (ex es k).1 ∧ RdK .i64 B W ya (ex es k).2 ∧ (xa = none → xc = 0) ∧ (ya = none → yc = 0) := by
  rcases h with rfl | ⟨b, off, ha, hb, hc⟩
  · simp at hk
  · obtain ⟨xa, xc, ya, yc, h⟩ := hc k hk
    exact ⟨b, off, xa, xc, ya, yc, ha, hb, h⟩
theorem RdE.below (h : RdE B W a es) (g : Below B W W') : RdE B W' a es := by
  rcases h with h | ⟨b, off, ha, hb, hc⟩
  · exact .inl h
  · refine .inr ⟨b, off, ha, hb, fun j hj => ?_⟩
    obtain ⟨xa, xc, ya, yc, h1, h2, h3, h4, h5⟩ := hc j hj
    exact ⟨xa, xc, ya, yc, (g.cell (p := ⟨b, off + j * 2, none⟩) hb).trans h1, (g.cell (p := ⟨b, off + j * 2 + 1, none⟩) hb).trans h2, h3.below g, h4.below g, h5⟩
theorem RdE.mono (h : RdE B W a es) (hB : B ≤ B') : RdE B' W a es := by
  rcases h with h | ⟨b, off, ha, hb, hc⟩
  · exact .inl h
  · refine .inr ⟨b, off, ha, Nat.lt_of_lt_of_le hb hB, fun j hj => ?_⟩
    obtain ⟨xa, xc, ya, yc, h1, h2, h3, h4, h5⟩ := hc j hj
    exact ⟨xa, xc, ya, yc, h1, h2, h3.mono hB, h4.mono hB, h5⟩
theorem RdE.grow (h : RdE W.heap.size W a es) (g : Grew W W') : RdE W'.heap.size W' a es := (RdE.below h g).mono g.size
theorem RdE.empty : RdE B W a [] := .inl rfl
end

/-- The cells of examples whose lists lie at places. -/
def ecells : List (Pl × Ex) → List Value
  | [] => []
  | r :: rs => r.1.x r.2 :: r.1.y r.2 :: ecells rs
theorem ecells_append (xs ys : List (Pl × Ex)) : ecells (xs ++ ys) = ecells xs ++ ecells ys := by
  induction xs with
  | nil => rfl
  | cons r rs ih => simp [ecells, ih]
theorem ecells_length (rs : List (Pl × Ex)) : (ecells rs).length = rs.length * 2 := by
  induction rs with
  | nil => rfl
  | cons r rs ih => simp only [ecells, List.length_cons, ih]; omega
theorem ecells_x {rs : List (Pl × Ex)} {k : Nat} {r : Pl × Ex} (h : rs[k]? = some r) : (ecells rs)[k * 2]? = some (r.1.x r.2) := by
  induction rs generalizing k with
  | nil => simp at h
  | cons q rs ih =>
    cases k with
    | zero => simp at h; subst h; rfl
    | succ k =>
      rw [show (k + 1) * 2 = k * 2 + 1 + 1 from by omega]
      simp only [ecells, List.getElem?_cons_succ]
      exact ih (by simpa using h)
theorem ecells_y {rs : List (Pl × Ex)} {k : Nat} {r : Pl × Ex} (h : rs[k]? = some r) : (ecells rs)[k * 2 + 1]? = some (r.1.y r.2) := by
  induction rs generalizing k with
  | nil => simp at h
  | cons q rs ih =>
    cases k with
    | zero => simp at h; subst h; rfl
    | succ k =>
      rw [show (k + 1) * 2 + 1 = k * 2 + 1 + 1 + 1 from by omega]
      simp only [ecells, List.getElem?_cons_succ]
      exact ih (by simpa using h)
theorem ecells_set (rs : List (Pl × Ex)) (k : Nat) (r : Pl × Ex) : ecells (rs.set k r) = ((ecells rs).set (k * 2) (r.1.x r.2)).set (k * 2 + 1) (r.1.y r.2) := by
  induction rs generalizing k with
  | nil => rfl
  | cons q rs ih =>
    cases k with
    | zero => rfl
    | succ k =>
      rw [show (k + 1) * 2 + 1 = k * 2 + 1 + 1 + 1 from by omega, show (k + 1) * 2 = k * 2 + 1 + 1 from by omega]
      simp only [ecells, List.set_cons_succ, ih]

/-- Examples in a block that a call has made, at places; each list by itself (I: what is known of a list at an address). -/
def LotE (D : Nat) (W : World) (v : Value) (rs : List (Pl × Ex)) : Prop := W.ownsRow D 61 2 v rs.length (ecells rs)
/-- The lists of examples, made by a call too, from block D on. -/
def OwnL (D : Nat) (W : World) (rs : List (Pl × Ex)) : Prop := ∀ (j : Nat) (r : Pl × Ex), rs[j]? = some r → BufK .i64 2 D W r.1.xa r.2.1.length r.1.xc r.2.1 ∧ BufK .i64 2 D W r.1.ya r.2.2.length r.1.yc r.2.2
/-- The lists of examples, where they can be read. -/
def RdL (B : Nat) (W : World) (rs : List (Pl × Ex)) : Prop := ∀ (j : Nat) (r : Pl × Ex), rs[j]? = some r → RdK .i64 B W r.1.xa r.2.1 ∧ RdK .i64 B W r.1.ya r.2.2 ∧ (r.1.xa = none → r.1.xc = 0) ∧ (r.1.ya = none → r.1.yc = 0)
theorem bufK_none {q : IntKind} {e : TypeId} {B n cap : Nat} {W : World} {zs : List Int} (h : BufK q e B W none n cap zs) : cap = 0 := by
  rcases h.2 with ⟨e, _⟩ | ⟨g, c, cur, e, _⟩
  · injection e
  · cases e
section
variable {D D' B : Nat} {W W' : World} {v : Value} {rs : List (Pl × Ex)}
theorem OwnL.rd (h : OwnL D W rs) : RdL W.heap.size W rs := fun j r hj => by
  obtain ⟨h1, h2⟩ := h j r hj
  exact ⟨h1.rd, h2.rd, fun e => by rw [e] at h1; exact bufK_none h1, fun e => by rw [e] at h2; exact bufK_none h2⟩
theorem OwnL.grow (h : OwnL D W rs) (g : Grew W W') : OwnL D W' rs := fun j r hj => ⟨(h j r hj).1.grow g, (h j r hj).2.grow g⟩
theorem RdL.below (h : RdL B W rs) (g : Below B W W') : RdL B W' rs := fun j r hj => ⟨(h j r hj).1.below g, (h j r hj).2.1.below g, (h j r hj).2.2⟩
theorem RdL.mono {B' : Nat} (h : RdL B W rs) (g : B ≤ B') : RdL B' W rs := fun j r hj => ⟨(h j r hj).1.mono g, (h j r hj).2.1.mono g, (h j r hj).2.2⟩
theorem OwnL.snoc (h : OwnL D W rs) {r : Pl × Ex} (h1 : BufK .i64 2 D W r.1.xa r.2.1.length r.1.xc r.2.1) (h2 : BufK .i64 2 D W r.1.ya r.2.2.length r.1.yc r.2.2) : OwnL D W (rs ++ [r]) := fun j s hj => by
  rcases Nat.lt_or_ge j rs.length with hl | hl
  · rw [List.getElem?_append_left hl] at hj
    exact h j s hj
  · rw [List.getElem?_append_right hl] at hj
    have e0 : j - rs.length = 0 := by
      rcases Nat.eq_zero_or_pos (j - rs.length) with h0 | h0
      · exact h0
      · rw [List.getElem?_eq_none (by simp; omega)] at hj; cases hj
    rw [e0] at hj
    obtain rfl := Option.some.inj hj
    exact ⟨h1, h2⟩
theorem RdL.snoc (h : RdL B W rs) {r : Pl × Ex} (h1 : RdK .i64 B W r.1.xa r.2.1) (h2 : RdK .i64 B W r.1.ya r.2.2) (h3 : r.1.xa = none → r.1.xc = 0) (h4 : r.1.ya = none → r.1.yc = 0) : RdL B W (rs ++ [r]) := fun j s hj => by
  rcases Nat.lt_or_ge j rs.length with hl | hl
  · rw [List.getElem?_append_left hl] at hj
    exact h j s hj
  · rw [List.getElem?_append_right hl] at hj
    have e0 : j - rs.length = 0 := by
      rcases Nat.eq_zero_or_pos (j - rs.length) with h0 | h0
      · exact h0
      · rw [List.getElem?_eq_none (by simp; omega)] at hj; cases hj
    rw [e0] at hj
    obtain rfl := Option.some.inj hj
    exact ⟨h1, h2, h3, h4⟩
/-- What is known of an own row at an index. -/
theorem LotE.at {k : Nat} {r : Pl × Ex} (h : LotE D W v rs) (hr : rs[k]? = some r) : ∃ g cap, v = .slice (some ⟨g, 0, none⟩) rs.length cap ∧ D ≤ g ∧ g < W.heap.size ∧ rs.length ≤ cap ∧
    W.cell? ⟨g, k * 2, none⟩ = some (.slice r.1.xa r.2.1.length r.1.xc) ∧ W.cell? ⟨g, k * 2 + 1, none⟩ = some (.slice r.1.ya r.2.2.length r.1.yc) ∧ W.frozen? ⟨g, k * 2, none⟩ = false ∧ W.frozen? ⟨g, k * 2 + 1, none⟩ = false := by
  have hk : k < rs.length := (List.getElem?_eq_some_iff.1 hr).1
  rcases h.2 with ⟨_, h0⟩ | ⟨g, c, cur, rfl, hb, hg, hcl, _⟩
  · omega
  · have hlt : g < W.heap.size := (Array.getElem?_eq_some_iff.1 hg).1
    refine ⟨g, c, rfl, hb, hlt, hcl, ?_, ?_, World.ownsRow.frozenAt h _, World.ownsRow.frozenAt h _⟩
    · rw [World.ownsRow.cellAt h _ (by omega), ecells_x hr]; rfl
    · rw [World.ownsRow.cellAt h _ (by omega), ecells_y hr]; rfl
theorem LotE.form (h : LotE D W v rs) : ∃ a cap, v = .slice a rs.length cap ∧ rs.length ≤ cap ∧ cap ≤ maxLen := by
  rcases h.2 with ⟨e, h0⟩ | ⟨g, c, cur, e, hb, hg, hcl, hm, _⟩
  · exact ⟨none, 0, by rw [e, h0], by omega, Nat.zero_le _⟩
  · exact ⟨_, c, e, hcl, hm⟩
theorem LotE.kept (h : LotE D W v rs) (k : Below W.heap.size W W') : LotE D W' v rs := by
  refine ⟨h.1, ?_⟩
  rcases h.2 with e | ⟨g, c, cur, e, hb, hg, rest⟩
  · exact .inl e
  · exact .inr ⟨g, c, cur, e, hb, (Below.block k g (Array.getElem?_eq_some_iff.1 hg).1).trans hg, rest⟩
theorem LotE.grow (h : LotE D W v rs) (k : Grew W W') : LotE D W' v rs := h.kept k
theorem LotE.mono (h : LotE D W v rs) (hD : D' ≤ D) : LotE D' W v rs := by
  refine ⟨h.1, ?_⟩
  rcases h.2 with e | ⟨g, c, cur, e, hb, rest⟩
  · exact .inl e
  · exact .inr ⟨g, c, cur, e, Nat.le_trans hD hb, rest⟩
theorem LotE.set {g cap k : Nat} (h : LotE D W (.slice (some ⟨g, 0, none⟩) rs.length cap) rs) (r : Pl × Ex) : LotE D ((W.setCell ⟨g, k * 2, none⟩ (r.1.x r.2)).setCell ⟨g, k * 2 + 1, none⟩ (r.1.y r.2)) (.slice (some ⟨g, 0, none⟩) rs.length cap) (rs.set k r) := by
  have h1 := (World.ownsRow.stored h (k * 2) (r.1.x r.2)).1
  have h2 := (World.ownsRow.stored h1 (k * 2 + 1) (r.1.y r.2)).1
  unfold LotE
  rw [ecells_set, List.length_set]
  exact h2
theorem ex_map {k : Nat} (rs : List (Pl × Ex)) {r : Pl × Ex} (h : rs[k]? = some r) : ex (rs.map Prod.snd) k = r.2 := by
  unfold ex; rw [List.getElem?_map, h]; rfl
/-- Such examples can be read. -/
theorem LotE.rdE {a : Option Addr} {n cap : Nat} (h : LotE D W (.slice a n cap) rs) (hl : RdL W.heap.size W rs) : RdE W.heap.size W a (rs.map Prod.snd) := by
  by_cases h0 : rs.length = 0
  · exact .inl (by rw [List.eq_nil_of_length_eq_zero h0]; rfl)
  · obtain ⟨r0, hr0⟩ : ∃ r, rs[0]? = some r := ⟨_, List.getElem?_eq_getElem (by omega)⟩
    obtain ⟨g, c, e, _, hg, _⟩ := h.at hr0
    injection e with e1 e2 e3
    subst e1
    refine .inr ⟨g, 0, rfl, hg, fun j hj => ?_⟩
    rw [List.length_map] at hj
    obtain ⟨r, hr⟩ : ∃ r, rs[j]? = some r := ⟨_, List.getElem?_eq_getElem hj⟩
    obtain ⟨g', c', e', _, _, _, c0, c1, _⟩ := h.at hr
    injection e' with e1 e2 e3
    obtain rfl : g = g' := by injection e1 with e1; injection e1
    obtain ⟨q1, q2, q3, q4⟩ := hl j r hr
    refine ⟨r.1.xa, r.1.xc, r.1.ya, r.1.yc, ?_, ?_, ?_, ?_, q3, q4⟩
    · rw [Nat.zero_add, c0]; unfold lx; rw [ex_map rs hr]
    · rw [Nat.zero_add, c1]; unfold ly; rw [ex_map rs hr]
    · rw [ex_map rs hr]; exact q1
    · rw [ex_map rs hr]; exact q2
end

/-- Within bounds. -/
def FitL (l : List Int) : Prop := ∀ x ∈ l, i64 x
def FitE (es : List Ex) : Prop := ∀ e ∈ es, InE e
theorem fit_at {l : List Int} {k : Nat} (h : FitL l) (hk : k < l.length) : i64 (el l k) := h _ (List.mem_of_getElem? (el_lt hk))
theorem fitE_at {es : List Ex} {k : Nat} (h : FitE es) (hk : k < es.length) : InE (ex es k) := h _ (ex_mem hk)
/-- Small enough for all that is made of them. -/
def SmE (es : List Ex) : Prop := es.length ≤ 100 ∧ ∀ k, k < es.length → lx es k ≤ 1000 ∧ ly es k ≤ 1000

/-- What the reference's Few reckons. -/
def fewK (es : List Ex) : Nat → Nat
  | 0 => 0
  | k + 1 => fewK es k + min (lx es k) 1000 + min (ly es k) 1000
def fewE (es : List Ex) : Bool := decide (es.length ≤ 60) && decide (fewK es (min es.length 100) ≤ 600)
theorem fewK_le (es : List Ex) : ∀ k, fewK es k ≤ k * 2000
  | 0 => by simp [fewK]
  | k + 1 => by have := fewK_le es k; simp only [fewK]; omega
theorem fewK_at (es : List Ex) {j : Nat} : ∀ {k : Nat}, j < k → min (lx es j) 1000 + min (ly es j) 1000 ≤ fewK es k
  | 0, h => absurd h (Nat.not_lt_zero _)
  | k + 1, h => by
    simp only [fewK]
    by_cases e : j = k
    · subst e; omega
    · have := fewK_at es (j := j) (k := k) (by omega); omega
theorem few_small {es : List Ex} (h : fewE es = true) : es.length ≤ 60 ∧ ∀ k, k < es.length → lx es k ≤ 600 ∧ ly es k ≤ 600 := by
  unfold fewE at h
  simp only [Bool.and_eq_true, decide_eq_true_eq] at h
  refine ⟨h.1, fun k hk => ?_⟩
  have := fewK_at es (j := k) (k := min es.length 100) (by omega)
  omega
theorem few_sm {es : List Ex} (h : fewE es = true) : SmE es := by
  obtain ⟨h1, h2⟩ := few_small h
  exact ⟨by omega, fun k hk => by have := h2 k hk; omega⟩
end Go.Proofs.Ythcahpgandappaa
