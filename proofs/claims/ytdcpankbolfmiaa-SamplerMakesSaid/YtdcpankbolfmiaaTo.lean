/- A slice of slices of integers that a call makes row by row (Lots). No condition. -/
import Derived.Test.YtdcpankbolfmiaaTc
namespace Go.Proofs.Ytdcpankbolfmiaa
open Go.RowKit Go.MapKept

theorem info_rows : (Try.prog.info? 38).map (fun i => (i.zero, i.size, i.bytes)) = some (some (.slice none 0 0), 1, 24) := by kernel_rfl
def rowAt (ls : List (List Int)) (j : Nat) : List Int := ls[j]?.getD []
theorem rowAt_left {ls : List (List Int)} {zs : List Int} {j : Nat} (h : j < ls.length) : rowAt (ls ++ [zs]) j = rowAt ls j := by unfold rowAt; rw [List.getElem?_append_left h]
theorem rowAt_here {ls : List (List Int)} {zs : List Int} : rowAt (ls ++ [zs]) ls.length = zs := by unfold rowAt; simp

/-- A row that is owned stays while a block of another make is written. -/
theorem own_kept {w w' : World} {r : Option Nat} {B n size : Nat} {e : TypeId} {v : Value} {xs : List Value} (h : w.ownsRow B e size v n xs) (hg : w.grownBy w' r)
    (hne : ∀ g, r = some g → ∀ cur, w.heap[g]? ≠ some (.cells cur e (0, 0))) : w'.ownsRow B e size v n xs := by
  refine h.kept hg ?_
  rcases h.2 with ⟨rfl, _⟩ | ⟨g, cap, cur, rfl, _, hg1, _⟩
  · exact .inl rfl
  · right
    intro e
    exact hne g e.symm cur hg1
theorem own_type {w : World} {B n size g : Nat} {e : TypeId} {v : Value} {xs : List Value} (h : w.ownsRow B e size v n xs) (hv : v.ownBlock = some g) : ∃ cur, w.heap[g]? = some (.cells cur e (0, 0)) := by
  rcases h.2 with ⟨rfl, _⟩ | ⟨g', cap, cur, rfl, _, hg1, _⟩
  · cases hv
  · injection hv with hv
    have hv : g' = g := hv
    subst hv
    exact ⟨cur, hg1⟩

/-- v is a slice of slices that a call has made from block B on: it holds the lists ls. -/
def Lots (B : Nat) (W : World) (v : Value) (ls : List (List Int)) : Prop :=
  ∃ (A : Nat → Option Addr) (C : Nat → Nat), W.ownsRow B 38 1 v ls.length ((List.range ls.length).map fun j => Value.slice (A j) (rowAt ls j).length (C j)) ∧
    ∀ j, j < ls.length → BufK .i64 3 0 W (A j) (rowAt ls j).length (C j) (rowAt ls j)
section
variable {B : Nat} {W W' : World} {v : Value} {ls : List (List Int)}
theorem Lots.nil (B : Nat) (W : World) : Lots B W (.slice none 0 0) [] := ⟨fun _ => none, fun _ => 0, World.ownsRow_nil _ _ _ _, fun j hj => by simp at hj⟩
theorem Lots.kept {r : Option Nat} (h : Lots B W v ls) (hg : W.grownBy W' r) (hne : ∀ g, r = some g → ∀ cur e, W.heap[g]? ≠ some (.cells cur e (0, 0))) : Lots B W' v ls := by
  obtain ⟨A, C, h1, h2⟩ := h
  exact ⟨A, C, own_kept h1 hg (fun g e cur => hne g e cur _), fun j hj => own_kept (h2 j hj) hg (fun g e cur => hne g e cur _)⟩
theorem Lots.grow (h : Lots B W v ls) (g : Grew W W') : Lots B W' v ls := h.kept (g.by' none) (fun g e => by cases e)
theorem Lots.marked {b : Nat} (h : Lots B W v ls) (hm : ∃ es clock, W.heap[b]? = some (.map es clock)) (hg : W.grownBy W' (some b)) : Lots B W' v ls :=
  h.kept hg (fun g e cur ty => by
    injection e with e
    subst e
    obtain ⟨es, clock, hm⟩ := hm
    rw [hm]
    simp)
/-- What an append to the outer slice leaves. -/
theorem Lots.snoc {W0 : World} {v' : Value} {a : Option Addr} {c : Nat} {zs : List Int} {A : Nat → Option Addr} {C : Nat → Nat} (h1 : W.ownsRow B 38 1 v ls.length ((List.range ls.length).map fun j => Value.slice (A j) (rowAt ls j).length (C j)))
    (h2 : ∀ j, j < ls.length → BufK .i64 3 0 W (A j) (rowAt ls j).length (C j) (rowAt ls j)) (hz : BufK .i64 3 0 W a zs.length c zs) (hg0 : Grew W W0) (hg : W0.grownBy W' v.ownBlock)
    (h3 : W'.ownsRow B 38 1 v' (ls.length + 1) (((List.range ls.length).map fun j => Value.slice (A j) (rowAt ls j).length (C j)) ++ [.slice a zs.length c])) : Lots B W' v' (ls ++ [zs]) := by
  have k1 : W0.ownsRow B 38 1 v ls.length _ := own_kept h1 (hg0.by' none) (fun g e => by cases e)
  have hty : ∀ g, v.ownBlock = some g → ∀ cur, W0.heap[g]? ≠ some (.cells cur 3 (0, 0)) := fun g e cur e' => by
    obtain ⟨cur', e2⟩ := own_type k1 e
    rw [e'] at e2
    injection e2 with e2
    injection e2 with _ e2
    exact absurd e2 (by decide)
  refine ⟨fun j => if j < ls.length then A j else a, fun j => if j < ls.length then C j else c, ?_, fun j hj => ?_⟩
  · rw [List.length_append, List.length_singleton, List.range_succ, List.map_append]
    have e1 : (List.range ls.length).map (fun j => Value.slice (if j < ls.length then A j else a) (rowAt (ls ++ [zs]) j).length (if j < ls.length then C j else c)) = (List.range ls.length).map (fun j => Value.slice (A j) (rowAt ls j).length (C j)) :=
      List.map_congr_left (fun j hj => by
        have hj := List.mem_range.1 hj
        simp only [if_pos hj, rowAt_left hj])
    rw [e1]
    simpa [rowAt_here] using h3
  · rw [List.length_append, List.length_singleton] at hj
    by_cases e : j < ls.length
    · simp only [if_pos e, rowAt_left e]
      exact own_kept (own_kept (h2 j e) (hg0.by' none) (fun g e => by cases e)) hg hty
    · obtain rfl : j = ls.length := by omega
      simp only [if_neg e, rowAt_here]
      exact own_kept (own_kept hz (hg0.by' none) (fun g e => by cases e)) hg hty
/-- How long it is, and where a row lies. -/
theorem Lots.slice (h : Lots B W v ls) : ∃ a cap, v = .slice a ls.length cap := by
  obtain ⟨A, C, h1, _⟩ := h
  rcases h1.2 with ⟨rfl, h0⟩ | ⟨g, cap, cur, rfl, _⟩
  · exact ⟨none, 0, by rw [h0]⟩
  · exact ⟨_, _, rfl⟩
theorem Lots.at {a : Option Addr} {cap j : Nat} (h : Lots B W (.slice a ls.length cap) ls) (hj : j < ls.length) : ∃ g aj cj, a = some ⟨g, 0, none⟩ ∧ g < W.heap.size ∧ W.cell? ⟨g, j, none⟩ = some (.slice aj (rowAt ls j).length cj) ∧ RdK .i64 W.heap.size W aj (rowAt ls j) := by
  obtain ⟨A, C, h1, h2⟩ := h
  rcases h1.2 with ⟨e, h0⟩ | ⟨g, cap', cur, e, _, hg, _⟩
  · omega
  · injection e with e1 e2 e3
    subst e1 e3
    refine ⟨g, A j, C j, rfl, (Array.getElem?_eq_some_iff.1 hg).1, ?_, (h2 j hj).rd⟩
    rw [World.ownsRow.cellAt h1 j (by omega)]
    simp [hj]
end
theorem own_one (W : World) (x : Int) : BufK .i64 3 W.heap.size (W.alloc (.cells #[.int .i64 x] 3)) (some ⟨W.heap.size, 0, none⟩) 1 1 [x] :=
  ⟨rfl, .inr ⟨W.heap.size, 1, #[.int .i64 x], rfl, Nat.le_refl _, (MapKept.heap_alloc W _).1, Nat.le_refl _, by unfold maxLen; omega, rfl, rfl⟩⟩
end Go.Proofs.Ytdcpankbolfmiaa
