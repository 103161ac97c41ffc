/- Package perm: the closure that exchanges, exchanger. Condition: at most 2^44 numbers. -/
import Derived.Test.YtdcpankbolfmiaaTd
import Derived.RegionTactic
import Derived.Laws.Pointers
import Derived.ChangeAlike
import Derived.BigRegion
namespace Go.Proofs.Ytdcpankbolfmiaa
open Go.RowKit

theorem cell_after {w : World} {p q : Addr} {x v : Value} (h : w.cell? q = some v) : ∃ v', (w.setCell p x).cell? q = some v' := by
  by_cases e : p = q
  · subst e; exact ⟨x, World.cell?_setCell_same w p x h⟩
  · exact ⟨v, (World.cell?_setCell_other w p q x e).trans h⟩

/-- Two elements are exchanged. -/
def swapL (l : List Int) (i j : Nat) : List Int := (l.set i (el l j)).set j (el l i)
theorem swapL_len (l : List Int) (i j : Nat) : (swapL l i j).length = l.length := by simp [swapL]
/-- Block x holds one value, a slice of integers. -/
def Box (W : World) (x : Nat) (v : Value) : Prop := W.heap[x]? = some (.cells #[v] 38 (0, 0))
theorem Box.lt {W : World} {x : Nat} {v : Value} (h : Box W x v) : x < W.heap.size := (Array.getElem?_eq_some_iff.1 h).1
theorem Box.c {W : World} {x : Nat} {v : Value} (h : Box W x v) : W.cell? ⟨x, 0, none⟩ = some v := by simp [World.cell?, show W.heap[x]? = _ from h]
theorem Box.grow {W W' : World} {x : Nat} {v : Value} (h : Box W x v) (g : Grew W W') : Box W' x v := (Below.block g x h.lt).trans h
theorem Box.grown {W W' : World} {r : Option Nat} {x : Nat} {v : Value} (h : Box W x v) (g : W.grownBy W' r) (hne : some x ≠ r) : Box W' x v := (g.block x h.lt hne).trans h
theorem Box.ne {W : World} {x g : Nat} {v : Value} {cur : Array Value} {e : TypeId} {lo : Nat × Nat} (h : Box W x v) (hg : W.heap[g]? = some (.cells cur e lo)) (he : e ≠ 38) : g ≠ x := by
  rintro rfl
  rw [show W.heap[g]? = _ from h] at hg
  injection hg with hg
  injection hg with _ hg
  exact he hg.symm

set_option linter.unusedVariables false in
set_option maxRecDepth 100000 in
set_option maxHeartbeats 2000000 in
theorem exch_any {x g n c i j : Nat} {zi zj : Int} (w : World) (hi : i < n) (hj : j < n) (hn : n ≤ 17592186044416) (cx : w.cell? ⟨x, 0, none⟩ = some (.slice (some ⟨g, 0, none⟩) n c)) (ci : w.cell? ⟨g, i, none⟩ = some (.int .i64 zi)) (cj : w.cell? ⟨g, j, none⟩ = some (.int .i64 zj))
    (fi : w.frozen? ⟨g, i, none⟩ = false) (fj : w.frozen? ⟨g, j, none⟩ = false) (hne : g ≠ x) :
    Calls Try.prog 48 #[.int .i64 i, .int .i64 j, .pointer (some ⟨x, 0, none⟩)] w fun e w' => e = .returned (.tuple #[]) ∧ ∃ m, w' = ((w.setCell ⟨g, i, none⟩ (.int .i64 zj)).setCell ⟨g, j, none⟩ (.int .i64 zi)).drewN m := by
  obtain ⟨v', hy'⟩ := cell_after (w := w) (p := ⟨g, i, none⟩) (x := .int .i64 zj) (q := ⟨g, j, none⟩) cj
  have hi' : (i : Int) < (n : Int) := by omega
  have hj' : (j : Int) < (n : Int) := by omega
  go_enter Try.func48, Try.ntmps48
  go_wp2_with fail
  go_region
  all_goals (go_end0; exact ⟨rfl, 1, rfl⟩)

theorem exch_buf {x g n c cap i j B : Nat} {zs : List Int} (w : World) (hi : i < n) (hj : j < n) (hn : n ≤ 17592186044416) (hx : Box w x (.slice (some ⟨g, 0, none⟩) n c)) (hb : BufK .i64 3 B w (some ⟨g, 0, none⟩) n cap zs) :
    Calls Try.prog 48 #[.int .i64 i, .int .i64 j, .pointer (some ⟨x, 0, none⟩)] w fun e w' => e = .returned (.tuple #[]) ∧ BufK .i64 3 B w' (some ⟨g, 0, none⟩) n cap (swapL zs i j) ∧ w.grownBy w' (some g) := by
  obtain ⟨g', e', _, _, ci, fi⟩ := hb.at hi
  obtain rfl : g = g' := by injection e' with e'; injection e'
  obtain ⟨g', e', _, _, cj, fj⟩ := hb.at hj
  obtain rfl : g = g' := by injection e' with e'; injection e'
  have hne : g ≠ x := by
    rcases hb.2 with ⟨e1, h0⟩ | ⟨g', c', cur, e1, _, hg1, _⟩
    · cases e1
    · injection e1 with e1
      injection e1 with e1
      injection e1 with e1
      subst e1
      exact hx.ne hg1 (by decide)
  refine (exch_any w hi hj hn hx.c ci cj fi fj hne).mono ?_
  rintro e w' ⟨rfl, m, rfl⟩
  refine ⟨rfl, ?_, grownBy_drewN (grownBy_trans (grownBy_setCell1 _ ⟨g, i, none⟩ _) (grownBy_setCell1 _ ⟨g, j, none⟩ _)) m⟩
  exact ((hb.set i (el zs j)).set j (el zs i)).grow ((Grew.refl _).drewN m)

theorem exchanger_any (a : Option Addr) (n c : Nat) (w : World) :
    Calls Try.prog 43 #[.slice a n c] w fun e w' => e = .returned (.func (.func 48) #[] #[.pointer (some ⟨w.heap.size, 0, none⟩)]) ∧ Box w' w.heap.size (.slice a n c) ∧ Grew w w' := by
  go_enter Try.func43, Try.ntmps43
  go_wp2
  go_ret
  exact ⟨rfl, (MapKept.heap_alloc w _).1, (Grew.refl w).alloc _⟩
end Go.Proofs.Ytdcpankbolfmiaa
