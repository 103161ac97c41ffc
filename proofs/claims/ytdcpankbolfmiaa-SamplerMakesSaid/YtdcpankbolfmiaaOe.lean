/- A block of one cell (One); rows of a call's own where their block is left. No condition. -/
import Derived.Test.YtdcpankbolfmiaaNa
import Derived.Laws.CopyOwn
import Derived.Deep.OwnRows
import Derived.Laws.OwnMore
import Derived.Maps.AppendAt
namespace Go.Proofs.Ytdcpankbolfmiaa
open Go.RowKit

/-- Block b holds one cell. -/
def One (W : World) (b : Nat) (t : TypeId) (x : Value) : Prop := W.heap[b]? = some (.cells #[x] t (0, 0))
section
variable {W W' : World} {b : Nat} {t : TypeId} {x : Value}
theorem One.lt (h : One W b t x) : b < W.heap.size := (Array.getElem?_eq_some_iff.1 h).1
theorem One.c0 (h : One W b t x) : W.cell? ⟨b, 0, none⟩ = some x := by simp [World.cell?, show W.heap[b]? = _ from h]
theorem One.f0 (h : One W b t x) : W.frozen? ⟨b, 0, none⟩ = false := by simp [World.frozen?, show W.heap[b]? = _ from h]
theorem One.set (h : One W b t x) (v : Value) : One (W.setCell ⟨b, 0, none⟩ v) b t v := by
  have := heap_setCell_same W b 0 #[x] t v h
  unfold One
  rw [this]; rfl
theorem One.other (h : One W b t x) (p : Addr) (v : Value) (hne : b ≠ p.block) : One (W.setCell p v) b t x := (heap_setCell_other W p b v hne).trans h
theorem One.alloc (h : One W b t x) (o : Obj) : One (W.alloc o) b t x := (Below.heap_alloc W o b h.lt).trans h
theorem One.grow (h : One W b t x) (g : Grew W W') : One W' b t x := (Below.block g b h.lt).trans h
theorem One.grown {r : Option Nat} (h : One W b t x) (g : W.grownBy W' r) (hne : some b ≠ r) : One W' b t x := (g.block b h.lt hne).trans h
theorem One.new (W : World) (t : TypeId) (x : Value) : One (W.alloc (.cells #[x] t)) W.heap.size t x := (MapKept.heap_alloc W _).1
end
theorem Grew.drew' {a b : World} (h : Grew a b) : Grew a b.drew := ⟨h.os, h.tape, h.output, h.size, h.block⟩
/-- A row of the call's own is left where its block is left. -/
theorem own_left {w w' : World} {r : Option Nat} {B n size : Nat} {e : TypeId} {v : Value} {xs : List Value} (h : w.ownsRow B e size v n xs) (hg : w.grownBy w' r) (hne : ∀ g, v.ownBlock = some g → some g ≠ r) : w'.ownsRow B e size v n xs := by
  have hlt := World.ownsRow.lt h
  refine ⟨h.1, ?_⟩
  rcases h.2 with e1 | ⟨g, c, cur, rfl, hb, hc, rest⟩
  · exact .inl e1
  · exact .inr ⟨g, c, cur, rfl, hb, (hg.block g (hlt g rfl).2 (hne g rfl)).trans hc, rest⟩
theorem own_aside {w w' : World} {r B n size : Nat} {e : TypeId} {v : Value} {xs : List Value} (h : w.ownsRow B e size v n xs) (hg : w.grownBy w' (some r)) (hr : r < B) : w'.ownsRow B e size v n xs :=
  own_left h hg fun g hv e => by injection e with e; have := (World.ownsRow.lt h g hv).1; omega
theorem own_grow {w w' : World} {B n size : Nat} {e : TypeId} {v : Value} {xs : List Value} (h : w.ownsRow B e size v n xs) (hg : Grew w w') : w'.ownsRow B e size v n xs :=
  own_left h (hg.by' none) fun _ _ e => nomatch e

end Go.Proofs.Ytdcpankbolfmiaa
