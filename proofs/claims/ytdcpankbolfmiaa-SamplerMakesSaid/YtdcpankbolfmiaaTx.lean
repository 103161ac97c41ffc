/- A block of three cells. No condition. -/
import Derived.Test.YtdcpankbolfmiaaNa
namespace Go.Proofs.Ytdcpankbolfmiaa
open Go.RowKit

/-- Block b holds a struct of three cells. -/
def Three (W : World) (b : Nat) (t : TypeId) (x y z : Value) : Prop := W.heap[b]? = some (.cells #[x, y, z] t (0, 0))
section
variable {W W' : World} {b : Nat} {t : TypeId} {x y z : Value}
theorem Three.lt (h : Three W b t x y z) : b < W.heap.size := (Array.getElem?_eq_some_iff.1 h).1
theorem Three.c0 (h : Three W b t x y z) : W.cell? ⟨b, 0, none⟩ = some x := by simp [World.cell?, show W.heap[b]? = _ from h]
theorem Three.c1 (h : Three W b t x y z) : W.cell? ⟨b, 1, none⟩ = some y := by simp [World.cell?, show W.heap[b]? = _ from h]
theorem Three.c2 (h : Three W b t x y z) : W.cell? ⟨b, 2, none⟩ = some z := by simp [World.cell?, show W.heap[b]? = _ from h]
theorem Three.f0 (h : Three W b t x y z) : W.frozen? ⟨b, 0, none⟩ = false := by simp [World.frozen?, show W.heap[b]? = _ from h]
theorem Three.f1 (h : Three W b t x y z) : W.frozen? ⟨b, 1, none⟩ = false := by simp [World.frozen?, show W.heap[b]? = _ from h]
theorem Three.f2 (h : Three W b t x y z) : W.frozen? ⟨b, 2, none⟩ = false := by simp [World.frozen?, show W.heap[b]? = _ from h]
theorem Three.set0 (h : Three W b t x y z) (v : Value) : Three (W.setCell ⟨b, 0, none⟩ v) b t v y z := by
  have := heap_setCell_same W b 0 #[x, y, z] t v h
  unfold Three
  rw [this]; rfl
theorem Three.set1 (h : Three W b t x y z) (v : Value) : Three (W.setCell ⟨b, 1, none⟩ v) b t x v z := by
  have := heap_setCell_same W b 1 #[x, y, z] t v h
  unfold Three
  rw [this]; rfl
theorem Three.set2 (h : Three W b t x y z) (v : Value) : Three (W.setCell ⟨b, 2, none⟩ v) b t x y v := by
  have := heap_setCell_same W b 2 #[x, y, z] t v h
  unfold Three
  rw [this]; rfl
theorem Three.all (h : Three W b t x y z) (u v s : Value) : Three (((W.setCell ⟨b, 0, none⟩ u).setCell ⟨b, 1, none⟩ v).setCell ⟨b, 2, none⟩ s) b t u v s := ((h.set0 u).set1 v).set2 s
theorem Three.other (h : Three W b t x y z) (p : Addr) (v : Value) (hne : b ≠ p.block) : Three (W.setCell p v) b t x y z := (heap_setCell_other W p b v hne).trans h
theorem Three.alloc (h : Three W b t x y z) (o : Obj) : Three (W.alloc o) b t x y z := (Below.heap_alloc W o b h.lt).trans h
theorem Three.grow (h : Three W b t x y z) (g : Grew W W') : Three W' b t x y z := (Below.block g b h.lt).trans h
theorem Three.below {B : Nat} (h : Three W b t x y z) (g : Below B W W') (hB : b < B) : Three W' b t x y z := (Below.block g b hB).trans h
theorem Three.grown {r : Option Nat} (h : Three W b t x y z) (g : W.grownBy W' r) (hne : some b ≠ r) : Three W' b t x y z := (g.block b h.lt hne).trans h
theorem Three.new (W : World) (t : TypeId) (x y z : Value) : Three (W.alloc (.cells #[x, y, z] t)) W.heap.size t x y z := (MapKept.heap_alloc W _).1
end
end Go.Proofs.Ytdcpankbolfmiaa
