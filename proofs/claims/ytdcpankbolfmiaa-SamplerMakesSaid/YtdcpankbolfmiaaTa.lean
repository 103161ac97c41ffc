/- A set of integers that is kept as a map to true (Mk): made, cleared, asked, marked. Condition: fewer entries than a map may have. -/
import Derived.Test.YtdcpankbolfmiaaNa
import Derived.Maps.OwnOps
import Derived.Maps.Views
import Derived.Maps.OwnSet
import Derived.BigFrame
namespace Go.Proofs.Ytdcpankbolfmiaa
open Go.RowKit Go.Maps Go.MapKept Go.ChangeMaps
open Go.WideElems (Fit)

theorem lawint : Keyed Try.prog 3 := int_keyed Try.underlying3
theorem zerobool (w : World) : (zeroValue 4).run Try.prog w = .ok (.bool false) w := by kernel_rfl

/-- Block b of w is a map of at most n integers, each to true: those of which S says so. -/
def Mk (w : World) (b n : Nat) (S : Int → Bool) : Prop :=
  ∃ D : DataW Unit, w.ownsMap Try.prog 3 (plainElem Try.prog 4) b n D ∧ ∀ x : Int, D.atKey (.int .i64 x) (.lit (.bool false)) = .lit (.bool (S x))
section
variable {w w' : World} {b n : Nat} {S : Int → Bool}
theorem Mk.lt (h : Mk w b n S) : b < w.heap.size := by obtain ⟨D, h, _⟩ := h; exact h.lt
theorem Mk.isMap (h : Mk w b n S) : ∃ es clock, w.heap[b]? = some (.map es clock) := by obtain ⟨D, ⟨es, clock, hb, _⟩, _⟩ := h; exact ⟨es, clock, hb⟩
theorem Mk.kept {row : Option Nat} (h : Mk w b n S) (hg : w.grownBy w' row) (hne : some b ≠ row) : Mk w' b n S := by
  obtain ⟨D, h, hS⟩ := h; exact ⟨D, h.kept hg hne, hS⟩
theorem Mk.grow (h : Mk w b n S) (g : Grew w w') : Mk w' b n S := h.kept (g.by' none) (by simp)
theorem Mk.more {n' : Nat} (h : Mk w b n S) (hn : n ≤ n') : Mk w b n' S := by obtain ⟨D, h, hS⟩ := h; exact ⟨D, h.mono hn, hS⟩
theorem Mk.made (w : World) : Mk (w.alloc (.map #[] 0)) w.heap.size 0 (fun _ => false) :=
  ⟨.map [], World.ownsMap_made _ _ _ _, fun _ => rfl⟩
end
/-- What lies in cells is not in the map's block: it stays as it was while the map is written. -/
theorem RdK.marked {q : IntKind} {w w' : World} {b B : Nat} {a : Option Addr} {zs : List Int} (h : RdK q B w a zs) (hm : ∃ es clock, w.heap[b]? = some (.map es clock)) (hg : w.grownBy w' (some b)) (hB : B ≤ w.heap.size) : RdK q B w' a zs := by
  rcases h with h | ⟨g, off, ha, hb, hc⟩
  · exact .inl h
  · refine .inr ⟨g, off, ha, hb, fun j hj => ?_⟩
    have hne : some g ≠ some b := by
      intro e
      injection e with e
      subst e
      obtain ⟨es, clock, hm⟩ := hm
      have := hc j hj
      unfold World.cell? at this
      simp [hm] at this
    have := hg.block g (by omega) hne
    unfold World.cell?
    rw [show (⟨g, off + j, none⟩ : Addr).block = g from rfl, this]
    exact hc j hj
theorem BufK.marked {q : IntKind} {e : TypeId} {w w' : World} {b B n cap : Nat} {a : Option Addr} {zs : List Int} (h : BufK q e B w a n cap zs) (hm : ∃ es clock, w.heap[b]? = some (.map es clock)) (hg : w.grownBy w' (some b)) : BufK q e B w' a n cap zs := by
  refine ⟨h.1, ?_⟩
  rcases h.2 with e | ⟨g, c, cur, e1, hb, hg1, rest⟩
  · exact .inl e
  · refine .inr ⟨g, c, cur, e1, hb, ?_, rest⟩
    have hlt : g < w.heap.size := by
      rcases Nat.lt_or_ge g w.heap.size with h' | h'
      · exact h'
      · rw [Array.getElem?_eq_none h'] at hg1; cases hg1
    have hne : some g ≠ some b := by
      intro e
      injection e with e
      subst e
      obtain ⟨es, clock, hm⟩ := hm
      rw [hm] at hg1
      cases hg1
    exact (hg.block g hlt hne).trans hg1
end Go.Proofs.Ytdcpankbolfmiaa
