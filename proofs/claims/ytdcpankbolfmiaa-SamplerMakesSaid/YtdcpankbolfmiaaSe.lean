/- The statement's alive; the contracts of draw at slices whose lengths are said otherwise. Condition: at most 2^44 draws. -/
import Derived.Test.YtdcpankbolfmiaaSc
namespace Go.Proofs.Ytdcpankbolfmiaa
open Go.RowKit

/-- A struct of two cells elsewhere is written whole. -/
theorem Stm.aside {D b k r : Nat} {W : World} {zs : List Int} (h : Stm D W b zs k) (hr : D ≤ r) (hne : b ≠ r) (x y : Value) : Stm D ((W.setCell ⟨r, 0, none⟩ x).setCell ⟨r, 1, none⟩ y) b zs k :=
  (h.grown (grownBy_setCell1 W ⟨r, 0, none⟩ x) hr hne).grown (grownBy_setCell1 _ ⟨r, 1, none⟩ y) hr hne
theorem Two.both {r : Nat} {W : World} {t : TypeId} {x y : Value} (h : Two W r t x y) (x' y' : Value) : Two ((W.setCell ⟨r, 0, none⟩ x').setCell ⟨r, 1, none⟩ y') r t x' y' := (h.set0 x').set1 y'
theorem below_both {B r : Nat} {V W : World} (h : Below B V W) (hr : B ≤ r) (x y : Value) : Below B V ((W.setCell ⟨r, 0, none⟩ x).setCell ⟨r, 1, none⟩ y) :=
  Below.setCell (Below.setCell h (p := ⟨r, 0, none⟩) hr x) (p := ⟨r, 1, none⟩) hr y
theorem BufK.aside {q : IntKind} {e : TypeId} {B n cap r : Nat} {W : World} {a : Option Addr} {zs : List Int} (h : BufK q e B W a n cap zs) (hr : r < B) (x y : Value) : BufK q e B ((W.setCell ⟨r, 0, none⟩ x).setCell ⟨r, 1, none⟩ y) a n cap zs :=
  ownsRow_setCell_below (a := ⟨r, 1, none⟩) (ownsRow_setCell_below (a := ⟨r, 0, none⟩) h hr x) hr y
theorem new_n {n : Nat} (a : Option Addr) (cap : Nat) (zs : List Int) (w : World) (hz : zs.length = n) (hl : n ≤ 17592186044416) (h : RdK .u64 w.heap.size w a zs) :
    Calls Try.prog 32 #[.slice a n cap] w fun e w' => (∃ b, e = .returned (.pointer (some ⟨b, 0, none⟩)) ∧ w.heap.size ≤ b ∧ Stm b w' b zs 0) ∧ Grew w w' := by
  subst hz; exact new_any a cap zs w hl h
theorem many_n {n D b k : Nat} {zs bs : List Int} (a : Option Addr) (c : Nat) {w : World} (hz : bs.length = n) (hl : zs.length ≤ 17592186044416) (hlb : n ≤ 17592186044416) (hu : U64 zs) (hn : ∀ j, j < bs.length → el bs j ≤ 9223372036854775807) (h : Stm D w b zs k) (hb : RdK .i64 w.heap.size w a bs) :
    Calls Try.prog 40 #[.pointer (some ⟨b, 0, none⟩), .slice a n c] w fun e w' => (∃ a' c', e = .returned (.tuple #[.slice a' (resM zs k bs).length c', .bool (okM zs k bs)]) ∧ BufK .i64 3 w.heap.size w' a' (resM zs k bs).length c' (resM zs k bs)) ∧ Stm D w' b zs (nxM zs k bs) ∧ w.grownBy w' (some b) := by
  subst hz; exact many_any a c hl hlb hu hn h hb
/-- Two integers in a block that has just been made. -/
theorem rd_two (q : IntKind) (w : World) (x y : Int) (t : TypeId) : RdK q (w.alloc (.cells #[.int q x, .int q y] t)).heap.size (w.alloc (.cells #[.int q x, .int q y] t)) (some ⟨w.heap.size, 0, none⟩) [x, y] := by
  refine .inr ⟨w.heap.size, 0, rfl, by simp, fun j hj => ?_⟩
  have h : (w.alloc (.cells #[.int q x, .int q y] t)).heap[w.heap.size]? = some (.cells #[.int q x, .int q y] t) := (MapKept.heap_alloc w _).1
  unfold World.cell?
  rw [h]
  match j, hj with
  | 0, _ => rfl
  | 1, _ => rfl

end Go.Proofs.Ytdcpankbolfmiaa
