/- What a call leaves alone: "Grew w w'": of what lay in memory nothing has changed; there may be new blocks. No condition. -/
import Derived.Test.YtdcpankbolfmiaaRows
import Derived.WalkKit
import Derived.Below
import Derived.Lib.Hide
import Derived.Deep.Draws
namespace Go.Proofs.Ytdcpankbolfmiaa
open Go.RowKit

/-- Nothing that was there has changed; there may be new blocks. -/
def Grew (w w' : World) : Prop := Below w.heap.size w w'
theorem Grew.refl (w : World) : Grew w w := Below.refl _ _
theorem Grew.trans {a b c : World} (h : Grew a b) (k : Grew b c) : Grew a c := Below.trans h (Below.mono k h.size)
theorem Grew.trans_below {a b c : World} {B : Nat} (h : Grew a b) (k : Below B b c) (hB : a.heap.size ≤ B) : Grew a c := Below.trans h (Below.mono k hB)
theorem Grew.alloc {a b : World} (h : Grew a b) (o : Obj) : Grew a (b.alloc o) := Below.alloc h h.size o
theorem Grew.drewN {a b : World} (h : Grew a b) (n : Nat) : Grew a (b.drewN n) := ⟨h.os, h.tape, h.output, h.size, h.block⟩
theorem ret_int {k : IntKind} {a b : Int} (h : a = b) : Ending.returned (.int k a) = .returned (.int k b) := by rw [h]
theorem ret_bool {a b : Bool} (h : a = b) : Ending.returned (.bool a) = .returned (.bool b) := by rw [h]
end Go.Proofs.Ytdcpankbolfmiaa
