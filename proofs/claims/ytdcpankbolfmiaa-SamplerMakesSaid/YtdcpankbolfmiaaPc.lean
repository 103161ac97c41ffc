/- Ranges that are appended: back and given of the statement; the reference's Even and Blocks. Conditions: at most 2^30 ranges. -/
import Derived.Test.YtdcpankbolfmiaaPb
import Derived.Lib.OwnBridge
namespace Go.Proofs.Ytdcpankbolfmiaa
open Go.RowKit

theorem info_range : (Try.prog.info? 81).map (fun i => (i.zero, i.size, i.bytes)) = some (some (.agg #[.int .i64 0, .int .i64 0]), 2, 16) := by kernel_rfl
theorem info_rrange : (Try.prog.info? 84).map (fun i => (i.zero, i.size, i.bytes)) = some (some (.agg #[.int .i64 0, .int .i64 0]), 2, 16) := by kernel_rfl
theorem cell_two_new (w : World) (x y : Value) (t : TypeId) : ∀ j u, [x, y][j]? = some u → (w.alloc (.cells #[x, y] t)).cell? ((⟨w.heap.size, 0, none⟩ : Addr).add j) = some u := by
  intro j u hj
  match j, hj with
  | 0, hj =>
    simp at hj
    subst hj
    simp [Addr.add]
  | 1, hj =>
    simp at hj
    subst hj
    simp [Addr.add]
theorem own_ranges {e : TypeId} {B n : Nat} {W : World} {v : Value} {rs : List Rg} (h : W.ownsRow B e 2 v n (rcells rs)) : ∃ a cap, v = .slice a n cap ∧ BufR e B W a n cap rs := by
  rcases h.2 with ⟨rfl, rfl⟩ | ⟨g, cap, cur, rfl, _⟩
  · exact ⟨none, 0, rfl, h⟩
  · exact ⟨_, _, rfl, h⟩
theorem rcells_take {rs : List Rg} {k : Nat} (h : k < rs.length) : rcells (rs.take (k + 1)) = rcells (rs.take k) ++ [.int .i64 (rg rs k).1, .int .i64 (rg rs k).2] := by
  rw [List.take_add_one, rg_lt h, rcells_append]; rfl

end Go.Proofs.Ytdcpankbolfmiaa
