/- Turn of package mat: the transposed matrix of a right one, or none. Conditions: elements are within the bounds of int64; at most 2^40 of them. -/
import Derived.Test.YtciocdjpgknihaaUj
namespace Go.Proofs.Ytciocdjpgknihaa
open Go.RowKit Go.Shelf
attribute [local go_sem] Oper.semAt_some

theorem buf_rebase {B g n cap : Nat} {W : World} {zs : List Int} (h : Buf B W (some ⟨g, 0, none⟩) n cap zs) : Buf g W (some ⟨g, 0, none⟩) n cap zs := by
  refine ⟨h.1, ?_⟩
  rcases h.2 with ⟨e, _⟩ | ⟨b, c, cur, e, hb, hc, rest⟩
  · cases e
  · injection e with e1 e2 e3
    injection e1 with e1
    injection e1 with e1
    subst e1
    exact .inr ⟨g, c, cur, by rw [e3], Nat.le_refl _, hc, rest⟩

end Go.Proofs.Ytciocdjpgknihaa
