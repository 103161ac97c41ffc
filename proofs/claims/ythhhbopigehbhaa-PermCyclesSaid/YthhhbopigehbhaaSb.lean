/- Next of package draw and of the reference; same of the statement. Condition: at most 2^44 draws. -/
import Derived.Test.YthhhbopigehbhaaSa
namespace Go.Proofs.Ythhhbopigehbhaa
open Go.RowKit

/-- Storing how many draws are used. -/
theorem Stm.put {D b k m : Nat} {W : World} {zs : List Int} (h : Stm D W b zs k) (hm : m ≤ zs.length) : Stm D (W.setCell ⟨b, 1, none⟩ (.int .i64 m)) b zs m := by
  obtain ⟨h0, _, a, c, hc, hl, h2, h3⟩ := h
  exact ⟨h0, hm, a, c, hc, hl, h2.set1 _, h3.below ((Below.refl _ _).setCell h0 _)⟩

end Go.Proofs.Ythhhbopigehbhaa
