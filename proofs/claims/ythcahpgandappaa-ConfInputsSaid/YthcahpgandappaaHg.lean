/- New by its code; Place of a shape, way by way; places of none. Conditions: the sizes are right; the index is within the bounds of int64. -/
import Derived.Test.YthcahpgandappaaHf
namespace Go.Proofs.Ythcahpgandappaa
open Go.RowKit

theorem rdK_some {q : IntKind} {B : Nat} {W : World} {a : Option Addr} {zs : List Int} (h : RdK q B W a zs) (hn : 0 < zs.length) : ∃ b off, a = some ⟨b, off, none⟩ ∧ b < B ∧ ∀ j, j < zs.length → W.cell? ⟨b, off + j, none⟩ = some (.int q (el zs j)) := by
  rcases h with rfl | h
  · simp at hn
  · exact h
theorem new_ok {n : Nat} (a : Option Addr) (c : Nat) (zs : List Int) (w : World) (hn : zs.length = n) (hc : n ≤ c) (hm : c ≤ maxLen) (hR : codeV zs = 0) (h : RdK .i64 w.heap.size w a zs) :
    Calls Try.prog 17 #[.slice a n c] w fun e w' => (∃ b, e = .returned (.tuple #[.pointer (some ⟨b, 0, none⟩), .int .i64 0]) ∧ Shp w.heap.size w' b zs) ∧ Grew w w' := by
  subst hn
  have hR := codeV_zero hR
  obtain ⟨D, off, rfl, hD, hcell⟩ := rdK_some h (by have := hR.1; omega)
  refine (new_long c zs w hR.1 hR.2.1 hc hm hD hR.2.2.1 h hcell).mono ?_
  rintro e w1 ⟨h1 | h1, g⟩
  · obtain ⟨b, he, hs, _⟩ := h1
    exact ⟨⟨b, he, hs⟩, g⟩
  · have h4 := hR.2.2.2; omega
theorem new_bad {n : Nat} (a : Option Addr) (c : Nat) (zs : List Int) (w : World) (hn : zs.length = n) (hl : n ≤ 17592186044416) (hc : n ≤ c) (hm : c ≤ maxLen) (hR : codeV zs ≠ 0) (h : RdK .i64 w.heap.size w a zs) :
    Calls Try.prog 17 #[.slice a n c] w fun e w' => e = .returned (.tuple #[.pointer none, .int .i64 (codeV zs)]) ∧ Grew w w' := by
  subst hn
  by_cases hs : zs.length < 2 ∨ 16 < zs.length ∨ badS zs = true
  · have hv : codeV zs = 5 := by unfold codeV; rw [if_pos hs]
    rw [hv]
    exact new_short a c zs w hl h hs
  · have hb : badS zs = false := by
      cases hb : badS zs with
      | false => rfl
      | true => exact absurd (.inr (.inr hb)) hs
    have hok := badS_false hb
    obtain ⟨D, off, rfl, hD, hcell⟩ := rdK_some h (by omega)
    refine (new_long c zs w (by omega) (by omega) hc hm hD hok h hcell).mono ?_
    rintro e w1 ⟨h1 | h1, g⟩
    · obtain ⟨b, he, hs', hc0⟩ := h1
      exact absurd (codeV_ok ⟨by omega, by omega, hok, hc0⟩) hR
    · rw [codeV_many (by omega) (by omega) hok h1.2]
      exact ⟨h1.1, g⟩

end Go.Proofs.Ythcahpgandappaa
