/- Slices of slices of integers that came in: what can be read of them (CameRows). No condition. -/
import Derived.Test.YtfgkpbmjdgfdmaaNa
import Derived.Deep.Matrix
namespace Go.Proofs.Ytfgkpbmjdgfdmaa
open Go.RowKit

theorem rdk_take {q : IntKind} {w : World} {a : Addr} {len cap : Nat} {zs : List Int} (hl : len ≤ cap) (hz : zs.length = cap)
    (hc : ∀ i, i < cap → w.cell? (a.add i) = some (.int q (zs.getD i 0))) : RdK q w.heap.size w (some a) (zs.take len) := by
  have hlen : (zs.take len).length = len := by rw [List.length_take]; omega
  by_cases h0 : len = 0
  · exact .inl (List.eq_nil_of_length_eq_zero (hlen.trans h0))
  · obtain ⟨b, off, spot⟩ := a
    have h1 := hc 0 (by omega)
    have hspot : spot = none := by simpa [Addr.add] using World.cell?_spot h1
    subst hspot
    rw [Addr.add_lit] at h1
    refine .inr ⟨b, off, rfl, block_in h1, fun j hj => ?_⟩
    rw [hlen] at hj
    have h2 := hc j (by omega)
    rw [Addr.add_lit] at h2
    rw [h2]
    unfold el
    rw [List.getElem?_take_of_lt hj, List.getD_eq_getElem?_getD]

/-- A slice of slices of integers that came in: its slices, where they lie and what they hold. -/
def CameRows (q : IntKind) (w : World) (a : Option Addr) (len cap : Nat) (A : Nat → Option Addr) (C : Nat → Nat) (Z : Nat → List Int) : Prop :=
  len ≤ cap ∧ cap ≤ maxLen ∧ ∀ r, r < len → (∃ b off, a = some ⟨b, off, none⟩ ∧ b < w.heap.size ∧ w.cell? ⟨b, off + r, none⟩ = some (.slice (A r) (Z r).length (C r))) ∧
    RdK q w.heap.size w (A r) (Z r) ∧ (Z r).length ≤ C r ∧ C r ≤ maxLen ∧ (A r = none → C r = 0) ∧ ∀ j, j < (Z r).length → (Lit.int q (el (Z r) j)).wf = true
theorem cameRows_none (q : IntKind) (w : World) : CameRows q w none 0 0 (fun _ => none) (fun _ => 0) (fun _ => []) := ⟨Nat.le_refl _, Nat.zero_le _, fun r hr => by omega⟩
theorem cameRows_some {q : IntKind} {w : World} {a : Addr} {len cap : Nat} {A : Nat → Option Addr} {L C : Nat → Nat} {Z : Nat → List Int} (hl : len ≤ cap) (hm : cap ≤ maxLen)
    (h : ∀ r, r < cap → w.cell? (a.add r) = some (.slice (A r) (L r) (C r)) ∧ L r ≤ C r ∧ C r ≤ maxLen ∧ (Z r).length = C r ∧ (∀ n ∈ Z r, (Lit.int q n).wf = true) ∧ (A r = none → C r = 0) ∧ ∀ a', A r = some a' → 0 ≤ a'.block ∧ ∀ c, c < C r → w.cell? (a'.add c) = some (.int q ((Z r).getD c 0))) :
    CameRows q w (some a) len cap A C (fun r => (Z r).take (L r)) := by
  refine ⟨hl, hm, fun r hr => ?_⟩
  obtain ⟨h0, h1, h2, h3, h4, h5, h6⟩ := h r (by omega)
  have hlen : ((Z r).take (L r)).length = L r := by rw [List.length_take]; omega
  refine ⟨?_, ?_, by rw [hlen]; exact h1, h2, h5, fun j hj => ?_⟩
  · obtain ⟨b, off, spot⟩ := a
    have hspot : spot = none := by simpa [Addr.add] using World.cell?_spot (h 0 (by omega)).1
    subst hspot
    rw [Addr.add_lit] at h0
    exact ⟨b, off, rfl, block_in h0, by rw [hlen]; exact h0⟩
  · cases ha : A r with
    | none =>
      refine .inl (List.eq_nil_of_length_eq_zero ?_)
      rw [hlen]
      have := h5 ha
      omega
    | some x => exact rdk_take h1 h3 (h6 x ha).2
  · rw [hlen] at hj
    unfold el
    rw [List.getElem?_take_of_lt hj, List.getElem?_eq_getElem (by omega)]
    exact h4 _ (List.getElem_mem _)
end Go.Proofs.Ytfgkpbmjdgfdmaa
