/- What the statements of layer 3 begin with: slices of int64 numbers that came in, and Few of one vector and of two. No condition. -/
import Derived.Test.YtdlhpamgjfipfaaVg
namespace Go.Proofs.Ytdlhpamgjfipfaa
open Go.RowKit

theorem in64_wf {n : Int} (h : (Lit.int .i64 n).wf = true) : In64 n := by
  simp [Lit.wf, IntKind.min, IntKind.max, IntKind.signed, IntKind.bits] at h
  unfold In64
  omega
theorem u16_wf {n : Int} (h : (Lit.int .u16 n).wf = true) : 0 ≤ n ∧ n ≤ 65535 := by
  simp [Lit.wf, IntKind.min, IntKind.max, IntKind.signed, IntKind.bits] at h
  omega
theorem block_in {w : World} {b o : Nat} {v : Value} (h : w.cell? ⟨b, o, none⟩ = some v) : b < w.heap.size := by
  unfold World.cell? at h
  rcases Nat.lt_or_ge b w.heap.size with h' | h'
  · exact h'
  · simp [Array.getElem?_eq_none h'] at h
theorem cells_rd {w : World} {a : Option Addr} {len cap : Nat} {zs : List Int} (hl : len ≤ cap) (hz : zs.length = cap) (hc : len ≠ 0 → ∃ x, a = some x ∧ ∀ i, i < zs.length → w.cell? (x.add i) = some (.int .i64 (zs.getD i 0))) (hw : ∀ n ∈ zs, (Lit.int .i64 n).wf = true) :
    (zs.take len).length = len ∧ Rd w.heap.size w a (zs.take len) ∧ Fit (zs.take len) := by
  have h1 : (zs.take len).length = len := by rw [List.length_take]; omega
  refine ⟨h1, ?_, fun j hj => ?_⟩
  · by_cases h0 : len = 0
    · subst h0; exact .inl (List.take_zero)
    · obtain ⟨⟨b, off, spot⟩, rfl, hcell⟩ := hc h0
      have hc0 := hcell 0 (by omega)
      have hspot : spot = none := by simpa [Addr.add] using World.cell?_spot hc0
      subst hspot
      refine .inr ⟨b, off, rfl, block_in (by simpa [Addr.add] using hc0), fun j hj => ?_⟩
      have := hcell j (by omega)
      rw [Addr.add_lit] at this
      rw [this]
      unfold el
      rw [List.getElem?_take_of_lt (by omega), ← List.getD_eq_getElem?_getD]
  · unfold el
    rw [List.getElem?_take_of_lt (by omega), List.getElem?_eq_getElem (by omega)]
    exact in64_wf (hw _ (List.getElem_mem _))
/-- A slice of numbers that came in. -/
theorem row_in {w : World} {a : Option Addr} {len cap : Nat} {zs : List Int} (h : (a = none ∧ len = 0 ∧ cap = 0 ∧ zs = []) ∨ ∃ x, a = some x ∧ len ≤ cap ∧ cap ≤ maxLen ∧ zs.length = cap ∧ (∀ i, i < zs.length → w.cell? (x.add i) = some (.int .i64 (zs.getD i 0))) ∧ ∀ n ∈ zs, (Lit.int .i64 n).wf = true) :
    (a = none → cap = 0) ∧ ∃ ys : List Int, ys.length = len ∧ Rd w.heap.size w a ys ∧ Fit ys := by
  rcases h with ⟨rfl, rfl, rfl, rfl⟩ | ⟨x, rfl, hl, _, hz, hc, hw⟩
  · exact ⟨fun _ => rfl, [], rfl, .inl rfl, fun j hj => by simp at hj⟩
  · exact ⟨(fun h => by cases h), _, cells_rd (a := some x) hl hz (fun _ => ⟨x, rfl, hc⟩) hw⟩

theorem few_one (a : Option Addr) (c : Nat) (zs : List Int) (w : World) :
    Calls Try.prog 9 #[.slice (some ⟨w.heap.size, 0, none⟩) 1 1] (w.alloc (.cells #[.slice a zs.length c] 25)) fun e w' => e = .returned (.bool (fewB [⟨a, c, zs⟩])) ∧ Grew w w' :=
  (few_any _ 1 [⟨a, c, zs⟩] _ (by simp) (heads_new 25 w [⟨a, c, zs⟩])).mono fun e w' ⟨he, hw⟩ => ⟨he, by rw [← hw]; exact (Grew.refl w).alloc _⟩
theorem few_two (a a' : Option Addr) (c c' : Nat) (xs ys : List Int) (w : World) :
    Calls Try.prog 9 #[.slice (some ⟨w.heap.size, 0, none⟩) 2 2] (w.alloc (.cells #[.slice a xs.length c, .slice a' ys.length c'] 25)) fun e w' => e = .returned (.bool (fewB [⟨a, c, xs⟩, ⟨a', c', ys⟩])) ∧ Grew w w' :=
  (few_any _ 2 [⟨a, c, xs⟩, ⟨a', c', ys⟩] _ (by simp) (heads_new 25 w [⟨a, c, xs⟩, ⟨a', c', ys⟩])).mono fun e w' ⟨he, hw⟩ => ⟨he, by rw [← hw]; exact (Grew.refl w).alloc _⟩
theorem few_one_yes {a : Option Addr} {c : Nat} {zs : List Int} (h : fewB [⟨a, c, zs⟩] = true) : zs.length ≤ 1500 := (few_yes h).2 0 (by simp)
theorem few_two_yes {a a' : Option Addr} {c c' : Nat} {xs ys : List Int} (h : fewB [⟨a, c, xs⟩, ⟨a', c', ys⟩] = true) : xs.length ≤ 1500 ∧ ys.length ≤ 1500 := ⟨(few_yes h).2 0 (by simp), (few_yes h).2 1 (by simp)⟩
end Go.Proofs.Ytdlhpamgjfipfaa
