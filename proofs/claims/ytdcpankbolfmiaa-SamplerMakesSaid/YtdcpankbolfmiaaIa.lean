/- Slices of int64 numbers, whatever their element type is called (int, int64): rows that a call has made for itself (BufI), made by make. No condition. -/
import Derived.Test.YtdcpankbolfmiaaVa
namespace Go.Proofs.Ytdcpankbolfmiaa
open Go.RowKit

/-- Numbers in a block that a call has made for itself, from block B on; they may be written. -/
def BufI (e : TypeId) (B : Nat) (W : World) (a : Option Addr) (n cap : Nat) (zs : List Int) : Prop := W.ownsRow B e 1 (.slice a n cap) n (zs.map (Value.int .i64))
section
variable {B B' n cap k : Nat} {W W' : World} {a : Option Addr} {zs : List Int} {e : TypeId}
theorem BufI.len (h : BufI e B W a n cap zs) : zs.length = n := by have := h.1; simpa using this
theorem BufI.at (h : BufI e B W a n cap zs) (hk : k < n) : ∃ g, a = some ⟨g, 0, none⟩ ∧ B ≤ g ∧ g < W.heap.size ∧ W.cell? ⟨g, k, none⟩ = some (.int .i64 (el zs k)) ∧ W.frozen? ⟨g, k, none⟩ = false := by
  rcases h.2 with ⟨_, h0⟩ | ⟨g, c, cur, e, hb, hg, _⟩
  · omega
  · injection e with e1 e2 e3
    subst e1 e3
    have hlt : g < W.heap.size := by
      rcases Nat.lt_or_ge g W.heap.size with h' | h'
      · exact h'
      · rw [Array.getElem?_eq_none h'] at hg; cases hg
    refine ⟨g, rfl, hb, hlt, ?_, World.ownsRow.frozenAt h k⟩
    rw [World.ownsRow.cellAt h k (by omega), List.getElem?_map, el_lt (by rw [h.len]; exact hk)]
    rfl
theorem BufI.rd (h : BufI e B W a n cap zs) : Rd W.heap.size W a zs := by
  by_cases h0 : n = 0
  · exact .inl (List.eq_nil_of_length_eq_zero (h.len.trans h0))
  · obtain ⟨g, ha, _, hg, _⟩ := h.at (k := 0) (by omega)
    refine .inr ⟨g, 0, ha, hg, fun j hj => ?_⟩
    obtain ⟨g', ha', _, _, hc, _⟩ := h.at (k := j) (by rw [← h.len]; exact hj)
    obtain rfl : g = g' := by rw [ha] at ha'; injection ha' with e; injection e
    rw [Nat.zero_add]; exact hc
theorem BufI.set {g : Nat} (h : BufI e B W (some ⟨g, 0, none⟩) n cap zs) (k : Nat) (v : Int) : BufI e B (W.setCell ⟨g, k, none⟩ (.int .i64 v)) (some ⟨g, 0, none⟩) n cap (zs.set k v) := by
  have := (World.ownsRow.stored h k (.int .i64 v)).1
  unfold BufI
  rw [List.map_set]
  exact this
theorem BufI.kept (h : BufI e B W a n cap zs) (k : Below W.heap.size W W') : BufI e B W' a n cap zs := by
  refine ⟨h.1, ?_⟩
  rcases h.2 with e | ⟨g, c, cur, e, hb, hg, rest⟩
  · exact .inl e
  · refine .inr ⟨g, c, cur, e, hb, ?_, rest⟩
    have hlt : g < W.heap.size := by
      rcases Nat.lt_or_ge g W.heap.size with h' | h'
      · exact h'
      · rw [Array.getElem?_eq_none h'] at hg; cases hg
    rw [Below.block k g hlt]; exact hg
theorem BufI.grow (h : BufI e B W a n cap zs) (k : Grew W W') : BufI e B W' a n cap zs := h.kept k
theorem BufI.mono (h : BufI e B W a n cap zs) (hB : B' ≤ B) : BufI e B' W a n cap zs := by
  refine ⟨h.1, ?_⟩
  rcases h.2 with e | ⟨g, c, cur, e1, hb, rest⟩
  · exact .inl e
  · exact .inr ⟨g, c, cur, e1, Nat.le_trans hB hb, rest⟩
end

theorem BufI.made (e : TypeId) (w : World) (n : Nat) (h : n ≤ 35184372088832) : BufI e w.heap.size (w.alloc (.cells (madeCells #[.int .i64 0] n) e)) (some ⟨w.heap.size, 0, none⟩) n n (List.replicate n 0) := by
  have h1 := World.ownsRow_lit (e := e) (size := 1) (base := w.heap.size) w (madeCells #[.int .i64 0] n) n (Nat.le_refl _) (by unfold maxLen; omega) (by simp [size_madeCells])
  unfold BufI
  rw [toList_madeCells_one] at h1
  simpa using h1
end Go.Proofs.Ytdcpankbolfmiaa
