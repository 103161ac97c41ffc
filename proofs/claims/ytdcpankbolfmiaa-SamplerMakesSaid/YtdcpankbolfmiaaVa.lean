/- Vectors of int64 numbers in memory: what can be read (Rd), what a call has made for itself (Buf); misfits and Clone. Condition: a vector that is copied has at most 2^45 elements. -/
import Derived.Test.YtdcpankbolfmiaaGw
import Derived.Laws.CopyOwn
import Derived.Laws.OwnMore
import Derived.Deep.OwnRows
namespace Go.Proofs.Ytdcpankbolfmiaa
open Go.RowKit

/-- The element at an index. -/
def el (zs : List Int) (k : Nat) : Int := zs[k]?.getD 0
theorem el_lt {zs : List Int} {k : Nat} (h : k < zs.length) : zs[k]? = some (el zs k) := by unfold el; rw [List.getElem?_eq_getElem h]; rfl
theorem el_set_same {zs : List Int} {k : Nat} (v : Int) (h : k < zs.length) : el (zs.set k v) k = v := by unfold el; rw [List.getElem?_set_self h]; rfl
theorem el_set_other {zs : List Int} {k j : Nat} (v : Int) (h : k ≠ j) : el (zs.set k v) j = el zs j := by unfold el; rw [List.getElem?_set_ne h]
theorem el_ext {xs ys : List Int} (hl : xs.length = ys.length) (h : ∀ j, j < xs.length → el xs j = el ys j) : xs = ys := by
  apply List.ext_getElem? 
  intro j
  by_cases hj : j < xs.length
  · rw [el_lt hj, el_lt (hl ▸ hj), h j hj]
  · rw [List.getElem?_eq_none (by omega), List.getElem?_eq_none (by omega)]

/-- Within the bounds of int64. -/
def In64 (z : Int) : Prop := -9223372036854775808 ≤ z ∧ z ≤ 9223372036854775807
def Fit (zs : List Int) : Prop := ∀ j, j < zs.length → In64 (el zs j)

/-- The numbers can be read: there are none, or they lie in a block below B. -/
def Rd (B : Nat) (W : World) (a : Option Addr) (zs : List Int) : Prop :=
  zs = [] ∨ ∃ b off, a = some ⟨b, off, none⟩ ∧ b < B ∧ ∀ j, j < zs.length → W.cell? ⟨b, off + j, none⟩ = some (.int .i64 (el zs j))
section
variable {B B' n cap k : Nat} {W W' : World} {a : Option Addr} {zs : List Int}
theorem Rd.at (h : Rd B W a zs) (hk : k < zs.length) : ∃ b off, a = some ⟨b, off, none⟩ ∧ b < B ∧ W.cell? ⟨b, off + k, none⟩ = some (.int .i64 (el zs k)) := by
  rcases h with rfl | ⟨b, off, ha, hb, hc⟩
  · simp at hk
  · exact ⟨b, off, ha, hb, hc k hk⟩
theorem Rd.below (h : Rd B W a zs) (g : Below B W W') : Rd B W' a zs := by
  rcases h with h | ⟨b, off, ha, hb, hc⟩
  · exact .inl h
  · exact .inr ⟨b, off, ha, hb, fun j hj => (g.cell (p := ⟨b, off + j, none⟩) hb).trans (hc j hj)⟩
theorem Rd.mono (h : Rd B W a zs) (hB : B ≤ B') : Rd B' W a zs := by
  rcases h with h | ⟨b, off, ha, hb, hc⟩
  · exact .inl h
  · exact .inr ⟨b, off, ha, Nat.lt_of_lt_of_le hb hB, hc⟩
theorem Rd.keep (h : Rd W.heap.size W a zs) (g : Grew W W') : Rd W.heap.size W' a zs := Rd.below h g
theorem Rd.grow (h : Rd W.heap.size W a zs) (g : Grew W W') : Rd W'.heap.size W' a zs := (Rd.below h g).mono g.size
theorem Rd.empty : Rd B W a [] := .inl rfl

/-- Numbers in a block that a call has made for itself, from block B on; they may be written. -/
def Buf (B : Nat) (W : World) (a : Option Addr) (n cap : Nat) (zs : List Int) : Prop := W.ownsRow B 2 1 (.slice a n cap) n (zs.map (Value.int .i64))
theorem Buf.len (h : Buf B W a n cap zs) : zs.length = n := by have := h.1; simpa using this
theorem Buf.at (h : Buf B W a n cap zs) (hk : k < n) : ∃ g, a = some ⟨g, 0, none⟩ ∧ B ≤ g ∧ g < W.heap.size ∧ W.cell? ⟨g, k, none⟩ = some (.int .i64 (el zs k)) ∧ W.frozen? ⟨g, k, none⟩ = false := by
  rcases h.2 with ⟨_, h0⟩ | ⟨g, c, cur, e, hb, hg, _⟩
  · omega
  · injection e with e1 e2 e3
    subst e1 e3
    have hlt : g < W.heap.size := by
      rcases Nat.lt_or_ge g W.heap.size with h' | h'
      · exact h'
      · rw [Array.getElem?_eq_none h'] at hg; cases hg
    refine ⟨g, rfl, hb, hlt, ?_, World.ownsRow.frozenAt h k⟩
    rw [World.ownsRow.cellAt h k (by omega), List.getElem?_map, el_lt (by rw [h.len]; exact hk)]
    rfl
theorem Buf.rd (h : Buf B W a n cap zs) : Rd W.heap.size W a zs := by
  by_cases h0 : n = 0
  · exact .inl (List.eq_nil_of_length_eq_zero (h.len.trans h0))
  · obtain ⟨g, ha, _, hg, _⟩ := h.at (k := 0) (by omega)
    refine .inr ⟨g, 0, ha, hg, fun j hj => ?_⟩
    obtain ⟨g', ha', _, _, hc, _⟩ := h.at (k := j) (by rw [← h.len]; exact hj)
    obtain rfl : g = g' := by rw [ha] at ha'; injection ha' with e; injection e
    rw [Nat.zero_add]; exact hc
theorem Buf.set {g : Nat} (h : Buf B W (some ⟨g, 0, none⟩) n cap zs) (k : Nat) (v : Int) : Buf B (W.setCell ⟨g, k, none⟩ (.int .i64 v)) (some ⟨g, 0, none⟩) n cap (zs.set k v) := by
  have := (World.ownsRow.stored h k (.int .i64 v)).1
  unfold Buf
  rw [List.map_set]
  exact this
theorem Buf.kept (h : Buf B W a n cap zs) (k : Below W.heap.size W W') : Buf B W' a n cap zs := by
  refine ⟨h.1, ?_⟩
  rcases h.2 with e | ⟨g, c, cur, e, hb, hg, rest⟩
  · exact .inl e
  · refine .inr ⟨g, c, cur, e, hb, ?_, rest⟩
    have hlt : g < W.heap.size := by
      rcases Nat.lt_or_ge g W.heap.size with h' | h'
      · exact h'
      · rw [Array.getElem?_eq_none h'] at hg; cases hg
    rw [Below.block k g hlt]; exact hg
theorem Buf.grow (h : Buf B W a n cap zs) (k : Grew W W') : Buf B W' a n cap zs := h.kept k
theorem Buf.mono (h : Buf B W a n cap zs) (hB : B' ≤ B) : Buf B' W a n cap zs := by
  refine ⟨h.1, ?_⟩
  rcases h.2 with e | ⟨g, c, cur, e, hb, rest⟩
  · exact .inl e
  · exact .inr ⟨g, c, cur, e, Nat.le_trans hB hb, rest⟩
end

theorem grown_refl (w : World) (r : Option Nat) : w.grownBy w r := ⟨rfl, rfl, rfl, Nat.le_refl _, fun _ _ _ => rfl⟩
theorem Grew.grown {a b c : World} {r : Option Nat} (h : Grew a b) (k : b.grownBy c r) : a.grownBy c r :=
  ⟨k.os.trans h.os, k.tape.trans h.tape, k.output.trans h.output, Nat.le_trans h.size k.size, fun j hj hr => (k.block j (Nat.lt_of_lt_of_le hj h.size) hr).trans (Below.block h j hj)⟩
theorem Buf.made (w : World) (n : Nat) (h : n ≤ 35184372088832) : Buf w.heap.size (w.alloc (.cells (madeCells #[.int .i64 0] n) 2)) (some ⟨w.heap.size, 0, none⟩) n n (List.replicate n 0) := by
  have h1 := World.ownsRow_lit (e := 2) (size := 1) (base := w.heap.size) w (madeCells #[.int .i64 0] n) n (Nat.le_refl _) (by unfold maxLen; omega) (by simp [size_madeCells])
  unfold Buf
  rw [toList_madeCells_one] at h1
  simpa using h1

end Go.Proofs.Ytdcpankbolfmiaa
