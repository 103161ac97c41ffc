/- Vectors of int64 numbers in memory: what can be read (Rd), what a call has made for itself (Buf); misfits and Clone. Condition: a vector that is copied has at most 2^45 elements. -/
import Derived.Test.YtciocdjpgknihaaGw
import Derived.Laws.CopyOwn
import Derived.Laws.OwnMore
import Derived.Deep.OwnRows
namespace Go.Proofs.Ytciocdjpgknihaa
open Go.RowKit

/-- The element at an index. -/
def el (zs : List Int) (k : Nat) : Int := zs[k]?.getD 0
theorem el_lt {zs : List Int} {k : Nat} (h : k < zs.length) : zs[k]? = some (el zs k) := by unfold el; rw [List.getElem?_eq_getElem h]; rfl
theorem el_set_same {zs : List Int} {k : Nat} (v : Int) (h : k < zs.length) : el (zs.set k v) k = v := by unfold el; rw [List.getElem?_set_self h]; rfl
theorem el_set_other {zs : List Int} {k j : Nat} (v : Int) (h : k ≠ j) : el (zs.set k v) j = el zs j := by unfold el; rw [List.getElem?_set_ne h]
theorem el_ext {xs ys : List Int} (hl : xs.length = ys.length) (h : ∀ j, j < xs.length → el xs j = el ys j) : xs = ys := by
  apply List.ext_getElem? 
  intro j
  by_cases hj : j < xs.length
  · rw [el_lt hj, el_lt (hl ▸ hj), h j hj]
  · rw [List.getElem?_eq_none (by omega), List.getElem?_eq_none (by omega)]

/-- Within the bounds of int64. -/
def In64 (z : Int) : Prop := -9223372036854775808 ≤ z ∧ z ≤ 9223372036854775807
def Fit (zs : List Int) : Prop := ∀ j, j < zs.length → In64 (el zs j)

/-- The numbers can be read: there are none, or they lie in a block below B. -/
def Rd (B : Nat) (W : World) (a : Option Addr) (zs : List Int) : Prop :=
  zs = [] ∨ ∃ b off, a = some ⟨b, off, none⟩ ∧ b < B ∧ ∀ j, j < zs.length → W.cell? ⟨b, off + j, none⟩ = some (.int .i64 (el zs j))
section
variable {B B' n cap k : Nat} {W W' : World} {a : Option Addr} {zs : List Int}
theorem Rd.at (h : Rd B W a zs) (hk : k < zs.length) : ∃ b off, a = some ⟨b, off, none⟩ ∧ b < B ∧ W.cell? ⟨b, off + k, none⟩ = some (.int .i64 (el zs k)) := by
  rcases h with rfl | ⟨b, off, ha, hb, hc⟩
  · simp at hk
  · exact ⟨b, off, ha, hb, hc k hk⟩
theorem Rd.below (h : Rd B W a zs) (g : Below B W W') : Rd B W' a zs := by
  rcases h with h | ⟨b, off, ha, hb, hc⟩
  · exact .inl h
  · exact .inr ⟨b, off, ha, hb, fun j hj => (g.cell (p := ⟨b, off + j, none⟩) hb).trans (hc j hj)⟩
theorem Rd.mono (h : Rd B W a zs) (hB : B ≤ B') : Rd B' W a zs := by
  rcases h with h | ⟨b, off, ha, hb, hc⟩
  · exact .inl h
  · exact .inr ⟨b, off, ha, Nat.lt_of_lt_of_le hb hB, hc⟩
theorem Rd.keep (h : Rd W.heap.size W a zs) (g : Grew W W') : Rd W.heap.size W' a zs := Rd.below h g
theorem Rd.grow (h : Rd W.heap.size W a zs) (g : Grew W W') : Rd W'.heap.size W' a zs := (Rd.below h g).mono g.size
theorem Rd.empty : Rd B W a [] := .inl rfl

/-- Numbers in a block that a call has made for itself, from block B on; they may be written. -/
def Buf (B : Nat) (W : World) (a : Option Addr) (n cap : Nat) (zs : List Int) : Prop := W.ownsRow B 2 1 (.slice a n cap) n (zs.map (Value.int .i64))
theorem Buf.len (h : Buf B W a n cap zs) : zs.length = n := by have := h.1; simpa using this
theorem Buf.at (h : Buf B W a n cap zs) (hk : k < n) : ∃ g, a = some ⟨g, 0, none⟩ ∧ B ≤ g ∧ g < W.heap.size ∧ W.cell? ⟨g, k, none⟩ = some (.int .i64 (el zs k)) ∧ W.frozen? ⟨g, k, none⟩ = false := by
  rcases h.2 with ⟨_, h0⟩ | ⟨g, c, cur, e, hb, hg, _⟩
  · omega
  · injection e with e1 e2 e3
    subst e1 e3
    have hlt : g < W.heap.size := by
      rcases Nat.lt_or_ge g W.heap.size with h' | h'
      · exact h'
      · rw [Array.getElem?_eq_none h'] at hg; cases hg
    refine ⟨g, rfl, hb, hlt, ?_, World.ownsRow.frozenAt h k⟩
    rw [World.ownsRow.cellAt h k (by omega), List.getElem?_map, el_lt (by rw [h.len]; exact hk)]
    rfl
theorem Buf.rd (h : Buf B W a n cap zs) : Rd W.heap.size W a zs := by
  by_cases h0 : n = 0
  · exact .inl (List.eq_nil_of_length_eq_zero (h.len.trans h0))
  · obtain ⟨g, ha, _, hg, _⟩ := h.at (k := 0) (by omega)
    refine .inr ⟨g, 0, ha, hg, fun j hj => ?_⟩
    obtain ⟨g', ha', _, _, hc, _⟩ := h.at (k := j) (by rw [← h.len]; exact hj)
    obtain rfl : g = g' := by rw [ha] at ha'; injection ha' with e; injection e
    rw [Nat.zero_add]; exact hc
theorem Buf.set {g : Nat} (h : Buf B W (some ⟨g, 0, none⟩) n cap zs) (k : Nat) (v : Int) : Buf B (W.setCell ⟨g, k, none⟩ (.int .i64 v)) (some ⟨g, 0, none⟩) n cap (zs.set k v) := by
  have := (World.ownsRow.stored h k (.int .i64 v)).1
  unfold Buf
  rw [List.map_set]
  exact this
theorem Buf.kept (h : Buf B W a n cap zs) (k : Below W.heap.size W W') : Buf B W' a n cap zs := by
  refine ⟨h.1, ?_⟩
  rcases h.2 with e | ⟨g, c, cur, e, hb, hg, rest⟩
  · exact .inl e
  · refine .inr ⟨g, c, cur, e, hb, ?_, rest⟩
    have hlt : g < W.heap.size := by
      rcases Nat.lt_or_ge g W.heap.size with h' | h'
      · exact h'
      · rw [Array.getElem?_eq_none h'] at hg; cases hg
    rw [Below.block k g hlt]; exact hg
theorem Buf.grow (h : Buf B W a n cap zs) (k : Grew W W') : Buf B W' a n cap zs := h.kept k
theorem Buf.mono (h : Buf B W a n cap zs) (hB : B' ≤ B) : Buf B' W a n cap zs := by
  refine ⟨h.1, ?_⟩
  rcases h.2 with e | ⟨g, c, cur, e, hb, rest⟩
  · exact .inl e
  · exact .inr ⟨g, c, cur, e, Nat.le_trans hB hb, rest⟩
end

theorem misfits_any (a a' : Option Addr) (n c n' c' : Nat) (w : World) :
    Calls Try.prog 66 #[.slice a n c, .slice a' n' c'] w fun e w' => e = .returned (.bool (!decide (n = n'))) ∧ w = w' := by
  go_enter Try.func66, Try.ntmps66
  go_wp2
  go_ret
  exact ⟨ret_bool (by by_cases h : n = n' <;> simp [h] <;> omega), rfl⟩

theorem grown_refl (w : World) (r : Option Nat) : w.grownBy w r := ⟨rfl, rfl, rfl, Nat.le_refl _, fun _ _ _ => rfl⟩
theorem Grew.grown {a b c : World} {r : Option Nat} (h : Grew a b) (k : b.grownBy c r) : a.grownBy c r :=
  ⟨k.os.trans h.os, k.tape.trans h.tape, k.output.trans h.output, Nat.le_trans h.size k.size, fun j hj hr => (k.block j (Nat.lt_of_lt_of_le hj h.size) hr).trans (Below.block h j hj)⟩
/-- copy, between vectors of the same length, the first of which the call has made for itself. -/
theorem run_copy_vec {B n cap scap : Nat} {W : World} {a s : Option Addr} {xs ys : List Int} (hd : Buf B W a n cap xs) (hs : Rd W.heap.size W s ys) (hl : ys.length = n) :
    ∃ W', (Builtin.copy_ #[32, 32] 3 #[.slice a n cap, .slice s n scap]).run Try.prog W = .ok (.int .i64 n) W' ∧ Buf B W' a n cap ys ∧ Below B W W' ∧ W.grownBy W' (Value.slice a n cap).ownBlock := by
  by_cases h0 : n = 0
  · subst h0
    refine ⟨W, run_copy_none W _ _ _ 2 a s 0 cap 0 scap Try.underlying32 (by kernel_rfl) rfl, ?_, Below.refl _ _, ⟨rfl, rfl, rfl, Nat.le_refl _, fun _ _ _ => rfl⟩⟩
    obtain rfl := List.eq_nil_of_length_eq_zero hl
    obtain rfl := List.eq_nil_of_length_eq_zero hd.len
    exact hd
  · rcases hd.2 with ⟨_, h1⟩ | ⟨g, c, cur, e, hb, hg, hnc, hcm, hcs, htk⟩
    · omega
    · injection e with e1 e2 e3
      subst e1 e3
      rcases hs with rfl | ⟨b, off, rfl, hbl, hc⟩
      · simp at hl; omega
      · have hr := run_copy_row (P := Try.prog) W 32 32 3 2 g 0 n cap ⟨b, off, none⟩ n scap cur 2 (ys.map (Value.int .i64)) Try.underlying32 (by kernel_rfl) hg (by simp [hl])
          (fun j v hj => by
            have hlt : j < ys.length := by
              rcases Nat.lt_or_ge j ys.length with h' | h'
              · exact h'
              · rw [List.getElem?_eq_none (by simpa using h')] at hj; cases hj
            rw [List.getElem?_map, el_lt hlt] at hj
            rw [Addr.add_lit, hc j hlt]
            exact hj)
          (by simp [hl]; omega) (by intro v hv; obtain ⟨z, _, rfl⟩ := List.mem_map.1 hv; rfl)
        rw [List.length_map, hl] at hr
        refine ⟨_, hr, ⟨by simp [hl], .inr ⟨g, cap, _, rfl, hb, setRow_heap W g cur _ _ _ hg, hnc, hcm, ?_, ?_⟩⟩, below_setRow (Below.refl _ _) hb _, ⟨rfl, rfl, rfl, by simp, fun k _ hk => setRow_other W g k _ (fun e => hk (by simp [Value.ownBlock, e]))⟩⟩
        · simp [hl]; omega
        · simp [hl]

theorem Buf.made (w : World) (n : Nat) (h : n ≤ 35184372088832) : Buf w.heap.size (w.alloc (.cells (madeCells #[.int .i64 0] n) 2)) (some ⟨w.heap.size, 0, none⟩) n n (List.replicate n 0) := by
  have h1 := World.ownsRow_lit (e := 2) (size := 1) (base := w.heap.size) w (madeCells #[.int .i64 0] n) n (Nat.le_refl _) (by unfold maxLen; omega) (by simp [size_madeCells])
  unfold Buf
  rw [toList_madeCells_one] at h1
  simpa using h1

theorem vclone_any (a : Option Addr) (cap : Nat) (zs : List Int) (w : World) (hl : zs.length ≤ 35184372088832) (h : Rd w.heap.size w a zs) :
    Calls Try.prog 28 #[.slice a zs.length cap] w fun e w' => e = .returned (.slice (some ⟨w.heap.size, 0, none⟩) zs.length zs.length) ∧ Buf w.heap.size w' (some ⟨w.heap.size, 0, none⟩) zs.length zs.length zs ∧ Grew w w' := by
  have hmk := run_make_row' (P := Try.prog) 32 2 (.int .i64 0) 8 Try.underlying32 (by kernel_rfl) rfl .i64 .i64 zs.length (by omega) (by omega)
  have g0 : Grew w (w.alloc (.cells (madeCells #[.int .i64 0] zs.length) 2)) := (Grew.refl w).alloc _
  obtain ⟨W', hcp, hb, hg, _⟩ := run_copy_vec (scap := cap) (Buf.made w zs.length hl) (h.grow g0) rfl
  have HG := Lib.hid (Below.trans g0 hg)
  have HB := Lib.hid hb
  clear h hb hg g0
  go_enter Try.func28, Try.ntmps28
  go_wp2
  go_ret
  exact ⟨rfl, HB.out, HG.out⟩
end Go.Proofs.Ytciocdjpgknihaa
