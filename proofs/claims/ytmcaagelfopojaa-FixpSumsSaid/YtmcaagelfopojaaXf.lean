/- slices.Clone of a slice of int64 numbers hands back a slice of the call's own with the same numbers, whatever the slice (nil, empty or not); slices.Reverse turns such a slice of the call's own round. Condition: the slice takes at most 2^47 bytes. -/
import Derived.Test.YtmcaagelfopojaaXe
namespace Go.Proofs.Ytmcaagelfopojaa
open Go.RowKit Go.Shelf

theorem info2 : (Try.prog.info? 2).map (fun i => (i.zero, i.size, i.bytes)) = some (some (.int .i64 0), 1, 8) := by kernel_rfl
/-- A slice value whose cells the call itself made; the numbers in it. -/
def Mine (base : Nat) (w : World) (a : Option Addr) (cap : Nat) (zs : List Int) : Prop := w.ownsRow base 2 1 (.slice a zs.length cap) zs.length (zs.map (Value.int .i64))
theorem Mine.ints {base : Nat} {w : World} {a : Option Addr} {cap : Nat} {zs : List Int} (h : Mine base w a cap zs) : It.Ints w.heap.size w (.slice a zs.length cap) zs := by
  rcases h.2 with ⟨e, h0⟩ | ⟨g, c, cur, e, hb, hg, hn, hm, hs, ht⟩
  · refine .inl ⟨a, cap, by rw [h0], List.eq_nil_of_length_eq_zero h0⟩
  · have hlt : g < w.heap.size := by
      rcases Nat.lt_or_ge g w.heap.size with h' | h'
      · exact h'
      · rw [Array.getElem?_eq_none h'] at hg; cases hg
    injection e with e1 e2 e3
    subst e1 e3
    refine .inr ⟨g, 0, cap, rfl, hlt, fun j hj => ?_⟩
    have hc := World.ownsRow.cellAt h j (by omega)
    rw [Nat.zero_add, hc, List.getElem?_map, List.getElem?_eq_getElem hj]
    rfl
theorem Mine.kept {base : Nat} {w w' : World} {a : Option Addr} {cap : Nat} {zs : List Int} (h : Mine base w a cap zs) (k : Grew w w') : Mine base w' a cap zs := by
  refine ⟨h.1, ?_⟩
  rcases h.2 with e | ⟨g, c, cur, e, hb, hg, rest⟩
  · exact .inl e
  · refine .inr ⟨g, c, cur, e, hb, ?_, rest⟩
    have hlt : g < w.heap.size := by
      rcases Nat.lt_or_ge g w.heap.size with h' | h'
      · exact h'
      · rw [Array.getElem?_eq_none h'] at hg; cases hg
    rw [Below.block k g hlt]; exact hg

set_option maxHeartbeats 400000 in
theorem clone_any (a : Option Addr) (cap : Nat) (zs : List Int) (w : World) (hr : zs.length * 8 ≤ 140737488351232) (hI : It.Ints w.heap.size w (.slice a zs.length cap) zs) :
    Calls Try.prog 19 #[.slice a zs.length cap] w fun e w' => ∃ a' cap', e = .returned (.slice a' zs.length cap') ∧ Mine w.heap.size w' a' cap' zs ∧ Grew w w' := by
  obtain ⟨i0, hi, hz0, hz1, hz2⟩ := info_parts info2
  rcases hI with ⟨a, c, h, rfl⟩ | ⟨b, off, cp, h, hb, hc⟩
  · injection h with h1 h2 h3
    subst h1 h3
    cases a with
    | none => exact (Try.slices_Clone_nil 0 cap w).mono fun e w' ⟨he, hw⟩ => ⟨none, 0, he, ⟨rfl, .inl ⟨rfl, rfl⟩⟩, by rw [hw]; exact Grew.refl _⟩
    | some x =>
      have q33 : ∀ (w : World) (a : Option Addr) (n c n' c' : Nat), (binOp .eql 33 (.slice a n c) (.slice none n' c')).run Try.prog w = .ok (.bool a.isNone) w := fun w a n c n' c' => Lib.run_eql_slice_nil w _ _ a n c n' c' Try.underlying33
      simp only [List.length_nil]
      go_enter Try.func19, Try.ntmps19
      go_wp2_with (at_builtin; refine wpList_append_own _ rfl _ _ 33 rfl w.heap.size 2 i0 (.int .i64 0) 1 8 Try.underlying33 hi hz0 hz1 hz2 rfl (by decide) _ _ _ rfl (World.ownsRow_made w #[] 0 (Nat.le_refl _) (Nat.zero_le _) (by simp)) x 0 cap [] rfl ?qc1 ?qc2 ?qc3 ?qc4 ?qc5 ?qc6 ?_)
      case qc1 => rfl
      case qc2 => intro j u hj; simp at hj
      case qc3 => intro u hu; simp at hu
      case qc4 => simp [maxLen]
      case qc5 => simp
      case qc6 => simp
      intro v' w1 hown hgrow hnil
      go_wp2
      go_ret
      have hg : Grew w w1 := ((Below.refl _ w).alloc (Nat.le_refl _) _).grown hgrow (by simp) (by intro k hk; simp [Value.ownBlock] at hk; omega)
      rcases hown.2 with ⟨rfl, _⟩ | ⟨g, c, cur, rfl, _⟩
      · exact ⟨none, 0, rfl, by simpa [Mine] using hown, hg⟩
      · exact ⟨some ⟨g, 0, none⟩, c, rfl, by simpa [Mine] using hown, hg⟩
  · injection h with h1 h2 h3
    subst h1 h3
    refine (Try.slices_Clone i0 (.int .i64 0) 1 8 hi hz0 hz1 hz2 rfl (by decide) Try.sizeOf2 b off zs.length cap (zs.map (Value.int .i64)) w (by simp) (by unfold maxLen; omega) (by omega) ?_ ?_).mono ?_
    · intro j u hj
      rw [List.getElem?_map] at hj
      by_cases hlt : j < zs.length
      · rw [hc j hlt]
        rw [List.getElem?_eq_getElem hlt] at hj ⊢
        exact hj
      · rw [List.getElem?_eq_none (by omega)] at hj; cases hj
    · intro u hu
      obtain ⟨z, _, rfl⟩ := List.mem_map.1 hu
      rfl
    · rintro e w' ⟨v', rfl, hown, hne, hg⟩
      rcases hown.2 with ⟨rfl, _⟩ | ⟨g, c, cur, rfl, _⟩
      · exact absurd rfl hne
      · exact ⟨some ⟨g, 0, none⟩, c, rfl, hown, hg⟩

theorem reverse_any (base : Nat) (a : Option Addr) (cap : Nat) (zs : List Int) (w : World) (hr : zs.length * 8 ≤ 140737488351232) (h : Mine base w a cap zs) :
    Calls Try.prog 20 #[.slice a zs.length cap] w fun e w' => e = .returned (.tuple #[]) ∧ Mine base w' a cap zs.reverse ∧ Below base w w' := by
  by_cases hn : (Value.slice a zs.length cap) = .slice none 0 0
  · injection hn with h1 h2 h3
    have hz : zs = [] := List.eq_nil_of_length_eq_zero h2
    subst hz
    exact (Try.slices_Reverse_empty (α := Int) a cap w).mono fun e w' ⟨he, hw⟩ => ⟨he, by rw [hw]; exact h, by rw [hw]; exact Below.refl _ _⟩
  · obtain ⟨g, c, e, hbg, hgl, hnc, hcm, hlen, hH⟩ := Lib.holds_of_ownsRow h hn
    injection e with e1 e2 e3
    subst e1 e3
    refine (Try.slices_Reverse (Value.int .i64) (fun _ => rfl) g 0 cap zs w hH (by omega)).mono ?_
    rintro e w' ⟨rfl, q, rfl⟩
    have hy : zs.reverse.length = zs.length := by simp
    have h1 := Lib.ownsRow_putRow (q := q) (ys := zs.reverse) h hy (Nat.le_refl _)
    rw [List.take_of_length_le (Nat.le_of_eq hy)] at h1
    refine ⟨rfl, ?_, Lib.below_putRow (Below.refl _ _) hbg⟩
    unfold Mine
    rw [hy]
    exact h1
theorem ints_grow {a b : World} {sv : Value} {zs : List Int} (h : It.Ints a.heap.size a sv zs) (g : Grew a b) : It.Ints b.heap.size b sv zs := by
  rcases h with h | ⟨bb, off, cap, e, hb, hc⟩
  · exact .inl h
  · exact .inr ⟨bb, off, cap, e, Nat.lt_of_lt_of_le hb g.size, fun j hj => (g.cell (p := ⟨bb, off + j, none⟩) hb).trans (hc j hj)⟩
theorem ints_take {w : World} {b off cap k : Nat} {zs : List Int} (hb : b < w.heap.size) (hc : ∀ j, j < zs.length → w.cell? ⟨b, off + j, none⟩ = some (.int .i64 (zs[j]?.getD 0))) (hk : k ≤ zs.length) :
    It.Ints w.heap.size w (.slice (some ⟨b, off, none⟩) k cap) (zs.take k) := by
  refine .inr ⟨b, off, cap, by rw [List.length_take, Nat.min_eq_left hk], hb, fun j hj => ?_⟩
  rw [List.length_take] at hj
  rw [hc j (by omega), List.getElem?_take_of_lt (by omega)]
theorem ints_drop {w : World} {b off cap k : Nat} {zs : List Int} (hb : b < w.heap.size) (hc : ∀ j, j < zs.length → w.cell? ⟨b, off + j, none⟩ = some (.int .i64 (zs[j]?.getD 0))) :
    It.Ints w.heap.size w (.slice (some ⟨b, off + k, none⟩) (zs.length - k) (cap - k)) (zs.drop k) := by
  refine .inr ⟨b, off + k, cap - k, by rw [List.length_drop], hb, fun j hj => ?_⟩
  rw [List.length_drop] at hj
  rw [Nat.add_assoc, hc (k + j) (by omega), List.getElem?_drop]
theorem parts_eq (zs : List Int) (k : Nat) : wrap64 (It.sumW (zs.take k) + It.sumW (zs.drop k)) = It.sumW zs := by rw [← sumW_pair, sumW_parts]
end Go.Proofs.Ytmcaagelfopojaa
