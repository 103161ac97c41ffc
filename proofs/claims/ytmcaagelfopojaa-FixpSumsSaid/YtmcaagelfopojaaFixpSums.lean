/-
  For every slice l of int64 numbers and every uint8 n, sakialaw01.FixpSums(l, n) returns true. No condition.
-/
import Derived.Test.YtmcaagelfopojaaRows
import Derived.Test.YtmcaagelfopojaaXf
import Derived.Deep.RegionHeld3
import Derived.WalkKit
import Derived.ProofKit
import Derived.OpenShut
import Derived.ShutString
import Derived.ChangeOld
import Derived.Below
namespace Go.Proofs.Ytmcaagelfopojaa.fixpSums
open Go.ChangeShapes Go.WideShapes Go.ChangeAt Go.RowKit Go.Shelf
open Go.ChangeMaps (open_string shut_string)
set_option linter.unusedVariables false


theorem block_in {w : World} {b o : Nat} {v : Value} (h : w.cell? ⟨b, o, none⟩ = some v) : b < w.heap.size := by
  unfold World.cell? at h
  rcases Nat.lt_or_ge b w.heap.size with h' | h'
  · exact h'
  · simp [Array.getElem?_eq_none h'] at h
set_option maxHeartbeats 1000000 in
theorem many (a : Option Addr) (len cap : Nat) (n : Int) (w : World) (h : 500 < len) :
    Calls Try.prog 6 #[.slice a len cap, .int .u8 n] w fun e w' => e = .returned (.bool true) ∧ Grew w w' := by
  have h5 : (500 : Int) < (len : Int) := by omega
  go_enter Try.func6, Try.ntmps6
  go_wp2_with fail
  refine (alive_any _).mono ?_
  rintro e w1 ⟨rfl, g1⟩
  go_wp2_with fail
  go_ret
  exact ⟨rfl, g1⟩

set_option maxHeartbeats 2000000 in
theorem few_part (b off cap : Nat) (zs : List Int) (nn k : Nat) (w : World) (h5 : zs.length ≤ 500) (hnn : nn ≤ 255) (h0 : 0 < zs.length) (hlc : zs.length ≤ cap) (hb : b < w.heap.size) (hc : ∀ j, j < zs.length → w.cell? ⟨b, off + j, none⟩ = some (.int .i64 (zs[j]?.getD 0)))
    (hk : (nn : Int) % ((zs.length : Int) + 1) = k) (hk2 : k ≤ zs.length) (hck : ¬ cap = k) :
    Calls Try.prog 6 #[.slice (some ⟨b, off, none⟩) zs.length cap, .int .u8 nn] w fun e w' => e = .returned (.bool true) ∧ Grew w w' := by
  have hI : It.Ints w.heap.size w (.slice (some ⟨b, off, none⟩) zs.length cap) zs := .inr ⟨b, off, cap, rfl, hb, hc⟩
  have hr : zs.length * 8 ≤ 140737488351232 := by omega
  have AI : Aside (It.Ints w.heap.size w (.slice (some ⟨b, off, none⟩) zs.length cap) zs) := hI
  have AT : Aside (It.Ints w.heap.size w (.slice (some ⟨b, off, none⟩) k cap) (zs.take k)) := ints_take hb hc hk2
  have AD : Aside (It.Ints w.heap.size w (.slice (some ⟨b, off + k, none⟩) (zs.length - k) (cap - k)) (zs.drop k)) := ints_drop hb hc
  have hi1 : (k : Int) ≤ (cap : Int) := by omega
  have hi2 : (k : Int) ≤ (zs.length : Int) := by omega
  clear hc hI
  have HK := Lib.hid hk
  clear hk
  go_enter Try.func6, Try.ntmps6
  go_wp2_with fail
  refine (sum_any _ _ _ zs _ hr AI.out).mono ?_
  rintro e w1 ⟨rfl, g1⟩
  go_wp2_with fail
  refine (clone_any _ _ zs _ hr (ints_grow AI.out g1)).mono ?_
  rintro e w2 ⟨a', cap', rfl, m2, g2⟩
  go_wp2_with fail
  refine (reverse_any _ _ _ zs _ hr m2).mono ?_
  rintro e w3 ⟨rfl, m3, g3⟩
  have G3 : Grew w w3.drew := (g1.trans (g2.trans_below g3 (Nat.le_refl _))).trans (Below.drew (Below.refl _ _))
  clear g1 g2 g3 m2
  go_wp2_with fail
  rw [HK.out]
  go_region_held3 (fun _ => True) (trivial) (first
    | (go_at_call 11; refine (alive_any _).mono ?_; rintro e w4 ⟨rfl, g4⟩)
    | (go_at_call 21; refine (rsum_any _ _ _ zs _ hr (ints_grow AI.out (G3.trans g4))).mono ?_; rintro e w5 ⟨rfl, rfl⟩)
    | (go_at_call 18; (with_reducible refine (sum_any a' zs.length cap' zs.reverse _ ?_ ?_).mono ?_); (simpa using hr); (have hh := (Mine.kept m3 (Grew.trans (Below.drew (Below.refl _ _)) g4)).ints; rw [List.length_reverse] at hh; exact hh); rintro e w5 ⟨rfl, g5⟩; rw [sumW_reverse])
    | (go_at_call 18; (with_reducible refine (sum_any (some ⟨b, off, none⟩) k cap (zs.take k) _ ?_ ?_).mono ?_); (rw [List.length_take]; omega); exact ints_grow AT.out ((G3.trans g4).trans g5); rintro e w6 ⟨rfl, g6⟩)
    | (go_at_call 18; (with_reducible refine (sum_any (some ⟨b, off + k, none⟩) (zs.length - k) (cap - k) (zs.drop k) _ ?_ ?_).mono ?_); (rw [List.length_drop]; omega); exact ints_grow AD.out (((G3.trans g4).trans g5).trans g6); rintro e w7 ⟨rfl, g7⟩)
    | (go_at_call 18; (with_reducible refine (pair_any _ _ _).mono ?_); rintro e w8 ⟨rfl, g8⟩; rw [parts_eq]))
  go_wp2
  go_ret
  exact ⟨by simp, (((G3.trans g4).trans g5).trans g6).trans (g7.trans g8)⟩

theorem whole_eq (zs : List Int) : wrap64 (It.sumW zs + It.sumW []) = It.sumW zs := by rw [sumW_eq, sumW_eq]; simp only [List.sum_nil]; unfold wrap64; omega
set_option maxHeartbeats 2000000 in
theorem few_whole (b off : Nat) (zs : List Int) (nn : Nat) (w : World) (h5 : zs.length ≤ 500) (hnn : nn ≤ 255) (h0 : 0 < zs.length) (hb : b < w.heap.size) (hc : ∀ j, j < zs.length → w.cell? ⟨b, off + j, none⟩ = some (.int .i64 (zs[j]?.getD 0)))
    (hk : (nn : Int) % ((zs.length : Int) + 1) = zs.length) :
    Calls Try.prog 6 #[.slice (some ⟨b, off, none⟩) zs.length zs.length, .int .u8 nn] w fun e w' => e = .returned (.bool true) ∧ Grew w w' := by
  have hI : It.Ints w.heap.size w (.slice (some ⟨b, off, none⟩) zs.length zs.length) zs := .inr ⟨b, off, zs.length, rfl, hb, hc⟩
  have hr : zs.length * 8 ≤ 140737488351232 := by omega
  have AI : Aside (It.Ints w.heap.size w (.slice (some ⟨b, off, none⟩) zs.length zs.length) zs) := hI
  have AT : Aside (It.Ints w.heap.size w (.slice (some ⟨b, off, none⟩) zs.length zs.length) zs) := hI
  have AD : Aside (It.Ints w.heap.size w (.slice (some ⟨b, off, none⟩) 0 0) []) := .inl ⟨_, _, rfl, rfl⟩
  clear hc hI
  have HK := Lib.hid hk
  clear hk
  go_enter Try.func6, Try.ntmps6
  go_wp2_with fail
  refine (sum_any _ _ _ zs _ hr AI.out).mono ?_
  rintro e w1 ⟨rfl, g1⟩
  go_wp2_with fail
  refine (clone_any _ _ zs _ hr (ints_grow AI.out g1)).mono ?_
  rintro e w2 ⟨a', cap', rfl, m2, g2⟩
  go_wp2_with fail
  refine (reverse_any _ _ _ zs _ hr m2).mono ?_
  rintro e w3 ⟨rfl, m3, g3⟩
  have G3 : Grew w w3.drew := (g1.trans (g2.trans_below g3 (Nat.le_refl _))).trans (Below.drew (Below.refl _ _))
  clear g1 g2 g3 m2
  go_wp2_with fail
  rw [HK.out]
  go_region_held3 (fun _ => True) (trivial) (first
    | (go_at_call 11; refine (alive_any _).mono ?_; rintro e w4 ⟨rfl, g4⟩)
    | (go_at_call 21; refine (rsum_any _ _ _ zs _ hr (ints_grow AI.out (G3.trans g4))).mono ?_; rintro e w5 ⟨rfl, rfl⟩)
    | (go_at_call 18; (with_reducible refine (sum_any a' zs.length cap' zs.reverse _ ?_ ?_).mono ?_); (simpa using hr); (have hh := (Mine.kept m3 (Grew.trans (Below.drew (Below.refl _ _)) g4)).ints; rw [List.length_reverse] at hh; exact hh); rintro e w5 ⟨rfl, g5⟩; rw [sumW_reverse])
    | (go_at_call 18; (with_reducible refine (sum_any (some ⟨b, off, none⟩) zs.length zs.length zs _ ?_ ?_).mono ?_); exact hr; exact ints_grow AT.out ((G3.trans g4).trans g5); rintro e w6 ⟨rfl, g6⟩)
    | (go_at_call 18; (with_reducible refine (sum_any (some ⟨b, off, none⟩) 0 0 [] _ ?_ ?_).mono ?_); (exact Nat.zero_le _); exact ints_grow AD.out (((G3.trans g4).trans g5).trans g6); rintro e w7 ⟨rfl, g7⟩)
    | (go_at_call 18; (with_reducible refine (pair_any _ _ _).mono ?_); rintro e w8 ⟨rfl, g8⟩; rw [whole_eq]))
  go_wp2
  go_ret
  exact ⟨by simp, (((G3.trans g4).trans g5).trans g6).trans (g7.trans g8)⟩
theorem empty_pair : wrap64 (It.sumW [] + It.sumW []) = It.sumW [] := by rw [sumW_eq]; unfold wrap64; simp
theorem step {a b c : World} (k : Grew b c) (h : Grew a b) : Grew a c := h.trans k
set_option maxHeartbeats 2000000 in
theorem none_nil  (nn : Nat) (w : World) (hnn : nn ≤ 255) :
    Calls Try.prog 6 #[.slice none 0 0, .int .u8 nn] w fun e w' => e = .returned (.bool true) ∧ Grew w w' := by
  have hr : ([] : List Int).length * 8 ≤ 140737488351232 := by simp
  go_enter Try.func6, Try.ntmps6
  go_wp2_with fail
  refine (sum_any _ _ _ [] _ hr (.inl ⟨_, _, rfl, rfl⟩)).mono ?_
  rintro e w1 ⟨rfl, g1⟩
  go_wp2_with fail
  refine (clone_any _ _ [] _ hr (.inl ⟨_, _, rfl, rfl⟩)).mono ?_
  rintro e w2 ⟨a', cap', rfl, m2, g2⟩
  go_wp2_with fail
  refine (reverse_any _ _ _ [] _ hr m2).mono ?_
  rintro e w3 ⟨rfl, m3, g3⟩
  have G3 : Grew w w3.drew := (g1.trans (g2.trans_below g3 (Nat.le_refl _))).trans (Below.drew (Below.refl _ _))
  clear g1 g2 g3 m2 m3
  go_wp2_with fail
  go_region_held3 (fun _ => True) (trivial) (first
    | (go_at_call 11; refine (alive_any _).mono ?_; rintro e w4 ⟨rfl, g4⟩)
    | (go_at_call 21; refine (rsum_any _ _ _ [] _ hr (.inl ⟨_, _, rfl, rfl⟩)).mono ?_; rintro e w5 ⟨rfl, rfl⟩)
    | (go_at_call 18; (with_reducible refine (pair_any _ _ _).mono ?_); rintro e w8 ⟨rfl, g8⟩; rw [empty_pair])
    | (go_at_call 18; refine (sum_any _ _ _ [] _ hr (.inl ⟨_, _, rfl, rfl⟩)).mono ?_; rintro e w5 ⟨rfl, g5⟩))
  go_wp2
  go_ret
  exact ⟨by simp, by repeat (first | assumption | refine step (by assumption) ?_)⟩

set_option maxHeartbeats 2000000 in
theorem zero_none (x : Addr) (nn : Nat) (w : World) (hnn : nn ≤ 255) :
    Calls Try.prog 6 #[.slice (some x) 0 0, .int .u8 nn] w fun e w' => e = .returned (.bool true) ∧ Grew w w' := by
  have hr : ([] : List Int).length * 8 ≤ 140737488351232 := by simp
  go_enter Try.func6, Try.ntmps6
  go_wp2_with fail
  refine (sum_any _ _ _ [] _ hr (.inl ⟨_, _, rfl, rfl⟩)).mono ?_
  rintro e w1 ⟨rfl, g1⟩
  go_wp2_with fail
  refine (clone_any _ _ [] _ hr (.inl ⟨_, _, rfl, rfl⟩)).mono ?_
  rintro e w2 ⟨a', cap', rfl, m2, g2⟩
  go_wp2_with fail
  refine (reverse_any _ _ _ [] _ hr m2).mono ?_
  rintro e w3 ⟨rfl, m3, g3⟩
  have G3 : Grew w w3.drew := (g1.trans (g2.trans_below g3 (Nat.le_refl _))).trans (Below.drew (Below.refl _ _))
  clear g1 g2 g3 m2 m3
  go_wp2_with fail
  go_region_held3 (fun _ => True) (trivial) (first
    | (go_at_call 11; refine (alive_any _).mono ?_; rintro e w4 ⟨rfl, g4⟩)
    | (go_at_call 21; refine (rsum_any _ _ _ [] _ hr (.inl ⟨_, _, rfl, rfl⟩)).mono ?_; rintro e w5 ⟨rfl, rfl⟩)
    | (go_at_call 18; (with_reducible refine (pair_any _ _ _).mono ?_); rintro e w8 ⟨rfl, g8⟩; rw [empty_pair])
    | (go_at_call 18; refine (sum_any _ _ _ [] _ hr (.inl ⟨_, _, rfl, rfl⟩)).mono ?_; rintro e w5 ⟨rfl, g5⟩))
  go_wp2
  go_ret
  exact ⟨by simp, by repeat (first | assumption | refine step (by assumption) ?_)⟩

set_option maxHeartbeats 2000000 in
theorem zero_some (x : Addr) (cap : Nat) (hcap : ¬ cap = 0) (nn : Nat) (w : World) (hnn : nn ≤ 255) :
    Calls Try.prog 6 #[.slice (some x) 0 cap, .int .u8 nn] w fun e w' => e = .returned (.bool true) ∧ Grew w w' := by
  have hr : ([] : List Int).length * 8 ≤ 140737488351232 := by simp
  go_enter Try.func6, Try.ntmps6
  go_wp2_with fail
  refine (sum_any _ _ _ [] _ hr (.inl ⟨_, _, rfl, rfl⟩)).mono ?_
  rintro e w1 ⟨rfl, g1⟩
  go_wp2_with fail
  refine (clone_any _ _ [] _ hr (.inl ⟨_, _, rfl, rfl⟩)).mono ?_
  rintro e w2 ⟨a', cap', rfl, m2, g2⟩
  go_wp2_with fail
  refine (reverse_any _ _ _ [] _ hr m2).mono ?_
  rintro e w3 ⟨rfl, m3, g3⟩
  have G3 : Grew w w3.drew := (g1.trans (g2.trans_below g3 (Nat.le_refl _))).trans (Below.drew (Below.refl _ _))
  clear g1 g2 g3 m2 m3
  go_wp2_with fail
  go_region_held3 (fun _ => True) (trivial) (first
    | (go_at_call 11; refine (alive_any _).mono ?_; rintro e w4 ⟨rfl, g4⟩)
    | (go_at_call 21; refine (rsum_any _ _ _ [] _ hr (.inl ⟨_, _, rfl, rfl⟩)).mono ?_; rintro e w5 ⟨rfl, rfl⟩)
    | (go_at_call 18; (with_reducible refine (pair_any _ _ _).mono ?_); rintro e w8 ⟨rfl, g8⟩; rw [empty_pair])
    | (go_at_call 18; refine (sum_any _ _ _ [] _ hr (.inl ⟨_, _, rfl, rfl⟩)).mono ?_; rintro e w5 ⟨rfl, g5⟩))
  go_wp2
  go_ret
  exact ⟨by simp, by repeat (first | assumption | refine step (by assumption) ?_)⟩

theorem own : ownKnob Try.prog.godebug = none := by kernel_rfl
theorem laidOut : laidOutB Try.prog = true := by kernel_rfl

/-- What the walk is told of a slice of integers that came in: it is nil, or it leads to a row of cells. -/
def IsRow (k : IntKind) (w : World) (a : Option Addr) (len cap : Nat) (zs : List Int) : Prop :=
  (a = none ∧ len = 0 ∧ cap = 0 ∧ zs = []) ∨
  ∃ x, a = some x ∧ len ≤ cap ∧ cap ≤ maxLen ∧ zs.length = cap ∧ (∀ i, i < zs.length → w.cell? (x.add i) = some (.int k (zs.getD i 0))) ∧ ∀ n ∈ zs, (Lit.int k n).wf = true

theorem walk (a0 : Option Addr) (len0 cap0 : Nat) (z0 : List Int) (a1 : Int) (w : World) (w0 : IsRow .i64 w a0 len0 cap0 z0) (w1 : (Lit.int .u8 a1).wf = true) :
    Calls Try.prog 6 #[.slice a0 len0 cap0, .int .u8 a1] w fun e w' => e = .returned (.bool true) ∧ Below w.heap.size w w' := by
  obtain ⟨nn, rfl⟩ := Int.eq_ofNat_of_zero_le (u8_wf w1).1
  have hnn : nn ≤ 255 := by have := (u8_wf w1).2; omega
  by_cases h5 : 500 < len0
  · exact many a0 len0 cap0 nn w h5
  rcases w0 with ⟨rfl, rfl, rfl, rfl⟩ | ⟨x, rfl, hl, hm, hz, hcell, hwz⟩
  · exact none_nil nn w hnn
  by_cases h0 : len0 = 0
  · subst h0
    by_cases hcap : cap0 = 0
    · subst hcap
      exact zero_none x nn w hnn
    · exact zero_some x cap0 hcap nn w hnn
  · obtain ⟨b, off, spot⟩ := x
    have hc := hcell 0 (by omega)
    have hspot : spot = none := by simpa [Addr.add] using World.cell?_spot hc
    subst hspot
    have hb : b < w.heap.size := block_in (by simpa [Addr.add] using hc)
    have hlen : (z0.take len0).length = len0 := by rw [List.length_take]; omega
    have hcs : ∀ j, j < (z0.take len0).length → w.cell? ⟨b, off + j, none⟩ = some (.int .i64 ((z0.take len0)[j]?.getD 0)) := by
      intro j hj
      rw [hlen] at hj
      have := hcell j (by omega)
      rw [Addr.add_lit] at this
      rw [List.getElem?_take_of_lt hj, ← List.getD_eq_getElem?_getD]
      exact this
    obtain ⟨k, hk⟩ := Int.eq_ofNat_of_zero_le (a := (nn : Int) % ((len0 : Int) + 1)) (Int.emod_nonneg _ (by omega))
    have hk2 : k ≤ len0 := by
      have := Int.emod_lt_of_pos (nn : Int) (show (0 : Int) < (len0 : Int) + 1 by omega)
      omega
    by_cases hck : cap0 = k
    · obtain rfl : len0 = k := by omega
      subst hck
      have := few_whole b off (z0.take cap0) nn w (by omega) hnn (by omega) hb hcs (by rw [hlen]; exact hk)
      rw [hlen] at this
      exact this
    · have := few_part b off cap0 (z0.take len0) nn k w (by omega) hnn (by omega) (by omega) hb hcs (by rw [hlen]; exact hk) (by omega) hck
      rw [hlen] at this
      exact this

set_option maxRecDepth 100000 in
theorem lifted (os : Os) (started : os.Started) (H : Type) (enc : TypeId × Value → H) :
    ReturnsInHanded {} Try.checked os 6 .any (Rows.fixpSumsSpec.pre6 enc Try.prog Try.f6 Rows.fixpSumsRow.domain false) (Rows.fixpSumsSpec.post enc Try.prog Try.f6 false true false false) := by
  refine returnsInHanded_of_change (C := Try.checked) own started (by kernel_rfl) Try.func6
    (ChangeSpec.witness6 (enc := enc) (C := Try.checked) false ⟨#[], #[.slice none 0 0, .int .u8 0], []⟩ 8 (by kernel_rfl) (by kernel_rfl) (by kernel_rfl) (by kernel_rfl)) ?_
  intro W base args ds gs before hval0 hW hcnd _
  have hval : ∀ (j : Nat) t v, Try.f6.params[j]? = some t → args[j]? = some v → Value.okWide Try.prog W .any base t v := hval0
  have hW' := hW
  obtain ⟨p, q, hA0, hV, rfl, hfz, hnd⟩ := hW
  have hA : DataW.TrodAll enc Try.prog W 0 (fun _ => true) true Try.f6.params.toList args.toList ds p := hA0
  rw [Try.params6] at hA hval
  obtain ⟨v0, vs0, d0, ds0, p0, q0, hargs, rfl, rfl, h0, r0⟩ := trodAll_cons hA
  obtain ⟨v1, vs1, d1, ds1, p1, q1, rfl, rfl, rfl, h1, r1⟩ := trodAll_cons r0
  obtain ⟨rfl, rfl, rfl⟩ := trodAll_nil r1
  obtain rfl : args = #[v0, v1] := by cases args; simp_all
  obtain ⟨rfl, rfl⟩ := trodVars_none hV
  obtain ⟨a0, len0, cap0, rfl⟩ := okWide_slice Try.underlying33 (hval 0 33 v0 rfl rfl)
  have k0 := h0
  have lt0 : ∀ x ∈ p0, x.block < W.heap.size := by obtain ⟨m, hm⟩ := k0; exact DataW.trod_lt m _ _ _ hm
  obtain ⟨z0, w0⟩ : ∃ zs, IsRow .i64 W a0 len0 cap0 zs := by
    obtain ⟨fuel, hf⟩ := h0
    rcases open_ints Try.underlying33 Try.underlying2 (by kernel_rfl) hf with ⟨hcs, _⟩ | ⟨x, l, c, zs, hcs, _, hl, hm, hz, _, hcell, hwz⟩
    · simp [Value.cells] at hcs
      obtain ⟨rfl, rfl, rfl⟩ := hcs
      exact ⟨[], .inl ⟨rfl, rfl, rfl, rfl⟩⟩
    · simp [Value.cells] at hcs
      obtain ⟨rfl, rfl, rfl⟩ := hcs
      exact ⟨zs, .inr ⟨_, rfl, hl, hm, by simpa using hz, hcell, hwz⟩⟩
  obtain ⟨a1, rfl, rfl, rfl, w1⟩ := open_int Try.underlying5 (hval 1 5 v1 rfl rfl) h1
  clear hA0 hval0
  refine (walk a0 len0 cap0 z0 a1 W w0 w1).mono fun e W' ⟨he, bel⟩ => ?_
  subst he
  exact ⟨_, rfl, _, _, _, [], _, [], hW', trodAll_mk1 (shut_bool Try.underlying4 _), (trodAll_cons_mk (Below.trod laidOut (by kernel_rfl) (of_decide_eq_true (by kernel_rfl)) k0 bel lt0) (trodAll_cons_mk (shut_int Try.underlying5 w1) trodAll_mk0)), rfl, bel.frame _, fun h => by cases h⟩

theorem over : Rows.fixpSumsRow.holds Try.pinned (OpenSpec.ofChange Rows.fixpSumsSpec) :=
  OpenClaim.holds_of_wide 6 Try.f6 rfl rfl rfl rfl rfl rfl rfl ⟨rfl, rfl, rfl, rfl, rfl⟩ rfl rfl rfl rfl rfl (by kernel_rfl) Try.func6 (by kernel_rfl)
    (of_decide_eq_true (by kernel_rfl)) (by unfold Func.isWrapper; first | (rw [if_pos (by decide +kernel)]; kernel_rfl) | (rw [if_neg (by decide +kernel)]; exact ⟨rfl, rfl⟩))
    (fun os started H enc _ => lifted os started H enc)

theorem proved : Rows.FixpSumsSaid := over
end Go.Proofs.Ytmcaagelfopojaa.fixpSums
