/-
  For all slices v and w of int64 numbers and every int q, sakialaw03.VecProducts(v, w, q) returns true. No condition.
-/
import Derived.Test.YtdlhpamgjfipfaaRows
import Derived.Test.YtdlhpamgjfipfaaVk
import Derived.WalkKit
import Derived.ProofKit
import Derived.OpenShut
import Derived.ShutString
import Derived.ChangeOld
import Derived.Below
namespace Go.Proofs.Ytdlhpamgjfipfaa.vecProducts
open Go.ChangeShapes Go.WideShapes Go.ChangeAt Go.RowKit
open Go.ChangeMaps (open_string shut_string)
set_option linter.unusedVariables false

theorem own : ownKnob Try.prog.godebug = none := by kernel_rfl
theorem laidOut : laidOutB Try.prog = true := by kernel_rfl

/-- What the walk is told of a slice of integers that came in: it is nil, or it leads to a row of cells. -/
def IsRow (k : IntKind) (w : World) (a : Option Addr) (len cap : Nat) (zs : List Int) : Prop :=
  (a = none ∧ len = 0 ∧ cap = 0 ∧ zs = []) ∨
  ∃ x, a = some x ∧ len ≤ cap ∧ cap ≤ maxLen ∧ zs.length = cap ∧ (∀ i, i < zs.length → w.cell? (x.add i) = some (.int k (zs.getD i 0))) ∧ ∀ n ∈ zs, (Lit.int k n).wf = true

set_option maxHeartbeats 1000000 in
theorem walk (a0 : Option Addr) (len0 cap0 : Nat) (z0 : List Int) (a1 : Option Addr) (len1 cap1 : Nat) (z1 : List Int) (a2 : Int) (w : World) (w0 : IsRow .i64 w a0 len0 cap0 z0) (w1 : IsRow .i64 w a1 len1 cap1 z1) (w2 : (Lit.int .i64 a2).wf = true) :
    Calls Try.prog 5 #[.slice a0 len0 cap0, .slice a1 len1 cap1, .int .i64 a2] w fun e w' => e = .returned (.bool true) ∧ Below w.heap.size w w' := by
  obtain ⟨_, xs, rfl, hx, fx⟩ := row_in w0
  obtain ⟨_, ys, rfl, hy, fy⟩ := row_in w1
  clear w0 w1 w2
  have HX := Lib.hid hx
  have HY := Lib.hid hy
  have FX := Lib.hid fx
  have FY := Lib.hid fy
  clear hx hy fx fy
  cases hF : fewB [⟨a0, cap0, xs⟩, ⟨a1, cap1, ys⟩] with
  | false =>
    · skip

      go_enter Try.func5, Try.ntmps5
      go_wp2_with fail
      refine (few_two a0 _ cap0 cap1 xs ys _).mono ?_
      rintro e w1 ⟨rfl, g1⟩
      rw [hF]
      clear hF
      have HG1 := Lib.hid g1
      clear g1

      go_wp2_with fail
      refine (valive_any _).mono ?_
      rintro e w2 ⟨rfl, g2⟩
      go_wp2_with fail
      go_ret
      exact ⟨rfl, HG1.out.trans g2⟩
  | true =>
    obtain ⟨hs1, hs2⟩ := few_two_yes hF
    have HC := Lib.hid (dot_comm ys xs a2)
    by_cases h0 : 0 < ys.length
    · obtain ⟨b, off, rfl, _, hc⟩ := HY.out.at h0
      rw [Nat.add_zero] at hc
      have HF0 := Lib.hid (FY.out 0 h0)
      have HCE := Lib.hid hc
      clear hc

      go_enter Try.func5, Try.ntmps5
      go_wp2_with fail
      refine (few_two a0 _ cap0 cap1 xs ys _).mono ?_
      rintro e w1 ⟨rfl, g1⟩
      rw [hF]
      clear hF
      have HG1 := Lib.hid g1
      clear g1

      go_wp2_with fail
      refine (vdot_any a0 _ cap0 cap1 xs ys a2 _ (by omega) (by omega) (HX.out.grow HG1.out) (HY.out.grow HG1.out) FX.out FY.out).mono ?_
      rintro e w2 ⟨rfl, g2⟩
      have HG2 := Lib.hid (HG1.out.trans g2)
      clear g2
      go_wp2_with fail
      refine (rdot_any a0 _ cap0 cap1 xs ys a2 _ (by omega) (by omega) (HX.out.grow HG2.out) (HY.out.grow HG2.out) FX.out FY.out).mono ?_
      rintro e w3 ⟨rfl, g3⟩
      have HG3 := Lib.hid (HG2.out.trans g3)
      clear g3
      generalize decide (xs.length = ys.length) = o
      go_wp2_with fail
      refine (vdot_any _ a0 cap1 cap0 ys xs a2 _ (by omega) (by omega) (HY.out.grow HG3.out) (HX.out.grow HG3.out) FY.out FX.out).mono ?_
      rintro e w4 ⟨rfl, g4⟩
      have HG4 := Lib.hid (HG3.out.trans g4)
      clear g4
      rw [HC.out]
      generalize dotV xs ys a2 = d at HC ⊢
      generalize decide (ys.length = xs.length) = o2

      have hce : w4.cell? ⟨b, off, none⟩ = some (.int .i64 (el ys 0)) := (Below.cell HG4.out (p := ⟨b, off, none⟩) (by assumption)).trans HCE.out
      generalize el ys 0 = y at hce HF0
      go_wp2_with fail
      refine (valive_any _).mono ?_
      rintro e w5 ⟨rfl, g5⟩
      have HG5 := Lib.hid (HG4.out.trans g5)
      clear g5
      go_wp2_with fail
      refine (vscale_any a0 cap0 xs y a2 _ (by omega) (HX.out.grow HG5.out) FX.out HF0.out).mono ?_
      rintro e w6 ⟨⟨s', c', rfl, B6⟩, g6⟩
      have HG6 := Lib.hid (HG5.out.trans g6)
      have HB6 := Lib.hid B6
      clear g6 B6
      go_wp2_with fail
      refine (rscale_any a0 cap0 xs y a2 _ (by omega) (HX.out.grow HG6.out) FX.out HF0.out).mono ?_
      rintro e w7 ⟨⟨s2, c2, rfl, B7⟩, g7⟩
      have HG7 := Lib.hid (HG6.out.trans g7)
      have HB7 := Lib.hid B7
      have HB8 := Lib.hid (HB6.out.grow g7)
      clear g7 B7
      go_wp2_with fail
      refine (rsame_n s' s2 c' c2 (scV xs y a2) (scV xs y a2) _ (sc_len _ _ _) (sc_len _ _ _) (by omega) (by omega) HB8.out.rd HB7.out.rd).mono ?_
      rintro e w8 ⟨rfl, g8⟩
      rw [decide_eq_true rfl]
      go_wp2_with fail
      go_ret
      exact ⟨by simp, HG7.out.trans g8⟩

    · skip

      go_enter Try.func5, Try.ntmps5
      go_wp2_with fail
      refine (few_two a0 _ cap0 cap1 xs ys _).mono ?_
      rintro e w1 ⟨rfl, g1⟩
      rw [hF]
      clear hF
      have HG1 := Lib.hid g1
      clear g1

      go_wp2_with fail
      refine (vdot_any a0 _ cap0 cap1 xs ys a2 _ (by omega) (by omega) (HX.out.grow HG1.out) (HY.out.grow HG1.out) FX.out FY.out).mono ?_
      rintro e w2 ⟨rfl, g2⟩
      have HG2 := Lib.hid (HG1.out.trans g2)
      clear g2
      go_wp2_with fail
      refine (rdot_any a0 _ cap0 cap1 xs ys a2 _ (by omega) (by omega) (HX.out.grow HG2.out) (HY.out.grow HG2.out) FX.out FY.out).mono ?_
      rintro e w3 ⟨rfl, g3⟩
      have HG3 := Lib.hid (HG2.out.trans g3)
      clear g3
      generalize decide (xs.length = ys.length) = o
      go_wp2_with fail
      refine (vdot_any _ a0 cap1 cap0 ys xs a2 _ (by omega) (by omega) (HY.out.grow HG3.out) (HX.out.grow HG3.out) FY.out FX.out).mono ?_
      rintro e w4 ⟨rfl, g4⟩
      have HG4 := Lib.hid (HG3.out.trans g4)
      clear g4
      rw [HC.out]
      generalize dotV xs ys a2 = d at HC ⊢
      generalize decide (ys.length = xs.length) = o2

      go_wp2_with fail
      refine (valive_any _).mono ?_
      rintro e w5 ⟨rfl, g5⟩
      have HG5 := Lib.hid (HG4.out.trans g5)
      clear g5
      go_wp2_with fail
      refine (vscale_any a0 cap0 xs 7 a2 _ (by omega) (HX.out.grow HG5.out) FX.out (by unfold In64; omega)).mono ?_
      rintro e w6 ⟨⟨s', c', rfl, B6⟩, g6⟩
      have HG6 := Lib.hid (HG5.out.trans g6)
      have HB6 := Lib.hid B6
      clear g6 B6
      go_wp2_with fail
      refine (rscale_any a0 cap0 xs 7 a2 _ (by omega) (HX.out.grow HG6.out) FX.out (by unfold In64; omega)).mono ?_
      rintro e w7 ⟨⟨s2, c2, rfl, B7⟩, g7⟩
      have HG7 := Lib.hid (HG6.out.trans g7)
      have HB7 := Lib.hid B7
      have HB8 := Lib.hid (HB6.out.grow g7)
      clear g7 B7
      go_wp2_with fail
      refine (rsame_n s' s2 c' c2 (scV xs 7 a2) (scV xs 7 a2) _ (sc_len _ _ _) (sc_len _ _ _) (by omega) (by omega) HB8.out.rd HB7.out.rd).mono ?_
      rintro e w8 ⟨rfl, g8⟩
      rw [decide_eq_true rfl]
      go_wp2_with fail
      go_ret
      exact ⟨by simp, HG7.out.trans g8⟩

set_option maxRecDepth 100000 in
theorem lifted (os : Os) (started : os.Started) (H : Type) (enc : TypeId × Value → H) :
    ReturnsInHanded {} Try.checked os 5 .any (Rows.vecProductsSpec.pre6 enc Try.prog Try.f5 Rows.vecProductsRow.domain false) (Rows.vecProductsSpec.post enc Try.prog Try.f5 false true false false) := by
  refine returnsInHanded_of_change (C := Try.checked) own started (by kernel_rfl) Try.func5
    (ChangeSpec.witness6 (enc := enc) (C := Try.checked) false ⟨#[], #[.slice none 0 0, .slice none 0 0, .int .i64 0], []⟩ 8 (by kernel_rfl) (by kernel_rfl) (by kernel_rfl) (by kernel_rfl)) ?_
  intro W base args ds gs before hval0 hW hcnd _
  have hval : ∀ (j : Nat) t v, Try.f5.params[j]? = some t → args[j]? = some v → Value.okWide Try.prog W .any base t v := hval0
  have hW' := hW
  obtain ⟨p, q, hA0, hV, rfl, hfz, hnd⟩ := hW
  have hA : DataW.TrodAll enc Try.prog W 0 (fun _ => true) true Try.f5.params.toList args.toList ds p := hA0
  rw [Try.params5] at hA hval
  obtain ⟨v0, vs0, d0, ds0, p0, q0, hargs, rfl, rfl, h0, r0⟩ := trodAll_cons hA
  obtain ⟨v1, vs1, d1, ds1, p1, q1, rfl, rfl, rfl, h1, r1⟩ := trodAll_cons r0
  obtain ⟨v2, vs2, d2, ds2, p2, q2, rfl, rfl, rfl, h2, r2⟩ := trodAll_cons r1
  obtain ⟨rfl, rfl, rfl⟩ := trodAll_nil r2
  obtain rfl : args = #[v0, v1, v2] := by cases args; simp_all
  obtain ⟨rfl, rfl⟩ := trodVars_none hV
  obtain ⟨a0, len0, cap0, rfl⟩ := okWide_slice Try.underlying25 (hval 0 25 v0 rfl rfl)
  have k0 := h0
  have lt0 : ∀ x ∈ p0, x.block < W.heap.size := by obtain ⟨m, hm⟩ := k0; exact DataW.trod_lt m _ _ _ hm
  obtain ⟨z0, w0⟩ : ∃ zs, IsRow .i64 W a0 len0 cap0 zs := by
    obtain ⟨fuel, hf⟩ := h0
    rcases open_ints Try.underlying25 Try.underlying2 (by kernel_rfl) hf with ⟨hcs, _⟩ | ⟨x, l, c, zs, hcs, _, hl, hm, hz, _, hcell, hwz⟩
    · simp [Value.cells] at hcs
      obtain ⟨rfl, rfl, rfl⟩ := hcs
      exact ⟨[], .inl ⟨rfl, rfl, rfl, rfl⟩⟩
    · simp [Value.cells] at hcs
      obtain ⟨rfl, rfl, rfl⟩ := hcs
      exact ⟨zs, .inr ⟨_, rfl, hl, hm, by simpa using hz, hcell, hwz⟩⟩
  obtain ⟨a1, len1, cap1, rfl⟩ := okWide_slice Try.underlying25 (hval 1 25 v1 rfl rfl)
  have k1 := h1
  have lt1 : ∀ x ∈ p1, x.block < W.heap.size := by obtain ⟨m, hm⟩ := k1; exact DataW.trod_lt m _ _ _ hm
  obtain ⟨z1, w1⟩ : ∃ zs, IsRow .i64 W a1 len1 cap1 zs := by
    obtain ⟨fuel, hf⟩ := h1
    rcases open_ints Try.underlying25 Try.underlying2 (by kernel_rfl) hf with ⟨hcs, _⟩ | ⟨x, l, c, zs, hcs, _, hl, hm, hz, _, hcell, hwz⟩
    · simp [Value.cells] at hcs
      obtain ⟨rfl, rfl, rfl⟩ := hcs
      exact ⟨[], .inl ⟨rfl, rfl, rfl, rfl⟩⟩
    · simp [Value.cells] at hcs
      obtain ⟨rfl, rfl, rfl⟩ := hcs
      exact ⟨zs, .inr ⟨_, rfl, hl, hm, by simpa using hz, hcell, hwz⟩⟩
  obtain ⟨a2, rfl, rfl, rfl, w2⟩ := open_int Try.underlying3 (hval 2 3 v2 rfl rfl) h2
  clear hA0 hval0
  refine (walk a0 len0 cap0 z0 a1 len1 cap1 z1 a2 W w0 w1 w2).mono fun e W' ⟨he, bel⟩ => ?_
  subst he
  exact ⟨_, rfl, _, _, _, [], _, [], hW', trodAll_mk1 (shut_bool Try.underlying4 _), (trodAll_cons_mk (Below.trod laidOut (by kernel_rfl) (of_decide_eq_true (by kernel_rfl)) k0 bel lt0) (trodAll_cons_mk (Below.trod laidOut (by kernel_rfl) (of_decide_eq_true (by kernel_rfl)) k1 bel lt1) (trodAll_cons_mk (shut_int Try.underlying3 w2) trodAll_mk0))), rfl, bel.frame _, fun h => by cases h⟩

theorem over : Rows.vecProductsRow.holds Try.pinned (OpenSpec.ofChange Rows.vecProductsSpec) :=
  OpenClaim.holds_of_wide 5 Try.f5 rfl rfl rfl rfl rfl rfl rfl ⟨rfl, rfl, rfl, rfl, rfl⟩ rfl rfl rfl rfl rfl (by kernel_rfl) Try.func5 (by kernel_rfl)
    (of_decide_eq_true (by kernel_rfl)) (by unfold Func.isWrapper; first | (rw [if_pos (by decide +kernel)]; kernel_rfl) | (rw [if_neg (by decide +kernel)]; exact ⟨rfl, rfl⟩))
    (fun os started H enc _ => lifted os started H enc)

theorem proved : Rows.VecProductsSaid := over
end Go.Proofs.Ytdlhpamgjfipfaa.vecProducts
