/-
  For all slices v and w of int64 numbers, sakialaw03.VecAdds(v, w) returns true. No condition.
-/
import Derived.Test.YtdlhpamgjfipfaaRows
import Derived.Test.YtdlhpamgjfipfaaVj
import Derived.WalkKit
import Derived.ProofKit
import Derived.OpenShut
import Derived.ShutString
import Derived.ChangeOld
import Derived.Below
namespace Go.Proofs.Ytdlhpamgjfipfaa.vecAdds
open Go.ChangeShapes Go.WideShapes Go.ChangeAt Go.RowKit
open Go.ChangeMaps (open_string shut_string)
set_option linter.unusedVariables false

theorem own : ownKnob Try.prog.godebug = none := by kernel_rfl
theorem laidOut : laidOutB Try.prog = true := by kernel_rfl

/-- What the walk is told of a slice of integers that came in: it is nil, or it leads to a row of cells. -/
def IsRow (k : IntKind) (w : World) (a : Option Addr) (len cap : Nat) (zs : List Int) : Prop :=
  (a = none ∧ len = 0 ∧ cap = 0 ∧ zs = []) ∨
  ∃ x, a = some x ∧ len ≤ cap ∧ cap ≤ maxLen ∧ zs.length = cap ∧ (∀ i, i < zs.length → w.cell? (x.add i) = some (.int k (zs.getD i 0))) ∧ ∀ n ∈ zs, (Lit.int k n).wf = true

set_option maxHeartbeats 1000000 in
theorem walk (a0 : Option Addr) (len0 cap0 : Nat) (z0 : List Int) (a1 : Option Addr) (len1 cap1 : Nat) (z1 : List Int) (w : World) (w0 : IsRow .i64 w a0 len0 cap0 z0) (w1 : IsRow .i64 w a1 len1 cap1 z1) :
    Calls Try.prog 4 #[.slice a0 len0 cap0, .slice a1 len1 cap1] w fun e w' => e = .returned (.bool true) ∧ Below w.heap.size w w' := by
  obtain ⟨hn0, xs, rfl, hx, fx⟩ := row_in w0
  obtain ⟨hn1, ys, rfl, hy, fy⟩ := row_in w1
  clear w0 w1
  have HX := Lib.hid hx
  have HY := Lib.hid hy
  have FX := Lib.hid fx
  have FY := Lib.hid fy
  clear hx hy fx fy
  cases hF : fewB [⟨a0, cap0, xs⟩, ⟨a1, cap1, ys⟩] with
  | false =>
    go_enter Try.func4, Try.ntmps4
    go_wp2_with fail
    refine (few_two a0 a1 cap0 cap1 xs ys _).mono ?_
    rintro e w1 ⟨rfl, g1⟩
    rw [hF]
    clear hF
    go_wp2_with fail
    refine (valive_any _).mono ?_
    rintro e w2 ⟨rfl, g2⟩
    go_wp2_with fail
    go_ret
    exact ⟨rfl, g1.trans g2⟩
  | true =>
    obtain ⟨hs1, hs2⟩ := few_two_yes hF
    obtain ⟨o, s, hol, hos⟩ := two_sum xs ys
    have HOS := Lib.hid hos
    clear hos
    cases o with
    | true =>
      have hsl := hol rfl
      have HSL := Lib.hid hsl
      clear hol hsl

      go_enter Try.func4, Try.ntmps4
      go_wp2_with fail
      refine (few_two a0 a1 cap0 cap1 xs ys _).mono ?_
      rintro e w1 ⟨rfl, g1⟩
      rw [hF]
      clear hF
      have HG1 := Lib.hid g1
      clear g1
      go_wp2_with fail
      refine (rclone_any a0 cap0 xs _ (by omega) hn0 (HX.out.grow HG1.out)).mono ?_
      rintro e w2 ⟨⟨a', c', rfl, B2⟩, g2⟩
      have HA2 := Lib.hid B2
      have HG2 := Lib.hid (HG1.out.trans g2)
      clear B2 g2
      go_wp2_with fail
      refine (rclone_any a1 cap1 ys _ (by omega) hn1 (HY.out.grow HG2.out)).mono ?_
      rintro e w3 ⟨⟨b', d', rfl, B3⟩, g3⟩
      have HB3 := Lib.hid B3
      have HA3 := Lib.hid (HA2.out.grow g3)
      have HG3 := Lib.hid (HG2.out.trans g3)
      have HOR := Lib.hid (other_row HA2.out B3 (Nat.le_refl _))
      clear B3 g3
      have hadd := add_any w1.heap.size a' b' xs.length c' d' xs ys w3 (by omega) (by omega) HA3.out HB3.out.rd FX.out FY.out
      rw [(HOS.out a' c' b' d').1, (HOS.out a' c' b' d').2] at hadd
      have HADD := Lib.hid hadd
      clear hadd
      go_wp2_with fail
      refine HADD.out.mono ?_
      rintro e w4 ⟨rfl, B4, gr⟩
      have HA4 : Hid (Buf w1.heap.size w4 a' xs.length c' s) := Lib.hid (by simpa using B4)
      have HB4 : Hid (Buf w2.heap.size w4 b' ys.length d' ys) := Lib.hid (World.ownsRow.kept HB3.out gr HOR.out)
      have HW4 : Hid (Grew w w4) := Lib.hid (below_grown_row HG3.out HG3.out.size (HA3.out.mono HG1.out.size) gr)
      clear B4 gr
      have hsum := rvsum_any _ _ _ _ (lot_two 25 w4 ⟨a0, cap0, xs⟩ ⟨a1, cap1, ys⟩ (by show xs.length ≤ _; omega) (by show ys.length ≤ _; omega) (HX.out.grow HW4.out) (HY.out.grow HW4.out) FX.out FY.out)
      rw [(HOS.out a0 cap0 a1 cap1).1, (HOS.out a0 cap0 a1 cap1).2] at hsum
      have HSUM := Lib.hid hsum
      clear hsum
      go_wp2_with fail
      refine HSUM.out.mono ?_
      rintro e w5 ⟨⟨a2, c2, rfl, B5⟩, g5⟩
      have HS5 := Lib.hid B5
      have HG45 : Hid (Grew w4 w5) := Lib.hid (Grew.trans ((Grew.refl w4).alloc _) g5)
      clear B5 g5
      go_wp2_with fail
      refine (valive_any _).mono ?_
      rintro e w6 ⟨rfl, g6⟩
      have HG46 := Lib.hid (HG45.out.trans g6)
      have HG56 := Lib.hid g6
      clear g6
      go_wp2_with fail

      have hs3 : s.length ≤ 1500 := by rw [HSL.out]; exact hs1
      refine (rsame_n a' a2 c' c2 s s _ HSL.out rfl (by omega) (by omega) ((HA4.out.grow HG46.out).rd) (HS5.out.grow HG56.out).rd).mono ?_

      rintro e w7 ⟨rfl, g7⟩
      have HG47 := Lib.hid (HG46.out.trans g7)
      rw [decide_eq_true rfl]
      go_wp2_with fail
      refine (rsame_n b' a1 d' cap1 ys ys _ rfl rfl (by omega) (by omega) (HB4.out.grow HG47.out).rd (HY.out.grow (HW4.out.trans HG47.out))).mono ?_
      rintro e w8 ⟨rfl, g8⟩
      rw [decide_eq_true rfl]
      go_wp2_with fail
      go_ret
      exact ⟨by simp, (HW4.out.trans HG47.out).trans g8⟩

    | false =>
      clear hol

      go_enter Try.func4, Try.ntmps4
      go_wp2_with fail
      refine (few_two a0 a1 cap0 cap1 xs ys _).mono ?_
      rintro e w1 ⟨rfl, g1⟩
      rw [hF]
      clear hF
      have HG1 := Lib.hid g1
      clear g1
      go_wp2_with fail
      refine (rclone_any a0 cap0 xs _ (by omega) hn0 (HX.out.grow HG1.out)).mono ?_
      rintro e w2 ⟨⟨a', c', rfl, B2⟩, g2⟩
      have HA2 := Lib.hid B2
      have HG2 := Lib.hid (HG1.out.trans g2)
      clear B2 g2
      go_wp2_with fail
      refine (rclone_any a1 cap1 ys _ (by omega) hn1 (HY.out.grow HG2.out)).mono ?_
      rintro e w3 ⟨⟨b', d', rfl, B3⟩, g3⟩
      have HB3 := Lib.hid B3
      have HA3 := Lib.hid (HA2.out.grow g3)
      have HG3 := Lib.hid (HG2.out.trans g3)
      have HOR := Lib.hid (other_row HA2.out B3 (Nat.le_refl _))
      clear B3 g3
      have hadd := add_any w1.heap.size a' b' xs.length c' d' xs ys w3 (by omega) (by omega) HA3.out HB3.out.rd FX.out FY.out
      rw [(HOS.out a' c' b' d').1, (HOS.out a' c' b' d').2] at hadd
      have HADD := Lib.hid hadd
      clear hadd
      go_wp2_with fail
      refine HADD.out.mono ?_
      rintro e w4 ⟨rfl, B4, gr⟩
      have HA4 : Hid (Buf w1.heap.size w4 a' xs.length c' xs) := Lib.hid (by simpa using B4)
      have HB4 : Hid (Buf w2.heap.size w4 b' ys.length d' ys) := Lib.hid (World.ownsRow.kept HB3.out gr HOR.out)
      have HW4 : Hid (Grew w w4) := Lib.hid (below_grown_row HG3.out HG3.out.size (HA3.out.mono HG1.out.size) gr)
      clear B4 gr
      have hsum := rvsum_any _ _ _ _ (lot_two 25 w4 ⟨a0, cap0, xs⟩ ⟨a1, cap1, ys⟩ (by show xs.length ≤ _; omega) (by show ys.length ≤ _; omega) (HX.out.grow HW4.out) (HY.out.grow HW4.out) FX.out FY.out)
      rw [(HOS.out a0 cap0 a1 cap1).1, (HOS.out a0 cap0 a1 cap1).2] at hsum
      have HSUM := Lib.hid hsum
      clear hsum
      go_wp2_with fail
      refine HSUM.out.mono ?_
      rintro e w5 ⟨⟨a2, c2, rfl, B5⟩, g5⟩
      have HS5 := Lib.hid B5
      have HG45 : Hid (Grew w4 w5) := Lib.hid (Grew.trans ((Grew.refl w4).alloc _) g5)
      clear B5 g5
      go_wp2_with fail
      refine (valive_any _).mono ?_
      rintro e w6 ⟨rfl, g6⟩
      have HG46 := Lib.hid (HG45.out.trans g6)
      have HG56 := Lib.hid g6
      clear g6
      go_wp2_with fail

      refine (rsame_n a' a0 c' cap0 xs xs _ rfl rfl (by omega) (by omega) ((HA4.out.grow HG46.out).rd) (HX.out.grow (HW4.out.trans HG46.out))).mono ?_

      rintro e w7 ⟨rfl, g7⟩
      have HG47 := Lib.hid (HG46.out.trans g7)
      rw [decide_eq_true rfl]
      go_wp2_with fail
      refine (rsame_n b' a1 d' cap1 ys ys _ rfl rfl (by omega) (by omega) (HB4.out.grow HG47.out).rd (HY.out.grow (HW4.out.trans HG47.out))).mono ?_
      rintro e w8 ⟨rfl, g8⟩
      rw [decide_eq_true rfl]
      go_wp2_with fail
      go_ret
      exact ⟨by simp, (HW4.out.trans HG47.out).trans g8⟩

set_option maxRecDepth 100000 in
theorem lifted (os : Os) (started : os.Started) (H : Type) (enc : TypeId × Value → H) :
    ReturnsInHanded {} Try.checked os 4 .any (Rows.vecAddsSpec.pre6 enc Try.prog Try.f4 Rows.vecAddsRow.domain false) (Rows.vecAddsSpec.post enc Try.prog Try.f4 false true false false) := by
  refine returnsInHanded_of_change (C := Try.checked) own started (by kernel_rfl) Try.func4
    (ChangeSpec.witness6 (enc := enc) (C := Try.checked) false ⟨#[], #[.slice none 0 0, .slice none 0 0], []⟩ 8 (by kernel_rfl) (by kernel_rfl) (by kernel_rfl) (by kernel_rfl)) ?_
  intro W base args ds gs before hval0 hW hcnd _
  have hval : ∀ (j : Nat) t v, Try.f4.params[j]? = some t → args[j]? = some v → Value.okWide Try.prog W .any base t v := hval0
  have hW' := hW
  obtain ⟨p, q, hA0, hV, rfl, hfz, hnd⟩ := hW
  have hA : DataW.TrodAll enc Try.prog W 0 (fun _ => true) true Try.f4.params.toList args.toList ds p := hA0
  rw [Try.params4] at hA hval
  obtain ⟨v0, vs0, d0, ds0, p0, q0, hargs, rfl, rfl, h0, r0⟩ := trodAll_cons hA
  obtain ⟨v1, vs1, d1, ds1, p1, q1, rfl, rfl, rfl, h1, r1⟩ := trodAll_cons r0
  obtain ⟨rfl, rfl, rfl⟩ := trodAll_nil r1
  obtain rfl : args = #[v0, v1] := by cases args; simp_all
  obtain ⟨rfl, rfl⟩ := trodVars_none hV
  obtain ⟨a0, len0, cap0, rfl⟩ := okWide_slice Try.underlying25 (hval 0 25 v0 rfl rfl)
  have k0 := h0
  have lt0 : ∀ x ∈ p0, x.block < W.heap.size := by obtain ⟨m, hm⟩ := k0; exact DataW.trod_lt m _ _ _ hm
  obtain ⟨z0, w0⟩ : ∃ zs, IsRow .i64 W a0 len0 cap0 zs := by
    obtain ⟨fuel, hf⟩ := h0
    rcases open_ints Try.underlying25 Try.underlying2 (by kernel_rfl) hf with ⟨hcs, _⟩ | ⟨x, l, c, zs, hcs, _, hl, hm, hz, _, hcell, hwz⟩
    · simp [Value.cells] at hcs
      obtain ⟨rfl, rfl, rfl⟩ := hcs
      exact ⟨[], .inl ⟨rfl, rfl, rfl, rfl⟩⟩
    · simp [Value.cells] at hcs
      obtain ⟨rfl, rfl, rfl⟩ := hcs
      exact ⟨zs, .inr ⟨_, rfl, hl, hm, by simpa using hz, hcell, hwz⟩⟩
  obtain ⟨a1, len1, cap1, rfl⟩ := okWide_slice Try.underlying25 (hval 1 25 v1 rfl rfl)
  have k1 := h1
  have lt1 : ∀ x ∈ p1, x.block < W.heap.size := by obtain ⟨m, hm⟩ := k1; exact DataW.trod_lt m _ _ _ hm
  obtain ⟨z1, w1⟩ : ∃ zs, IsRow .i64 W a1 len1 cap1 zs := by
    obtain ⟨fuel, hf⟩ := h1
    rcases open_ints Try.underlying25 Try.underlying2 (by kernel_rfl) hf with ⟨hcs, _⟩ | ⟨x, l, c, zs, hcs, _, hl, hm, hz, _, hcell, hwz⟩
    · simp [Value.cells] at hcs
      obtain ⟨rfl, rfl, rfl⟩ := hcs
      exact ⟨[], .inl ⟨rfl, rfl, rfl, rfl⟩⟩
    · simp [Value.cells] at hcs
      obtain ⟨rfl, rfl, rfl⟩ := hcs
      exact ⟨zs, .inr ⟨_, rfl, hl, hm, by simpa using hz, hcell, hwz⟩⟩
  clear hA0 hval0
  refine (walk a0 len0 cap0 z0 a1 len1 cap1 z1 W w0 w1).mono fun e W' ⟨he, bel⟩ => ?_
  subst he
  exact ⟨_, rfl, _, _, _, [], _, [], hW', trodAll_mk1 (shut_bool Try.underlying4 _), (trodAll_cons_mk (Below.trod laidOut (by kernel_rfl) (of_decide_eq_true (by kernel_rfl)) k0 bel lt0) (trodAll_cons_mk (Below.trod laidOut (by kernel_rfl) (of_decide_eq_true (by kernel_rfl)) k1 bel lt1) trodAll_mk0)), rfl, bel.frame _, fun h => by cases h⟩

theorem over : Rows.vecAddsRow.holds Try.pinned (OpenSpec.ofChange Rows.vecAddsSpec) :=
  OpenClaim.holds_of_wide 4 Try.f4 rfl rfl rfl rfl rfl rfl rfl ⟨rfl, rfl, rfl, rfl, rfl⟩ rfl rfl rfl rfl rfl (by kernel_rfl) Try.func4 (by kernel_rfl)
    (of_decide_eq_true (by kernel_rfl)) (by unfold Func.isWrapper; first | (rw [if_pos (by decide +kernel)]; kernel_rfl) | (rw [if_neg (by decide +kernel)]; exact ⟨rfl, rfl⟩))
    (fun os started H enc _ => lifted os started H enc)

theorem proved : Rows.VecAddsSaid := over
end Go.Proofs.Ytdlhpamgjfipfaa.vecAdds
