/-
  For all slices v and w of int64 numbers, sakialaw03.VecSame(v, w) returns true. No condition.
-/
import Derived.Test.YtdlhpamgjfipfaaRows
import Derived.Test.YtdlhpamgjfipfaaVj
import Derived.WalkKit
import Derived.ProofKit
import Derived.OpenShut
import Derived.ShutString
import Derived.ChangeOld
import Derived.Below
namespace Go.Proofs.Ytdlhpamgjfipfaa.vecSame
open Go.ChangeShapes Go.WideShapes Go.ChangeAt Go.RowKit Go.Proofs.Ytdlhpamgjfipfaa
open Go.ChangeMaps (open_string shut_string)
set_option linter.unusedVariables false

/-- The list whose first elements are one greater, modulo 2^64. -/
def incK (xs : List Int) : Nat → List Int
  | 0 => xs
  | k + 1 => (incK xs k).set k (wrap64 (el xs k + 1))
theorem inc_len (xs : List Int) : ∀ k, (incK xs k).length = xs.length
  | 0 => rfl
  | k + 1 => by simp only [incK, List.length_set]; exact inc_len xs k
theorem inc_late (xs : List Int) : ∀ k j, k ≤ j → el (incK xs k) j = el xs j
  | 0, _, _ => rfl
  | k + 1, j, h => by simp only [incK]; rw [el_set_other _ (by omega)]; exact inc_late xs k j (by omega)
theorem inc_first (xs : List Int) (h : 0 < xs.length) : ∀ k, el (incK xs (k + 1)) 0 = wrap64 (el xs 0 + 1)
  | 0 => by simp only [incK]; exact el_set_same _ h
  | k + 1 => by
    have ih := inc_first xs h k
    simp only [incK] at ih ⊢
    rw [el_set_other _ (by omega)]
    exact ih
theorem inc_dif (xs : List Int) (h : 0 < xs.length) : dif xs (incK xs xs.length) = 0 := by
  refine dif_hit 0 _ _ (fun j hj => absurd hj (Nat.not_lt_zero _)) (other_at h (by rw [inc_len]; exact h) ?_)
  rw [show xs.length = (xs.length - 1) + 1 from by omega, inc_first xs h]
  unfold wrap64
  omega

theorem own : ownKnob Try.prog.godebug = none := by kernel_rfl
theorem laidOut : laidOutB Try.prog = true := by kernel_rfl

/-- What the walk is told of a slice of integers that came in: it is nil, or it leads to a row of cells. -/
def IsRow (k : IntKind) (w : World) (a : Option Addr) (len cap : Nat) (zs : List Int) : Prop :=
  (a = none ∧ len = 0 ∧ cap = 0 ∧ zs = []) ∨
  ∃ x, a = some x ∧ len ≤ cap ∧ cap ≤ maxLen ∧ zs.length = cap ∧ (∀ i, i < zs.length → w.cell? (x.add i) = some (.int k (zs.getD i 0))) ∧ ∀ n ∈ zs, (Lit.int k n).wf = true

set_option maxHeartbeats 1000000 in
theorem walk (a0 : Option Addr) (len0 cap0 : Nat) (z0 : List Int) (a1 : Option Addr) (len1 cap1 : Nat) (z1 : List Int) (w : World) (w0 : IsRow .i64 w a0 len0 cap0 z0) (w1 : IsRow .i64 w a1 len1 cap1 z1) :
    Calls Try.prog 6 #[.slice a0 len0 cap0, .slice a1 len1 cap1] w fun e w' => e = .returned (.bool true) ∧ Below w.heap.size w w' := by
  obtain ⟨_, xs, rfl, hx, _⟩ := row_in w0
  obtain ⟨_, ys, rfl, hy, _⟩ := row_in w1
  clear w0 w1
  have HX := Lib.hid hx
  have HY := Lib.hid hy
  clear hx hy
  cases hF : fewB [⟨a0, cap0, xs⟩, ⟨a1, cap1, ys⟩] with
  | false =>
    go_enter Try.func6, Try.ntmps6
    go_wp2_with fail
    refine (few_two a0 a1 cap0 cap1 xs ys _).mono ?_
    rintro e w1 ⟨rfl, g1⟩
    rw [hF]
    clear hF
    have HG1 := Lib.hid g1
    clear g1

    go_wp2_with fail
    refine (valive_any _).mono ?_
    rintro e w2 ⟨rfl, g2⟩
    go_wp2_with fail
    go_ret
    exact ⟨rfl, HG1.out.trans g2⟩
  | true =>
    obtain ⟨hs1, hs2⟩ := few_two_yes hF
    have HC := Lib.hid (dif_comm ys xs)
    have HGS := Lib.hid hs1
    go_enter Try.func6, Try.ntmps6
    go_wp2_with fail
    refine (few_two a0 a1 cap0 cap1 xs ys _).mono ?_
    rintro e w1 ⟨rfl, g1⟩
    rw [hF]
    clear hF
    have HG1 := Lib.hid g1
    clear g1

    go_wp2_with fail
    refine (vclone_any a0 cap0 xs _ (by omega) (HX.out.grow HG1.out)).mono ?_
    rintro e w2 ⟨rfl, B2, g2⟩
    have HS1 := Lib.hid HG1.out.size
    generalize w1.heap.size = g at B2 HS1 ⊢
    have HB2 := Lib.hid (B2.mono HS1.out)
    have HG2 := Lib.hid (HG1.out.trans g2)
    clear B2 g2
    go_wp2_with fail
    refine (same_any a0 a1 cap0 cap1 xs ys _ (by omega) (by omega) (HX.out.grow HG2.out) (HY.out.grow HG2.out)).mono ?_
    rintro e w3 ⟨rfl, g3⟩
    have HG3 := Lib.hid (HG2.out.trans g3)
    have HB3 := Lib.hid (HB2.out.grow g3)
    clear g3
    go_wp2_with fail
    refine (rsame_any a0 a1 cap0 cap1 xs ys _ (by omega) (by omega) (HX.out.grow HG3.out) (HY.out.grow HG3.out)).mono ?_
    rintro e w4 ⟨rfl, g4⟩
    have HG4 := Lib.hid (HG3.out.trans g4)
    have HB4 := Lib.hid (HB3.out.grow g4)
    clear g4
    generalize decide (xs = ys) = same
    go_wp2_with fail
    refine (differ_any a0 a1 cap0 cap1 xs ys _ (by omega) (by omega) (HX.out.grow HG4.out) (HY.out.grow HG4.out)).mono ?_
    rintro e w5 ⟨rfl, g5⟩
    have HG5 := Lib.hid (HG4.out.trans g5)
    have HB5 := Lib.hid (HB4.out.grow g5)
    clear g5
    go_wp2_with fail
    refine (rdiffer_any a0 a1 cap0 cap1 xs ys _ (by omega) (by omega) (HX.out.grow HG5.out) (HY.out.grow HG5.out)).mono ?_
    rintro e w6 ⟨rfl, g6⟩
    have HG6 := Lib.hid (HG5.out.trans g6)
    have HB6 := Lib.hid (HB5.out.grow g6)
    clear g6
    go_wp2_with fail
    refine (differ_any a1 a0 cap1 cap0 ys xs _ (by omega) (by omega) (HY.out.grow HG6.out) (HX.out.grow HG6.out)).mono ?_
    rintro e w7 ⟨rfl, g7⟩
    rw [HC.out]
    have HG7 := Lib.hid (HG6.out.trans g7)
    have HB7 := Lib.hid (HB6.out.grow g7)
    clear g7
    go_wp2_with fail
    refine (rdiffer_any a0 a1 cap0 cap1 xs ys _ (by omega) (by omega) (HX.out.grow HG7.out) (HY.out.grow HG7.out)).mono ?_
    rintro e w8 ⟨rfl, g8⟩
    have HG8 := Lib.hid (HG7.out.trans g8)
    have HB8 := Lib.hid (HB7.out.grow g8)
    clear g8
    go_wp2_with fail
    refine (same_any a0 _ cap0 xs.length xs xs _ (by omega) (by omega) (HX.out.grow HG8.out) HB8.out.rd).mono ?_
    rintro e w9 ⟨rfl, g9⟩
    have HG9 := Lib.hid (HG8.out.trans g9)
    have HB9 := Lib.hid (HB8.out.grow g9)
    clear g9
    rw [decide_eq_true rfl]
    go_wp2
    go_loopw [52] (fun i wr => ∃ k : Nat, k ≤ xs.length ∧ i = .int .i64 k ∧ Hid (Buf w.heap.size wr (some ⟨g, 0, none⟩) xs.length xs.length (incK xs k)) ∧ Hid (Grew w wr)) (fun i _ => xs.length - (intOf i).toNat)
    case atStart => exact ⟨0, Nat.zero_le _, rfl, HB9, HG9⟩
    case round =>
      obtain ⟨k, hk, rfl, HB, HG⟩ := hrel
      by_cases hlt : k < xs.length
      · obtain ⟨g', e', hg, hgl, hx, hfro⟩ := HB.out.at hlt
        obtain rfl : g = g' := by injection e' with e'; injection e'
        rw [inc_late xs k k (Nat.le_refl _)] at hx
        have HS : Hid (incK xs (k + 1) = (incK xs k).set k (wrap64 (el xs k + 1))) := Lib.hid rfl
        clear e'
        generalize el xs k = x at hx HS
        go_wp2
        go_roundw
        case rel => exact ⟨k + 1, by omega, by go_num, Lib.hid (by rw [HS.out]; exact HB.out.set k _), Lib.hid (Below.setCell (p := ⟨g, k, none⟩) HG.out hg _)⟩
        case measure => simp [intOf]; omega
      · obtain rfl : k = xs.length := by omega
        go_wp2_with fail
        refine (valive_any _).mono ?_
        rintro e w10 ⟨rfl, g10⟩
        have HG10 := Lib.hid (HG.out.trans g10)
        have HB10 := Lib.hid (HB.out.grow g10)
        clear g10
        by_cases h0 : xs.length = 0
        · have hz0 : ((xs.length : Int) == 0) = true := by rw [h0]; rfl
          clear h0
          go_wp2_with fail
          go_ret
          exact ⟨by simp, HG10.out⟩
        · have hz0 : ((xs.length : Int) == 0) = false := beq_eq_false_iff_ne.2 (by omega)
          have HD := Lib.hid (inc_dif xs (by omega))
          clear h0
          go_wp2_with fail
          refine (differ_n a0 _ cap0 xs.length xs (incK xs xs.length) _ rfl (inc_len _ _) (by omega) (by omega) (HX.out.grow HG10.out) HB10.out.rd).mono ?_
          rintro e w11 ⟨rfl, g11⟩
          rw [HD.out]
          go_wp2_with fail
          go_ret
          exact ⟨by simp, HG10.out.trans g11⟩

set_option maxRecDepth 100000 in
theorem lifted (os : Os) (started : os.Started) (H : Type) (enc : TypeId × Value → H) :
    ReturnsInHanded {} Try.checked os 6 .any (Rows.vecSameSpec.pre6 enc Try.prog Try.f6 Rows.vecSameRow.domain false) (Rows.vecSameSpec.post enc Try.prog Try.f6 false true false false) := by
  refine returnsInHanded_of_change (C := Try.checked) own started (by kernel_rfl) Try.func6
    (ChangeSpec.witness6 (enc := enc) (C := Try.checked) false ⟨#[], #[.slice none 0 0, .slice none 0 0], []⟩ 8 (by kernel_rfl) (by kernel_rfl) (by kernel_rfl) (by kernel_rfl)) ?_
  intro W base args ds gs before hval0 hW hcnd _
  have hval : ∀ (j : Nat) t v, Try.f6.params[j]? = some t → args[j]? = some v → Value.okWide Try.prog W .any base t v := hval0
  have hW' := hW
  obtain ⟨p, q, hA0, hV, rfl, hfz, hnd⟩ := hW
  have hA : DataW.TrodAll enc Try.prog W 0 (fun _ => true) true Try.f6.params.toList args.toList ds p := hA0
  rw [Try.params6] at hA hval
  obtain ⟨v0, vs0, d0, ds0, p0, q0, hargs, rfl, rfl, h0, r0⟩ := trodAll_cons hA
  obtain ⟨v1, vs1, d1, ds1, p1, q1, rfl, rfl, rfl, h1, r1⟩ := trodAll_cons r0
  obtain ⟨rfl, rfl, rfl⟩ := trodAll_nil r1
  obtain rfl : args = #[v0, v1] := by cases args; simp_all
  obtain ⟨rfl, rfl⟩ := trodVars_none hV
  obtain ⟨a0, len0, cap0, rfl⟩ := okWide_slice Try.underlying25 (hval 0 25 v0 rfl rfl)
  have k0 := h0
  have lt0 : ∀ x ∈ p0, x.block < W.heap.size := by obtain ⟨m, hm⟩ := k0; exact DataW.trod_lt m _ _ _ hm
  obtain ⟨z0, w0⟩ : ∃ zs, IsRow .i64 W a0 len0 cap0 zs := by
    obtain ⟨fuel, hf⟩ := h0
    rcases open_ints Try.underlying25 Try.underlying2 (by kernel_rfl) hf with ⟨hcs, _⟩ | ⟨x, l, c, zs, hcs, _, hl, hm, hz, _, hcell, hwz⟩
    · simp [Value.cells] at hcs
      obtain ⟨rfl, rfl, rfl⟩ := hcs
      exact ⟨[], .inl ⟨rfl, rfl, rfl, rfl⟩⟩
    · simp [Value.cells] at hcs
      obtain ⟨rfl, rfl, rfl⟩ := hcs
      exact ⟨zs, .inr ⟨_, rfl, hl, hm, by simpa using hz, hcell, hwz⟩⟩
  obtain ⟨a1, len1, cap1, rfl⟩ := okWide_slice Try.underlying25 (hval 1 25 v1 rfl rfl)
  have k1 := h1
  have lt1 : ∀ x ∈ p1, x.block < W.heap.size := by obtain ⟨m, hm⟩ := k1; exact DataW.trod_lt m _ _ _ hm
  obtain ⟨z1, w1⟩ : ∃ zs, IsRow .i64 W a1 len1 cap1 zs := by
    obtain ⟨fuel, hf⟩ := h1
    rcases open_ints Try.underlying25 Try.underlying2 (by kernel_rfl) hf with ⟨hcs, _⟩ | ⟨x, l, c, zs, hcs, _, hl, hm, hz, _, hcell, hwz⟩
    · simp [Value.cells] at hcs
      obtain ⟨rfl, rfl, rfl⟩ := hcs
      exact ⟨[], .inl ⟨rfl, rfl, rfl, rfl⟩⟩
    · simp [Value.cells] at hcs
      obtain ⟨rfl, rfl, rfl⟩ := hcs
      exact ⟨zs, .inr ⟨_, rfl, hl, hm, by simpa using hz, hcell, hwz⟩⟩
  clear hA0 hval0
  refine (walk a0 len0 cap0 z0 a1 len1 cap1 z1 W w0 w1).mono fun e W' ⟨he, bel⟩ => ?_
  subst he
  exact ⟨_, rfl, _, _, _, [], _, [], hW', trodAll_mk1 (shut_bool Try.underlying4 _), (trodAll_cons_mk (Below.trod laidOut (by kernel_rfl) (of_decide_eq_true (by kernel_rfl)) k0 bel lt0) (trodAll_cons_mk (Below.trod laidOut (by kernel_rfl) (of_decide_eq_true (by kernel_rfl)) k1 bel lt1) trodAll_mk0)), rfl, bel.frame _, fun h => by cases h⟩

theorem over : Rows.vecSameRow.holds Try.pinned (OpenSpec.ofChange Rows.vecSameSpec) :=
  OpenClaim.holds_of_wide 6 Try.f6 rfl rfl rfl rfl rfl rfl rfl ⟨rfl, rfl, rfl, rfl, rfl⟩ rfl rfl rfl rfl rfl (by kernel_rfl) Try.func6 (by kernel_rfl)
    (of_decide_eq_true (by kernel_rfl)) (by unfold Func.isWrapper; first | (rw [if_pos (by decide +kernel)]; kernel_rfl) | (rw [if_neg (by decide +kernel)]; exact ⟨rfl, rfl⟩))
    (fun os started H enc _ => lifted os started H enc)

theorem proved : Rows.VecSameSaid := over
end Go.Proofs.Ytdlhpamgjfipfaa.vecSame
