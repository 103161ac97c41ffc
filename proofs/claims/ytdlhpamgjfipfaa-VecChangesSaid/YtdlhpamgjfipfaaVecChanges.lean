/-
  For every slice v of int64 numbers, every uint16 at and every int64 change, sakialaw03.VecChanges(v, at, change) returns true. No condition.
-/
import Derived.Test.YtdlhpamgjfipfaaRows
import Derived.Test.YtdlhpamgjfipfaaVi
import Derived.WalkKit
import Derived.ProofKit
import Derived.OpenShut
import Derived.ShutString
import Derived.ChangeOld
import Derived.Below
namespace Go.Proofs.Ytdlhpamgjfipfaa.vecChanges
open Go.ChangeShapes Go.WideShapes Go.ChangeAt Go.RowKit
open Go.ChangeMaps (open_string shut_string)
set_option linter.unusedVariables false

theorem own : ownKnob Try.prog.godebug = none := by kernel_rfl
theorem laidOut : laidOutB Try.prog = true := by kernel_rfl

/-- What the walk is told of a slice of integers that came in: it is nil, or it leads to a row of cells. -/
def IsRow (k : IntKind) (w : World) (a : Option Addr) (len cap : Nat) (zs : List Int) : Prop :=
  (a = none ∧ len = 0 ∧ cap = 0 ∧ zs = []) ∨
  ∃ x, a = some x ∧ len ≤ cap ∧ cap ≤ maxLen ∧ zs.length = cap ∧ (∀ i, i < zs.length → w.cell? (x.add i) = some (.int k (zs.getD i 0))) ∧ ∀ n ∈ zs, (Lit.int k n).wf = true

theorem walk (a0 : Option Addr) (len0 cap0 : Nat) (z0 : List Int) (a1 : Int) (a2 : Int) (w : World) (w0 : IsRow .i64 w a0 len0 cap0 z0) (w1 : (Lit.int .u16 a1).wf = true) (w2 : (Lit.int .i64 a2).wf = true) :
    Calls Try.prog 8 #[.slice a0 len0 cap0, .int .u16 a1, .int .i64 a2] w fun e w' => e = .returned (.bool true) ∧ Below w.heap.size w w' := by
  obtain ⟨hn0, zs, rfl, hr, hf⟩ := row_in w0
  obtain ⟨nn, rfl⟩ := Int.eq_ofNat_of_zero_le (u16_wf w1).1
  have hnn : nn ≤ 65535 := by have := (u16_wf w1).2; omega
  have h2 := in64_wf w2
  clear w0 w1 w2
  have HR := Lib.hid hr
  have HF := Lib.hid hf
  have H2 := Lib.hid h2
  clear hr hf h2
  cases hF : fewB [⟨a0, cap0, zs⟩] with
  | false =>
    go_enter Try.func8, Try.ntmps8
    go_wp2_with fail
    refine (few_one a0 cap0 zs _).mono ?_
    rintro e w1 ⟨rfl, g1⟩
    rw [hF]
    clear hF
    go_wp2_with fail
    refine (valive_any _).mono ?_
    rintro e w2 ⟨rfl, g2⟩
    go_wp2_with fail
    go_ret
    exact ⟨rfl, g1.trans g2⟩
  | true =>
    have hs := few_one_yes hF
    by_cases h0 : zs.length = 0
    · obtain rfl : zs = [] := List.eq_nil_of_length_eq_zero h0
      have hl : ([] : List Int).length = 0 := rfl
      clear h0 HR HF
      go_enter Try.func8, Try.ntmps8
      go_wp2_with fail
      refine (few_one a0 cap0 [] _).mono ?_
      rintro e w1 ⟨rfl, g1⟩
      rw [hF]
      clear hF
      go_wp2_with fail
      refine (valive_any _).mono ?_
      rintro e w2 ⟨rfl, g2⟩
      go_wp2_with fail
      go_ret
      exact ⟨rfl, g1.trans g2⟩
    · have hz0 : ((zs.length : Int) == 0) = false := beq_eq_false_iff_ne.2 (by omega)
      by_cases hd : a2 = 0
      · subst hd
        go_enter Try.func8, Try.ntmps8
        go_wp2_with fail
        refine (few_one a0 cap0 zs _).mono ?_
        rintro e w1 ⟨rfl, g1⟩
        rw [hF]
        clear hF
        go_wp2_with fail
        refine (valive_any _).mono ?_
        rintro e w2 ⟨rfl, g2⟩
        go_wp2_with fail
        go_ret
        exact ⟨rfl, g1.trans g2⟩
      · have hd0 : (a2 == 0) = false := by simpa using hd
        obtain ⟨k, hk⟩ : ∃ k : Nat, (nn : Int) % (zs.length : Int) = (k : Int) := Int.eq_ofNat_of_zero_le (Int.emod_nonneg (nn : Int) (show (zs.length : Int) ≠ 0 by omega))
        have hkl : k < zs.length := by have := Int.emod_lt_of_pos (nn : Int) (show (0 : Int) < (zs.length : Int) by omega); rw [hk] at this; omega
        have HD : Hid (a2 ≠ 0) := Lib.hid hd
        clear hd
        have HY : Hid (∀ ys, ys = zs.set k (wrap64 (el zs k + a2)) → ys.length = zs.length ∧ hv ys ys.length ≠ hv zs zs.length) := Lib.hid (fun ys e => by subst e; exact ⟨List.length_set, hash_changed hkl HD.out H2.out.1 H2.out.2⟩)
        go_enter Try.func8, Try.ntmps8
        go_wp2_with fail
        refine (few_one a0 cap0 zs _).mono ?_
        rintro e w1 ⟨rfl, g1⟩
        rw [hF]
        clear hF
        have HG1 := Lib.hid g1
        clear g1
        go_wp2_with fail
        refine (rclone_any a0 cap0 zs _ (by omega) hn0 (HR.out.grow HG1.out)).mono ?_
        rintro e w2 ⟨⟨a', c', rfl, B2⟩, g2⟩
        have HB2 := Lib.hid B2
        have HG2 := Lib.hid (HG1.out.trans g2)
        have HS1 := Lib.hid HG1.out.size
        clear B2 g2
        obtain ⟨g, rfl, hg, hgl, hcell, hfro⟩ := HB2.out.at hkl
        go_wp2_with fail
        have HB3 := Lib.hid (HB2.out.set k (wrap64 (el zs k + a2)))
        have HW3 := Lib.hid (Below.setCell (p := ⟨g, k, none⟩) HG2.out (Nat.le_trans HS1.out hg) (.int .i64 (wrap64 (el zs k + a2))))
        obtain ⟨ys, hys⟩ : ∃ ys, ys = zs.set k (wrap64 (el zs k + a2)) := ⟨_, rfl⟩
        have HYS := Lib.hid hys
        have hyl := (HY.out ys hys).1
        have hne : (hv ys ys.length != hv zs zs.length) = true := by simpa using (HY.out ys hys).2
        rw [← hys] at HB3
        clear hys HB2 HG2 hcell hfro HY
        generalize w2.setCell ⟨g, k, none⟩ (.int .i64 (wrap64 (el zs k + a2))) = w3 at HB3 HW3 ⊢
        have HYL := Lib.hid hyl
        clear hyl
        refine (valive_any _).mono ?_
        rintro e w4 ⟨rfl, g4⟩
        have HB4 := Lib.hid (HB3.out.grow g4).rd
        have HW4 := Lib.hid (Below.trans HW3.out (Below.mono g4 HW3.out.size))
        have HR4 := Lib.hid (Rd.mono (Rd.below HR.out HW4.out) HW4.out.size)
        clear g4 HB3 HW3
        go_wp2_with fail
        refine (vhash_n _ c' ys _ HYL.out (by omega) HB4.out).mono ?_
        rintro e w5 ⟨rfl, rfl⟩
        go_wp2_with fail
        refine (vhash_any a0 cap0 zs _ (by omega) HR4.out).mono ?_
        rintro e w5 ⟨rfl, rfl⟩
        go_wp2_with fail
        refine (vhash_n _ c' ys _ HYL.out (by omega) HB4.out).mono ?_
        rintro e w5 ⟨rfl, rfl⟩
        go_wp2_with fail
        refine (rhash_n _ c' ys _ HYL.out (by omega) HB4.out).mono ?_
        rintro e w5 ⟨rfl, rfl⟩
        go_wp2_with fail
        go_ret
        exact ⟨by simp, HW4.out⟩

set_option maxRecDepth 100000 in
theorem lifted (os : Os) (started : os.Started) (H : Type) (enc : TypeId × Value → H) :
    ReturnsInHanded {} Try.checked os 8 .any (Rows.vecChangesSpec.pre6 enc Try.prog Try.f8 Rows.vecChangesRow.domain false) (Rows.vecChangesSpec.post enc Try.prog Try.f8 false true false false) := by
  refine returnsInHanded_of_change (C := Try.checked) own started (by kernel_rfl) Try.func8
    (ChangeSpec.witness6 (enc := enc) (C := Try.checked) false ⟨#[], #[.slice none 0 0, .int .u16 0, .int .i64 0], []⟩ 8 (by kernel_rfl) (by kernel_rfl) (by kernel_rfl) (by kernel_rfl)) ?_
  intro W base args ds gs before hval0 hW hcnd _
  have hval : ∀ (j : Nat) t v, Try.f8.params[j]? = some t → args[j]? = some v → Value.okWide Try.prog W .any base t v := hval0
  have hW' := hW
  obtain ⟨p, q, hA0, hV, rfl, hfz, hnd⟩ := hW
  have hA : DataW.TrodAll enc Try.prog W 0 (fun _ => true) true Try.f8.params.toList args.toList ds p := hA0
  rw [Try.params8] at hA hval
  obtain ⟨v0, vs0, d0, ds0, p0, q0, hargs, rfl, rfl, h0, r0⟩ := trodAll_cons hA
  obtain ⟨v1, vs1, d1, ds1, p1, q1, rfl, rfl, rfl, h1, r1⟩ := trodAll_cons r0
  obtain ⟨v2, vs2, d2, ds2, p2, q2, rfl, rfl, rfl, h2, r2⟩ := trodAll_cons r1
  obtain ⟨rfl, rfl, rfl⟩ := trodAll_nil r2
  obtain rfl : args = #[v0, v1, v2] := by cases args; simp_all
  obtain ⟨rfl, rfl⟩ := trodVars_none hV
  obtain ⟨a0, len0, cap0, rfl⟩ := okWide_slice Try.underlying25 (hval 0 25 v0 rfl rfl)
  have k0 := h0
  have lt0 : ∀ x ∈ p0, x.block < W.heap.size := by obtain ⟨m, hm⟩ := k0; exact DataW.trod_lt m _ _ _ hm
  obtain ⟨z0, w0⟩ : ∃ zs, IsRow .i64 W a0 len0 cap0 zs := by
    obtain ⟨fuel, hf⟩ := h0
    rcases open_ints Try.underlying25 Try.underlying2 (by kernel_rfl) hf with ⟨hcs, _⟩ | ⟨x, l, c, zs, hcs, _, hl, hm, hz, _, hcell, hwz⟩
    · simp [Value.cells] at hcs
      obtain ⟨rfl, rfl, rfl⟩ := hcs
      exact ⟨[], .inl ⟨rfl, rfl, rfl, rfl⟩⟩
    · simp [Value.cells] at hcs
      obtain ⟨rfl, rfl, rfl⟩ := hcs
      exact ⟨zs, .inr ⟨_, rfl, hl, hm, by simpa using hz, hcell, hwz⟩⟩
  obtain ⟨a1, rfl, rfl, rfl, w1⟩ := open_int Try.underlying51 (hval 1 51 v1 rfl rfl) h1
  obtain ⟨a2, rfl, rfl, rfl, w2⟩ := open_int Try.underlying2 (hval 2 2 v2 rfl rfl) h2
  clear hA0 hval0
  refine (walk a0 len0 cap0 z0 a1 a2 W w0 w1 w2).mono fun e W' ⟨he, bel⟩ => ?_
  subst he
  exact ⟨_, rfl, _, _, _, [], _, [], hW', trodAll_mk1 (shut_bool Try.underlying4 _), (trodAll_cons_mk (Below.trod laidOut (by kernel_rfl) (of_decide_eq_true (by kernel_rfl)) k0 bel lt0) (trodAll_cons_mk (shut_int Try.underlying51 w1) (trodAll_cons_mk (shut_int Try.underlying2 w2) trodAll_mk0))), rfl, bel.frame _, fun h => by cases h⟩

theorem over : Rows.vecChangesRow.holds Try.pinned (OpenSpec.ofChange Rows.vecChangesSpec) :=
  OpenClaim.holds_of_wide 8 Try.f8 rfl rfl rfl rfl rfl rfl rfl ⟨rfl, rfl, rfl, rfl, rfl⟩ rfl rfl rfl rfl rfl (by kernel_rfl) Try.func8 (by kernel_rfl)
    (of_decide_eq_true (by kernel_rfl)) (by unfold Func.isWrapper; first | (rw [if_pos (by decide +kernel)]; kernel_rfl) | (rw [if_neg (by decide +kernel)]; exact ⟨rfl, rfl⟩))
    (fun os started H enc _ => lifted os started H enc)

theorem proved : Rows.VecChangesSaid := over
end Go.Proofs.Ytdlhpamgjfipfaa.vecChanges
