/-
  For all ints n and k, sakialaw04.PartEvens(n, k) returns true. No condition.
-/
import Derived.Test.YtfnffpogbkefaaaRows
import Derived.Test.YtfnffpogbkefaaaPf
import Derived.Test.YtfnffpogbkefaaaWf
import Derived.WalkKit
import Derived.ProofKit
import Derived.OpenShut
import Derived.ShutString
import Derived.ChangeOld
import Derived.Below
namespace Go.Proofs.Ytfnffpogbkefaaa.partEvens
open Go.ChangeShapes Go.WideShapes Go.ChangeAt Go.RowKit
open Go.ChangeMaps (open_string shut_string)
set_option linter.unusedVariables false

theorem own : ownKnob Try.prog.godebug = none := by kernel_rfl
theorem laidOut : laidOutB Try.prog = true := by kernel_rfl

/-- What the walk is told of a slice of integers that came in: it is nil, or it leads to a row of cells. -/
def IsRow (k : IntKind) (w : World) (a : Option Addr) (len cap : Nat) (zs : List Int) : Prop :=
  (a = none ∧ len = 0 ∧ cap = 0 ∧ zs = []) ∨
  ∃ x, a = some x ∧ len ≤ cap ∧ cap ≤ maxLen ∧ zs.length = cap ∧ (∀ i, i < zs.length → w.cell? (x.add i) = some (.int k (zs.getD i 0))) ∧ ∀ n ∈ zs, (Lit.int k n).wf = true

set_option maxHeartbeats 1000000 in
theorem walk (a0 : Int) (a1 : Int) (w : World) (w0 : (Lit.int .i64 a0).wf = true) (w1 : (Lit.int .i64 a1).wf = true) :
    Calls Try.prog 3 #[.int .i64 a0, .int .i64 a1] w fun e w' => e = .returned (.bool true) ∧ Below w.heap.size w w' := by
  have h0 := in64_wf w0
  have h1 := in64_wf w1
  unfold In64 at h0 h1
  clear w0 w1
  by_cases hA : 3000 < a0
  · skip

    go_enter Try.func3, Try.ntmps3
    go_wp2_with fail
    refine (palive_any _).mono ?_
    rintro e w1 ⟨rfl, g1⟩
    go_wp2_with fail
    go_ret
    exact ⟨rfl, g1⟩

  · by_cases hB : 3000 < a1
    · skip

      go_enter Try.func3, Try.ntmps3
      go_wp2_with fail
      refine (palive_any _).mono ?_
      rintro e w1 ⟨rfl, g1⟩
      go_wp2_with fail
      go_ret
      exact ⟨rfl, g1⟩

    · by_cases hC : a0 < 0 ∨ a1 < 1
      · go_enter Try.func3, Try.ntmps3
        go_wp2_with fail
        refine (even_none a0 a1 _ hC).mono ?_
        rintro e w1 ⟨rfl, rfl⟩
        go_wp2_with fail
        refine (palive_any _).mono ?_
        rintro e w1 ⟨rfl, g1⟩
        go_wp2_with fail
        refine (back_n (m := 0) none 0 [] _ rfl (by omega) RdR.empty).mono ?_
        rintro e w2 ⟨⟨s2, c2, rfl, hb⟩, g2⟩
        have HG := Lib.hid (g1.trans g2)
        have HB := Lib.hid hb
        clear g1 g2 hb
        go_wp2_with fail
        refine (reven_none a0 a1 _ hC).mono ?_
        rintro e w3 ⟨rfl, rfl⟩
        go_wp2_with fail
        refine (equal_n (n := 0) (m := 0) s2 none c2 0 [] [] _ rfl rfl (by omega) (by omega) HB.out.rd RdR.empty).mono ?_
        rintro e w4 ⟨rfl, g4⟩
        rw [decide_eq_true rfl]
        have HG4 := Lib.hid (HG.out.trans g4)
        clear g4
        by_cases hD : a0 < 0
        · clear hC
          go_wp2_with fail
          go_ret
          exact ⟨by simp, HG4.out⟩
        · have hD2 : a1 < 1 := by omega
          clear hC
          go_wp2_with fail
          go_ret
          exact ⟨by simp, HG4.out⟩
      · obtain ⟨n, rfl⟩ := Int.eq_ofNat_of_zero_le (a := a0) (by omega)
        obtain ⟨k, rfl⟩ := Int.eq_ofNat_of_zero_le (a := a1) (by omega)
        have hn : n ≤ 3000 := by omega
        have hk : k ≤ 3000 := by omega
        have hk0 : 0 < k := by omega
        clear hC
        go_enter Try.func3, Try.ntmps3
        go_wp2_with fail
        refine (even_some n k _ hn hk0 hk).mono ?_
        rintro e w1 ⟨rfl, hb1, g1⟩
        have HB1 := Lib.hid hb1
        have HG1 := Lib.hid g1
        clear hb1 g1
        go_wp2_with fail
        refine (palive_any _).mono ?_
        rintro e w2 ⟨rfl, g2⟩
        have HR2 := Lib.hid (HB1.out.rd.grow g2)
        have HG2 := Lib.hid (HG1.out.trans g2)
        clear g2
        go_wp2_with fail
        refine (back_n (m := k) _ k (evenV n k) _ (evenV_len n k) (by omega) HR2.out).mono ?_
        rintro e w3 ⟨⟨s3, c3, rfl, hb3⟩, g3⟩
        have HB3 := Lib.hid hb3
        have HG3 := Lib.hid (HG2.out.trans g3)
        have HR3 := Lib.hid (HR2.out.grow g3)
        clear hb3 g3
        go_wp2_with fail
        refine (reven_some n k _ hn hk0 hk).mono ?_
        rintro e w4 ⟨⟨s4, c4, rfl, hb4⟩, g4⟩
        have HB4 := Lib.hid hb4
        have HB34 := Lib.hid (HB3.out.grow g4)
        have HG4 := Lib.hid (HG3.out.trans g4)
        have HR4 := Lib.hid (HR3.out.grow g4)
        clear hb4 g4
        go_wp2_with fail
        refine (equal_n (n := k) (m := k) s3 s4 c3 c4 (evenV n k) (evenV n k) _ (evenV_len n k) (evenV_len n k) (by omega) (by omega) HB34.out.rd HB4.out.rd).mono ?_
        rintro e w5 ⟨rfl, g5⟩
        rw [decide_eq_true rfl]
        have HG5 := Lib.hid (HG4.out.trans g5)
        have HR5 := Lib.hid (HR4.out.grow g5)
        clear g5
        go_wp2_with fail
        refine (covers_n (m := k) n _ k (evenV n k) _ (evenV_len n k) (by omega) HR5.out).mono ?_
        rintro e w6 ⟨rfl, g6⟩
        rw [evenV_covers hk0]
        have HG6 := Lib.hid (HG5.out.trans g6)
        have HR6 := Lib.hid (HR5.out.grow g6)
        clear g6
        go_wp2_with fail
        refine (back_n (m := k) _ k (evenV n k) _ (evenV_len n k) (by omega) HR6.out).mono ?_
        rintro e w7 ⟨⟨s7, c7, rfl, hb7⟩, g7⟩
        have HB7 := Lib.hid hb7
        have HG7 := Lib.hid (HG6.out.trans g7)
        clear hb7 g7
        go_wp2_with fail
        refine (rcovers_n (m := k) n s7 c7 (evenV n k) _ (evenV_len n k) (by omega) HB7.out.rd).mono ?_
        rintro e w8 ⟨rfl, rfl⟩
        rw [evenV_covers hk0]
        go_wp2_with fail
        go_ret
        exact ⟨by simp, HG7.out⟩

set_option maxRecDepth 100000 in
theorem lifted (os : Os) (started : os.Started) (H : Type) (enc : TypeId × Value → H) :
    ReturnsInHanded {} Try.checked os 3 .any (Rows.partEvensSpec.pre6 enc Try.prog Try.f3 Rows.partEvensRow.domain false) (Rows.partEvensSpec.post enc Try.prog Try.f3 false true false false) := by
  refine returnsInHanded_of_change (C := Try.checked) own started (by kernel_rfl) Try.func3
    (ChangeSpec.witness6 (enc := enc) (C := Try.checked) false ⟨#[], #[.int .i64 0, .int .i64 0], []⟩ 8 (by kernel_rfl) (by kernel_rfl) (by kernel_rfl) (by kernel_rfl)) ?_
  intro W base args ds gs before hval0 hW hcnd _
  have hval : ∀ (j : Nat) t v, Try.f3.params[j]? = some t → args[j]? = some v → Value.okWide Try.prog W .any base t v := hval0
  have hW' := hW
  obtain ⟨p, q, hA0, hV, rfl, hfz, hnd⟩ := hW
  have hA : DataW.TrodAll enc Try.prog W 0 (fun _ => true) true Try.f3.params.toList args.toList ds p := hA0
  rw [Try.params3] at hA hval
  obtain ⟨v0, vs0, d0, ds0, p0, q0, hargs, rfl, rfl, h0, r0⟩ := trodAll_cons hA
  obtain ⟨v1, vs1, d1, ds1, p1, q1, rfl, rfl, rfl, h1, r1⟩ := trodAll_cons r0
  obtain ⟨rfl, rfl, rfl⟩ := trodAll_nil r1
  obtain rfl : args = #[v0, v1] := by cases args; simp_all
  obtain ⟨rfl, rfl⟩ := trodVars_none hV
  obtain ⟨a0, rfl, rfl, rfl, w0⟩ := open_int Try.underlying3 (hval 0 3 v0 rfl rfl) h0
  obtain ⟨a1, rfl, rfl, rfl, w1⟩ := open_int Try.underlying3 (hval 1 3 v1 rfl rfl) h1
  clear hA0 hval0
  refine (walk a0 a1 W w0 w1).mono fun e W' ⟨he, bel⟩ => ?_
  subst he
  exact ⟨_, rfl, _, _, _, [], _, [], hW', trodAll_mk1 (shut_bool Try.underlying4 _), (trodAll_cons_mk (shut_int Try.underlying3 w0) (trodAll_cons_mk (shut_int Try.underlying3 w1) trodAll_mk0)), rfl, bel.frame _, fun h => by cases h⟩

theorem over : Rows.partEvensRow.holds Try.pinned (OpenSpec.ofChange Rows.partEvensSpec) :=
  OpenClaim.holds_of_wide 3 Try.f3 rfl rfl rfl rfl rfl rfl rfl ⟨rfl, rfl, rfl, rfl, rfl⟩ rfl rfl rfl rfl rfl (by kernel_rfl) Try.func3 (by kernel_rfl)
    (of_decide_eq_true (by kernel_rfl)) (by unfold Func.isWrapper; first | (rw [if_pos (by decide +kernel)]; kernel_rfl) | (rw [if_neg (by decide +kernel)]; exact ⟨rfl, rfl⟩))
    (fun os started H enc _ => lifted os started H enc)

theorem proved : Rows.PartEvensSaid := over
end Go.Proofs.Ytfnffpogbkefaaa.partEvens
