/-
  For all ints n and size, sakialaw04.PartBlocks(n, size) returns true. No condition.
-/
import Derived.Test.YtfnffpogbkefaaaRows
import Derived.Test.YtfnffpogbkefaaaPf
import Derived.Test.YtfnffpogbkefaaaWf
import Derived.WalkKit
import Derived.ProofKit
import Derived.OpenShut
import Derived.ShutString
import Derived.ChangeOld
import Derived.Below
namespace Go.Proofs.Ytfnffpogbkefaaa.partBlocks
open Go.ChangeShapes Go.WideShapes Go.ChangeAt Go.RowKit
open Go.ChangeMaps (open_string shut_string)
set_option linter.unusedVariables false

theorem own : ownKnob Try.prog.godebug = none := by kernel_rfl
theorem laidOut : laidOutB Try.prog = true := by kernel_rfl

/-- What the walk is told of a slice of integers that came in: it is nil, or it leads to a row of cells. -/
def IsRow (k : IntKind) (w : World) (a : Option Addr) (len cap : Nat) (zs : List Int) : Prop :=
  (a = none ∧ len = 0 ∧ cap = 0 ∧ zs = []) ∨
  ∃ x, a = some x ∧ len ≤ cap ∧ cap ≤ maxLen ∧ zs.length = cap ∧ (∀ i, i < zs.length → w.cell? (x.add i) = some (.int k (zs.getD i 0))) ∧ ∀ n ∈ zs, (Lit.int k n).wf = true

set_option maxHeartbeats 1000000 in
theorem walk (a0 : Int) (a1 : Int) (w : World) (w0 : (Lit.int .i64 a0).wf = true) (w1 : (Lit.int .i64 a1).wf = true) :
    Calls Try.prog 4 #[.int .i64 a0, .int .i64 a1] w fun e w' => e = .returned (.bool true) ∧ Below w.heap.size w w' := by
  have h0 := in64_wf w0
  have h1 := in64_wf w1
  unfold In64 at h0 h1
  clear w0 w1
  by_cases hA : 3000 < a0
  · skip

    go_enter Try.func4, Try.ntmps4
    go_wp2_with fail
    refine (palive_any _).mono ?_
    rintro e w1 ⟨rfl, g1⟩
    go_wp2_with fail
    go_ret
    exact ⟨rfl, g1⟩

  · by_cases hC : a0 < 1 ∨ a1 < 1
    · go_enter Try.func4, Try.ntmps4
      go_wp2_with fail
      refine (blocks_none a0 a1 _ hC).mono ?_
      rintro e w1 ⟨rfl, g1⟩
      go_wp2_with fail
      refine (rblocks_none a0 a1 _ hC).mono ?_
      rintro e w2 ⟨rfl, rfl⟩
      go_wp2_with fail
      refine (palive_any _).mono ?_
      rintro e w2 ⟨rfl, g2⟩
      have HG2 := Lib.hid (g1.trans g2)
      clear g1 g2
      go_wp2_with fail
      refine (back_n (m := 0) _ 0 [] _ rfl (by omega) RdR.empty).mono ?_
      rintro e w3 ⟨⟨s3, c3, rfl, hb⟩, g3⟩
      have HG3 := Lib.hid (HG2.out.trans g3)
      have HB := Lib.hid hb
      clear g3 hb
      go_wp2_with fail
      refine (equal_n (n := 0) (m := 0) s3 none c3 0 [] [] _ rfl rfl (by omega) (by omega) HB.out.rd RdR.empty).mono ?_
      rintro e w4 ⟨rfl, g4⟩
      rw [decide_eq_true rfl]
      have HG4 := Lib.hid (HG3.out.trans g4)
      clear g4
      go_wp2_with fail
      refine (count_none a0 a1 _ hC).mono ?_
      rintro e w5 ⟨rfl, rfl⟩
      clear hC
      go_wp2_with fail
      go_ret
      exact ⟨by simp, HG4.out⟩
    · obtain ⟨n, rfl⟩ := Int.eq_ofNat_of_zero_le (a := a0) (by omega)
      obtain ⟨s, rfl⟩ := Int.eq_ofNat_of_zero_le (a := a1) (by omega)
      have hn : n ≤ 3000 := by omega
      have hn0 : 0 < n := by omega
      have hs0 : 0 < s := by omega
      have hs : s ≤ 9223372036854775807 := by omega
      have hc1 := cntV_le (s := s) hn0
      have hc0 : 0 < cntV n s := Nat.succ_pos _
      obtain ⟨m, hm⟩ : ∃ m, cntV n s = m := ⟨_, rfl⟩
      rw [hm] at hc1 hc0
      have HM := Lib.hid hm
      have HL : Hid ((blkV n s).length = m) := Lib.hid ((blkV_len n s).trans hm)
      clear hC hm
      go_enter Try.func4, Try.ntmps4
      go_wp2_with fail
      refine (blocks_m n s m _ HM.out hn hn0 hs0 hs).mono ?_
      rintro e w1 ⟨rfl, hb1, g1⟩
      have HB1 := Lib.hid hb1
      have HG1 := Lib.hid g1
      clear hb1 g1
      go_wp2_with fail
      refine (rblocks_some n s _ hn hn0 hs0 hs).mono ?_
      rintro e w2 ⟨⟨s2, c2, rfl, hb2⟩, g2⟩
      rw [HM.out] at hb2 ⊢
      have HB2 := Lib.hid hb2
      have HG2 := Lib.hid (HG1.out.trans g2)
      have HR2 := Lib.hid (HB1.out.rd.grow g2)
      clear hb2 g2
      go_wp2_with fail
      refine (palive_any _).mono ?_
      rintro e w3 ⟨rfl, g3⟩
      have HR3 := Lib.hid (HR2.out.grow g3)
      have HB3 := Lib.hid (HB2.out.rd.grow g3)
      have HG3 := Lib.hid (HG2.out.trans g3)
      clear g3
      go_wp2_with fail
      refine (back_n (m := m) _ m (blkV n s) _ HL.out (by omega) HR3.out).mono ?_
      rintro e w4 ⟨⟨s4, c4, rfl, hb4⟩, g4⟩
      have HB4 := Lib.hid hb4
      have HG4 := Lib.hid (HG3.out.trans g4)
      have HR4 := Lib.hid (HR3.out.grow g4)
      have HB34 := Lib.hid (HB3.out.grow g4)
      clear hb4 g4
      go_wp2_with fail
      refine (equal_n (n := m) (m := m) s4 s2 c4 c2 (blkV n s) (blkV n s) _ HL.out HL.out (by omega) (by omega) HB4.out.rd HB34.out).mono ?_
      rintro e w5 ⟨rfl, g5⟩
      rw [decide_eq_true rfl]
      have HG5 := Lib.hid (HG4.out.trans g5)
      have HR5 := Lib.hid (HR4.out.grow g5)
      clear g5
      go_wp2_with fail
      refine (count_some n s _ hn hn0 hs0 hs).mono ?_
      rintro e w6 ⟨rfl, rfl⟩
      rw [HM.out]
      go_wp2_with fail
      refine (covers_n (m := m) n _ m (blkV n s) _ HL.out (by omega) HR5.out).mono ?_
      rintro e w7 ⟨rfl, g7⟩
      rw [blkV_covers hn0 hs0]
      have HG7 := Lib.hid (HG5.out.trans g7)
      clear g7
      go_wp2_with fail
      go_ret
      exact ⟨by simp, HG7.out⟩

set_option maxRecDepth 100000 in
theorem lifted (os : Os) (started : os.Started) (H : Type) (enc : TypeId × Value → H) :
    ReturnsInHanded {} Try.checked os 4 .any (Rows.partBlocksSpec.pre6 enc Try.prog Try.f4 Rows.partBlocksRow.domain false) (Rows.partBlocksSpec.post enc Try.prog Try.f4 false true false false) := by
  refine returnsInHanded_of_change (C := Try.checked) own started (by kernel_rfl) Try.func4
    (ChangeSpec.witness6 (enc := enc) (C := Try.checked) false ⟨#[], #[.int .i64 0, .int .i64 0], []⟩ 8 (by kernel_rfl) (by kernel_rfl) (by kernel_rfl) (by kernel_rfl)) ?_
  intro W base args ds gs before hval0 hW hcnd _
  have hval : ∀ (j : Nat) t v, Try.f4.params[j]? = some t → args[j]? = some v → Value.okWide Try.prog W .any base t v := hval0
  have hW' := hW
  obtain ⟨p, q, hA0, hV, rfl, hfz, hnd⟩ := hW
  have hA : DataW.TrodAll enc Try.prog W 0 (fun _ => true) true Try.f4.params.toList args.toList ds p := hA0
  rw [Try.params4] at hA hval
  obtain ⟨v0, vs0, d0, ds0, p0, q0, hargs, rfl, rfl, h0, r0⟩ := trodAll_cons hA
  obtain ⟨v1, vs1, d1, ds1, p1, q1, rfl, rfl, rfl, h1, r1⟩ := trodAll_cons r0
  obtain ⟨rfl, rfl, rfl⟩ := trodAll_nil r1
  obtain rfl : args = #[v0, v1] := by cases args; simp_all
  obtain ⟨rfl, rfl⟩ := trodVars_none hV
  obtain ⟨a0, rfl, rfl, rfl, w0⟩ := open_int Try.underlying3 (hval 0 3 v0 rfl rfl) h0
  obtain ⟨a1, rfl, rfl, rfl, w1⟩ := open_int Try.underlying3 (hval 1 3 v1 rfl rfl) h1
  clear hA0 hval0
  refine (walk a0 a1 W w0 w1).mono fun e W' ⟨he, bel⟩ => ?_
  subst he
  exact ⟨_, rfl, _, _, _, [], _, [], hW', trodAll_mk1 (shut_bool Try.underlying4 _), (trodAll_cons_mk (shut_int Try.underlying3 w0) (trodAll_cons_mk (shut_int Try.underlying3 w1) trodAll_mk0)), rfl, bel.frame _, fun h => by cases h⟩

theorem over : Rows.partBlocksRow.holds Try.pinned (OpenSpec.ofChange Rows.partBlocksSpec) :=
  OpenClaim.holds_of_wide 4 Try.f4 rfl rfl rfl rfl rfl rfl rfl ⟨rfl, rfl, rfl, rfl, rfl⟩ rfl rfl rfl rfl rfl (by kernel_rfl) Try.func4 (by kernel_rfl)
    (of_decide_eq_true (by kernel_rfl)) (by unfold Func.isWrapper; first | (rw [if_pos (by decide +kernel)]; kernel_rfl) | (rw [if_neg (by decide +kernel)]; exact ⟨rfl, rfl⟩))
    (fun os started H enc _ => lifted os started H enc)

theorem proved : Rows.PartBlocksSaid := over
end Go.Proofs.Ytfnffpogbkefaaa.partBlocks
