/-
  For all int64 a and uint8 q, k, sakialaw01.FixpFloors(a, q, k) returns true. No condition.
-/
import Derived.Test.YtmcaagelfopojaaRows
import Derived.Test.YtmcaagelfopojaaXc
import Derived.Deep.RegionHeld3
import Derived.WalkKit
import Derived.ProofKit
import Derived.OpenShut
import Derived.ShutString
import Derived.ChangeOld
import Derived.Below
namespace Go.Proofs.Ytmcaagelfopojaa.fixpFloors
open Go.ChangeShapes Go.WideShapes Go.ChangeAt Go.RowKit
open Go.ChangeMaps (open_string shut_string)
set_option linter.unusedVariables false

theorem own : ownKnob Try.prog.godebug = none := by kernel_rfl
theorem laidOut : laidOutB Try.prog = true := by kernel_rfl

/-- What the walk is told of a slice of integers that came in: it is nil, or it leads to a row of cells. -/
def IsRow (k : IntKind) (w : World) (a : Option Addr) (len cap : Nat) (zs : List Int) : Prop :=
  (a = none ∧ len = 0 ∧ cap = 0 ∧ zs = []) ∨
  ∃ x, a = some x ∧ len ≤ cap ∧ cap ≤ maxLen ∧ zs.length = cap ∧ (∀ i, i < zs.length → w.cell? (x.add i) = some (.int k (zs.getD i 0))) ∧ ∀ n ∈ zs, (Lit.int k n).wf = true

set_option maxHeartbeats 1000000 in
theorem walk (a0 : Int) (a1 : Int) (a2 : Int) (w : World) (w0 : (Lit.int .i64 a0).wf = true) (w1 : (Lit.int .u8 a1).wf = true) (w2 : (Lit.int .u8 a2).wf = true) :
    Calls Try.prog 8 #[.int .i64 a0, .int .u8 a1, .int .u8 a2] w fun e w' => e = .returned (.bool true) ∧ Below w.heap.size w w' := by
  have ha := i64_wf w0
  have hq := u8_wf w1
  have hk := u8_wf w2
  clear w0 w1 w2
  obtain ⟨qn, rfl⟩ := Int.eq_ofNat_of_zero_le hq.1
  obtain ⟨kn, rfl⟩ := Int.eq_ofNat_of_zero_le hk.1
  obtain ⟨n, hn⟩ := Int.eq_ofNat_of_zero_le (a := (qn : Int) % 63) (by omega)
  have hn2 : n ≤ 62 := by omega
  have HN := Lib.hid hn
  clear hn
  obtain ⟨m, hm⟩ := Int.eq_ofNat_of_zero_le (a := (kn : Int) % ((n : Int) + 1)) (Int.emod_nonneg _ (by omega))
  have hm2 : m ≤ n := by
    have := Int.emod_lt_of_pos (kn : Int) (show (0 : Int) < (n : Int) + 1 by omega)
    omega
  have HM := Lib.hid hm
  clear hm
  go_enter Try.func8, Try.ntmps8
  go_wp2_with fail
  rw [HN.out, HM.out]
  have hp0 : (2 : Int) ^ m ≤ 4611686018427387904 := pow_lt (by omega)
  have hp1 : (0 : Int) < 2 ^ m := pow_pos' m
  have hp : IntKind.i64.wrap (2 ^ m) = 2 ^ m := IntWalk.i64_in _ (by omega)
  have HF := Lib.hid (floor_eq hm2 hn2 ha.1 ha.2)
  have HC := Lib.hid (mulV_comm a0 (-1) n)
  have hs : IntKind.i64.wrap ((n : Int) - (m : Int)) = (n : Int) - (m : Int) := IntWalk.i64_in _ (by omega)
  have hs0 : (0 : Int) ≤ (n : Int) - (m : Int) := by omega
  go_region_held3 (fun _ => True) (trivial) (first
    | (go_at_call 11; refine (alive_any _).mono ?_; rintro e w1 ⟨rfl, g1⟩)
    | (go_at_call 14; (with_reducible refine (mul_any a0 (2 ^ m) n _ ha.1 ha.2 (by omega) (by omega)).mono ?_); rintro e w2 ⟨rfl, g2⟩; rw [HF.out])
    | (go_at_call 14; (with_reducible refine (mul_any a0 (-1) n _ ha.1 ha.2 (by omega) (by omega)).mono ?_); rintro e w3 ⟨rfl, g3⟩; rw [HC.out])
    | (go_at_call 15; refine (rmul_any (-1) a0 n _ (by omega) (by omega) ha.1 ha.2).mono ?_; rintro e w4 ⟨rfl, rfl⟩))
  go_wp2
  go_ret
  exact ⟨by simp, (Grew.trans (Below.drew (Below.refl _ _)) (g1.trans g2)).trans g3⟩

set_option maxRecDepth 100000 in
theorem lifted (os : Os) (started : os.Started) (H : Type) (enc : TypeId × Value → H) :
    ReturnsInHanded {} Try.checked os 8 .any (Rows.fixpFloorsSpec.pre6 enc Try.prog Try.f8 Rows.fixpFloorsRow.domain false) (Rows.fixpFloorsSpec.post enc Try.prog Try.f8 false true false false) := by
  refine returnsInHanded_of_change (C := Try.checked) own started (by kernel_rfl) Try.func8
    (ChangeSpec.witness6 (enc := enc) (C := Try.checked) false ⟨#[], #[.int .i64 0, .int .u8 0, .int .u8 0], []⟩ 8 (by kernel_rfl) (by kernel_rfl) (by kernel_rfl) (by kernel_rfl)) ?_
  intro W base args ds gs before hval0 hW hcnd _
  have hval : ∀ (j : Nat) t v, Try.f8.params[j]? = some t → args[j]? = some v → Value.okWide Try.prog W .any base t v := hval0
  have hW' := hW
  obtain ⟨p, q, hA0, hV, rfl, hfz, hnd⟩ := hW
  have hA : DataW.TrodAll enc Try.prog W 0 (fun _ => true) true Try.f8.params.toList args.toList ds p := hA0
  rw [Try.params8] at hA hval
  obtain ⟨v0, vs0, d0, ds0, p0, q0, hargs, rfl, rfl, h0, r0⟩ := trodAll_cons hA
  obtain ⟨v1, vs1, d1, ds1, p1, q1, rfl, rfl, rfl, h1, r1⟩ := trodAll_cons r0
  obtain ⟨v2, vs2, d2, ds2, p2, q2, rfl, rfl, rfl, h2, r2⟩ := trodAll_cons r1
  obtain ⟨rfl, rfl, rfl⟩ := trodAll_nil r2
  obtain rfl : args = #[v0, v1, v2] := by cases args; simp_all
  obtain ⟨rfl, rfl⟩ := trodVars_none hV
  obtain ⟨a0, rfl, rfl, rfl, w0⟩ := open_int Try.underlying2 (hval 0 2 v0 rfl rfl) h0
  obtain ⟨a1, rfl, rfl, rfl, w1⟩ := open_int Try.underlying5 (hval 1 5 v1 rfl rfl) h1
  obtain ⟨a2, rfl, rfl, rfl, w2⟩ := open_int Try.underlying5 (hval 2 5 v2 rfl rfl) h2
  clear hA0 hval0
  refine (walk a0 a1 a2 W w0 w1 w2).mono fun e W' ⟨he, bel⟩ => ?_
  subst he
  exact ⟨_, rfl, _, _, _, [], _, [], hW', trodAll_mk1 (shut_bool Try.underlying4 _), (trodAll_cons_mk (shut_int Try.underlying2 w0) (trodAll_cons_mk (shut_int Try.underlying5 w1) (trodAll_cons_mk (shut_int Try.underlying5 w2) trodAll_mk0))), rfl, bel.frame _, fun h => by cases h⟩

theorem over : Rows.fixpFloorsRow.holds Try.pinned (OpenSpec.ofChange Rows.fixpFloorsSpec) :=
  OpenClaim.holds_of_wide 8 Try.f8 rfl rfl rfl rfl rfl rfl rfl ⟨rfl, rfl, rfl, rfl, rfl⟩ rfl rfl rfl rfl rfl (by kernel_rfl) Try.func8 (by kernel_rfl)
    (of_decide_eq_true (by kernel_rfl)) (by unfold Func.isWrapper; first | (rw [if_pos (by decide +kernel)]; kernel_rfl) | (rw [if_neg (by decide +kernel)]; exact ⟨rfl, rfl⟩))
    (fun os started H enc _ => lifted os started H enc)

theorem proved : Rows.FixpFloorsSaid := over
end Go.Proofs.Ytmcaagelfopojaa.fixpFloors
