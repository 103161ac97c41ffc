/-
  For every int n and every slice l of ranges, sakialaw04.PartCovers(n, l) returns true. No condition.
-/
import Derived.Test.YtfnffpogbkefaaaRows
import Derived.Test.YtfnffpogbkefaaaPf
import Derived.Test.YtfnffpogbkefaaaPg
import Derived.WalkKit
import Derived.ProofKit
import Derived.OpenShut
import Derived.ShutString
import Derived.ChangeOld
import Derived.Below
namespace Go.Proofs.Ytfnffpogbkefaaa.partCovers
open Go.ChangeShapes Go.WideShapes Go.ChangeAt Go.RowKit
open Go.Proofs.Ytfnffpogbkefaaa
set_option linter.unusedVariables false

theorem own : ownKnob Try.prog.godebug = none := by kernel_rfl
theorem laidOut : laidOutB Try.prog = true := by kernel_rfl

set_option maxHeartbeats 1000000 in
theorem walk (a0 : Int) (a1 : Option Addr) (len1 cap1 : Nat) (rs1 : List Rg) (w : World) (w0 : (Lit.int .i64 a0).wf = true) (w1 : CameR w a1 len1 cap1 rs1) :
    Calls Try.prog 6 #[.int .i64 a0, .slice a1 len1 cap1] w fun e w' => e = .returned (.bool true) ∧ Below w.heap.size w w' := by
  obtain ⟨rfl, hcp, hcm, hr, hin⟩ := w1
  unfold maxLen at hcm
  have HR := Lib.hid hr
  have HI := Lib.hid hin
  have HCp := Lib.hid hcp
  clear w0 hr hin hcp
  by_cases hA : 300 < rs1.length
  · skip

    go_enter Try.func6, Try.ntmps6
    go_wp2_with fail
    refine (palive_any _).mono ?_
    rintro e w1 ⟨rfl, g1⟩
    go_wp2_with fail
    go_ret
    exact ⟨rfl, g1⟩

  · have hl : rs1.length ≤ 300 := by omega
    go_enter Try.func6, Try.ntmps6
    go_wp2
    go_loopw [14] (fun x wr => ∃ k : Nat, k ≤ rs1.length ∧ x = .int .i64 k ∧ Hid (Grew w wr)) (fun x _ => rs1.length - (intOf x).toNat)
    case atStart => exact ⟨0, Nat.zero_le _, rfl, Lib.hid (Grew.refl _)⟩
    case round =>
      obtain ⟨k, hk, rfl, HG⟩ := hrel
      by_cases hlt : k < rs1.length
      · obtain ⟨b, off, rfl, hb, hc1, hc2⟩ := (HR.out.grow HG.out).at hlt
        obtain ⟨⟨l1, l2⟩, l3, l4⟩ := HI.out k hlt
        generalize (rg rs1 k).1 = lo at hc1 l1 l2
        generalize (rg rs1 k).2 = hi at hc2 l3 l4
        by_cases hlh : lo < hi
        · by_cases hB1 : 1099511627776 < hi
          · skip
            go_wp2_with fail
            refine (palive_any _).mono ?_
            rintro e w1 ⟨rfl, g1⟩
            go_wp2_with fail
            go_ret
            exact ⟨rfl, (HG.out.alloc _).trans g1⟩
          · by_cases hB2 : lo < -1099511627776
            · skip
              go_wp2_with fail
              refine (palive_any _).mono ?_
              rintro e w1 ⟨rfl, g1⟩
              go_wp2_with fail
              go_ret
              exact ⟨rfl, (HG.out.alloc _).trans g1⟩
            · skip
              go_wp2_with fail
              refine (size_any lo hi _ (by omega)).mono ?_
              rintro e w1 ⟨rfl, g1⟩
              have HG1 := Lib.hid ((HG.out.alloc _).trans g1)
              clear g1
              rw [show max lo hi - lo = hi - lo from by omega]
              go_wp2_with fail
              go_roundw
              case rel => exact ⟨k + 1, by omega, by go_num, HG1⟩
              case measure => simp [intOf]; omega
        · by_cases hlh2 : hi < lo
          · by_cases hB1 : 1099511627776 < lo
            · skip
              go_wp2_with fail
              refine (palive_any _).mono ?_
              rintro e w1 ⟨rfl, g1⟩
              go_wp2_with fail
              go_ret
              exact ⟨rfl, (HG.out.alloc _).trans g1⟩
            · by_cases hB2 : hi < -1099511627776
              · skip
                go_wp2_with fail
                refine (palive_any _).mono ?_
                rintro e w1 ⟨rfl, g1⟩
                go_wp2_with fail
                go_ret
                exact ⟨rfl, (HG.out.alloc _).trans g1⟩
              · skip
                go_wp2_with fail
                refine (size_any lo hi _ (by omega)).mono ?_
                rintro e w1 ⟨rfl, g1⟩
                have HG1 := Lib.hid ((HG.out.alloc _).trans g1)
                clear g1
                rw [show max lo hi - lo = 0 from by omega]
                go_wp2_with fail
                go_roundw
                case rel => exact ⟨k + 1, by omega, by go_num, HG1⟩
                case measure => simp [intOf]; omega
          · obtain rfl : lo = hi := by omega
            clear hlh hlh2
            by_cases hB1 : 1099511627776 < lo
            · skip
              go_wp2_with fail
              refine (palive_any _).mono ?_
              rintro e w1 ⟨rfl, g1⟩
              go_wp2_with fail
              go_ret
              exact ⟨rfl, (HG.out.alloc _).trans g1⟩
            · by_cases hB2 : lo < -1099511627776
              · skip
                go_wp2_with fail
                refine (palive_any _).mono ?_
                rintro e w1 ⟨rfl, g1⟩
                go_wp2_with fail
                go_ret
                exact ⟨rfl, (HG.out.alloc _).trans g1⟩
              · skip
                go_wp2_with fail
                refine (size_any lo lo _ (by omega)).mono ?_
                rintro e w1 ⟨rfl, g1⟩
                have HG1 := Lib.hid ((HG.out.alloc _).trans g1)
                clear g1
                rw [show max lo lo - lo = 0 from by omega]
                go_wp2_with fail
                go_roundw
                case rel => exact ⟨k + 1, by omega, by go_num, HG1⟩
                case measure => simp [intOf]; omega
      · obtain rfl : k = rs1.length := by omega
        go_wp2_with fail
        refine (palive_any _).mono ?_
        rintro e w1 ⟨rfl, g1⟩
        have HG1 := Lib.hid (HG.out.trans g1)
        have HR1 := Lib.hid (HR.out.grow HG1.out)
        clear g1
        go_wp2_with fail
        refine (given_any a1 cap1 rs1 _ (by omega) HR1.out).mono ?_
        rintro e w2 ⟨⟨s2, c2, rfl, hb2⟩, g2⟩
        have HB2 := Lib.hid hb2
        have HR2 := Lib.hid (HR1.out.grow g2)
        have HG2 := Lib.hid (HG1.out.trans g2)
        clear hb2 g2
        go_wp2_with fail
        refine (covers_any a0 s2 c2 rs1 _ (by omega) HB2.out.rd).mono ?_
        rintro e w3 ⟨rfl, g3⟩
        have HR3 := Lib.hid (HR2.out.grow g3)
        have HG3 := Lib.hid (HG2.out.trans g3)
        clear g3
        go_wp2_with fail
        refine (rcovers_any a0 a1 cap1 rs1 _ (by omega) HR3.out).mono ?_
        rintro e w4 ⟨rfl, rfl⟩
        generalize coversV a0 rs1 = cv
        go_wp2_with fail
        go_ret
        exact ⟨by simp, HG3.out⟩

set_option maxRecDepth 100000 in
theorem lifted (os : Os) (started : os.Started) (H : Type) (enc : TypeId × Value → H) :
    ReturnsInHanded {} Try.checked os 6 .any (Rows.partCoversSpec.pre6 enc Try.prog Try.f6 Rows.partCoversRow.domain false) (Rows.partCoversSpec.post enc Try.prog Try.f6 false true false false) := by
  refine returnsInHanded_of_change (C := Try.checked) own started (by kernel_rfl) Try.func6
    (ChangeSpec.witness6 (enc := enc) (C := Try.checked) false ⟨#[], #[.int .i64 0, .slice none 0 0], []⟩ 8 (by kernel_rfl) (by kernel_rfl) (by kernel_rfl) (by kernel_rfl)) ?_
  intro W base args ds gs before hval0 hW hcnd _
  have hval : ∀ (j : Nat) t v, Try.f6.params[j]? = some t → args[j]? = some v → Value.okWide Try.prog W .any base t v := hval0
  have hW' := hW
  obtain ⟨p, q, hA0, hV, rfl, hfz, hnd⟩ := hW
  have hA : DataW.TrodAll enc Try.prog W 0 (fun _ => true) true Try.f6.params.toList args.toList ds p := hA0
  rw [Try.params6] at hA hval
  obtain ⟨v0, vs0, d0, ds0, p0, q0, hargs, rfl, rfl, h0, r0⟩ := trodAll_cons hA
  obtain ⟨v1, vs1, d1, ds1, p1, q1, rfl, rfl, rfl, h1, r1⟩ := trodAll_cons r0
  obtain ⟨rfl, rfl, rfl⟩ := trodAll_nil r1
  obtain rfl : args = #[v0, v1] := by cases args; simp_all
  obtain ⟨rfl, rfl⟩ := trodVars_none hV
  obtain ⟨a0, rfl, rfl, rfl, w0⟩ := open_int Try.underlying3 (hval 0 3 v0 rfl rfl) h0
  have k1 := h1
  have lt1 : ∀ x ∈ p1, x.block < W.heap.size := by obtain ⟨m, hm⟩ := k1; exact DataW.trod_lt m _ _ _ hm
  obtain ⟨a1, len1, cap1, rfl⟩ := okWide_slice Try.underlying26 (hval 1 26 v1 rfl rfl)
  obtain ⟨rs1, w1⟩ : ∃ us, CameR W a1 len1 cap1 us := by
    obtain ⟨fuel, hf⟩ := h1
    exact ranges_in Try.underlying26 Try.underlying28 (by kernel_rfl) rfl rfl (by kernel_rfl) (by kernel_rfl) Try.underlying3 Try.underlying3 hf
  clear hA0 hval0
  refine (walk a0 a1 len1 cap1 rs1 W w0 w1).mono fun e W' ⟨he, bel⟩ => ?_
  subst he
  exact ⟨_, rfl, _, _, _, [], _, [], hW', trodAll_mk1 (shut_bool Try.underlying4 _), (trodAll_cons_mk (shut_int Try.underlying3 w0) (trodAll_cons_mk (Below.trod laidOut (by kernel_rfl) (of_decide_eq_true (by kernel_rfl)) k1 bel lt1) trodAll_mk0)), rfl, bel.frame _, fun h => by cases h⟩

theorem over : Rows.partCoversRow.holds Try.pinned (OpenSpec.ofChange Rows.partCoversSpec) :=
  OpenClaim.holds_of_wide 6 Try.f6 rfl rfl rfl rfl rfl rfl rfl ⟨rfl, rfl, rfl, rfl, rfl⟩ rfl rfl rfl rfl rfl (by kernel_rfl) Try.func6 (by kernel_rfl)
    (of_decide_eq_true (by kernel_rfl)) (by unfold Func.isWrapper; first | (rw [if_pos (by decide +kernel)]; kernel_rfl) | (rw [if_neg (by decide +kernel)]; exact ⟨rfl, rfl⟩))
    (fun os started H enc _ => lifted os started H enc)

theorem proved : Rows.PartCoversSaid := over
end Go.Proofs.Ytfnffpogbkefaaa.partCovers
