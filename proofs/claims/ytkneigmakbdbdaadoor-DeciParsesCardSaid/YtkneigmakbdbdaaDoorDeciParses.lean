/-
  DeciParses: Parse returns the number of the reference, whose text it is, or none. The listed tables hold what the program's start lays.
-/
import Derived.Test.YtkneigmakbdbdaaDoorCards
import Derived.Test.YtkneigmakbdbdaaDoorTie
import Derived.Test.YtkneigmakbdbdaaDoorYf
import Derived.Test.YtkneigmakbdbdaaDoorYt
import Derived.Deep.DeepHandedRow
import Derived.Lib.LaidTab
import Derived.Lay
import Derived.Stop.LaidErr
import Derived.Lib.ItoaNum
import Derived.WalkKit
import Derived.ProofKit
import Derived.OpenShut
import Derived.ShutString
import Derived.ChangeOld
import Derived.Below
namespace Go.Proofs.YtkneigmakbdbdaaDoor.deciParses
open Go.ChangeShapes Go.WideShapes Go.ChangeAt Go.RowKit Go.Proofs.YtkneigmakbdbdaaDoor
open Go.ChangeMaps (open_string shut_string)
set_option linter.unusedVariables false

theorem own : ownKnob Tryd.prog.godebug = none := by kernel_rfl
theorem laidOut : laidOutB Tryd.prog = true := by kernel_rfl


theorem gTab : Tryd.prog.globalNamed "internal/strconv.uint64pow10" = some 0 := by kernel_rfl
theorem gTabType : (Tryd.prog.globals[0]?).map (·.type) = some 85 := by kernel_rfl
theorem cellsTab : Tryd.prog.cellsOf 85 = 20 := by kernel_rfl
theorem cellsElem : Tryd.prog.cellsOf 30 = 1 := by kernel_rfl
theorem powTab : Lib.pow10Tab = [1, 10, 100, 1000, 10000, 100000, 1000000, 10000000, 100000000, 1000000000, 10000000000, 100000000000, 1000000000000, 10000000000000, 100000000000000, 1000000000000000, 10000000000000000, 100000000000000000, 1000000000000000000, 10000000000000000000] := by decide +kernel
/-- What the row's list gives: the table of powers of ten. -/
theorem table {W : World} (h0 : laidMetH Tryd.prog Rows.deciParsesRow.laid W) : Lib.TabIs Tryd.prog W "internal/strconv.uint64pow10" .u64 Lib.pow10Tab := by
  have h : laidMet Tryd.prog Rows.deciParsesRow.laid W := h0
  rw [powTab]
  exact Lib.tabIs_of_head (rest := []) gTab gTabType Tryd.underlying85 Tryd.underlying30 cellsElem cellsTab (h.tail.tail)

theorem walk (a0 : ByteArray) (a1 : Int) (w : World) (w0 : a0.size ≤ maxLen) (w1 : (Lit.int .i64 a1).wf = true)
    (hT : Lib.TabIs Tryd.prog w "internal/strconv.uint64pow10" .u64 Lib.pow10Tab) :
    Calls Tryd.prog 4 #[.string a0, .int .i64 a1] w fun e w' => e = .returned (.bool true) ∧ Below w.heap.size w w' := by
  obtain ⟨b10, b11⟩ := i64_wf w1
  clear w1
  unfold maxLen at w0
  by_cases hlen : 300 < a0.size
  · go_enter Tryd.func4, Tryd.ntmps4
    go_wp2_with fail
    refine (alive_any _ hT).mono ?_
    rintro e w1 ⟨rfl, g1⟩
    go_wp2_with fail
    go_ret
    exact ⟨rfl, g1⟩
  by_cases hq : 0 ≤ a1 ∧ a1 ≤ 62
  · obtain ⟨q, rfl⟩ := Int.eq_ofNat_of_zero_le hq.1
    have hq62 : q ≤ 62 := by omega
    by_cases h100 : a0.size ≤ 100
    · obtain ⟨x, ok, hP⟩ : ∃ x ok, parseV a0.data.toList q = (x, ok) := ⟨_, _, rfl⟩
      have hr := parse_range a0.data.toList q
      rw [hP] at hr
      obtain ⟨hx0, hx1⟩ : -9223372036854775808 ≤ x ∧ x ≤ 9223372036854775807 := hr
      have HPR := Lib.hid (show parseR a0.data.toList q = (x, ok) by rw [parse_same hq62, hP])
      have HOK := Lib.hid (show ok = true → textL x q = a0.data.toList by
        intro h
        have := parse_ok (l := a0.data.toList) (q := q) (by rw [hP]; exact h)
        rw [hP] at this; exact this)
      have HP := Lib.hid hP
      clear hP hq
      go_enter Tryd.func4, Tryd.ntmps4
      go_wp2_with fail
      refine (parse_yes a0 q _ hq62 (by omega) hT).mono ?_
      rintro e w1 ⟨rfl, g1⟩
      have hT1 := tab_below hT (Nat.le_refl _) g1
      rw [HP.out]
      go_wp2_with fail
      refine (rparse_yes a0 q _ hq62 h100).mono ?_
      rintro e w2 ⟨rfl, g2⟩
      have hT2 := tab_below hT1 (Nat.le_refl _) g2
      rw [HPR.out]
      go_wp2_with fail
      refine (alive_any _ hT2).mono ?_
      rintro e w3 ⟨rfl, g3⟩
      have hT3 := tab_below hT2 (Nat.le_refl _) g3
      cases ok with
      | false =>
        go_wp2_with fail
        go_ret
        exact ⟨ret_bool (by simp), (g1.trans g2).trans g3⟩
      | true =>
        go_wp2_with fail
        refine (text_yes x q _ hq62 hx0 hx1 hT3).mono ?_
        rintro e w4 ⟨rfl, g4⟩
        rw [HOK.out (by trivial)]
        go_wp2_with fail
        go_ret
        exact ⟨ret_bool (by simp), ((g1.trans g2).trans g3).trans g4⟩
    · have HP := Lib.hid (show parseQ a0.data.toList ((q : Nat) : Int) = (0, false) by
        refine (parseQ_yes hq62).trans (parse_none fun x h0 h1 he => ?_)
        have h := text_len hq62 h0 h1
        rw [he, ← Lib.size_eq] at h
        omega)
      go_enter Tryd.func4, Tryd.ntmps4
      go_wp2_with fail
      refine (parse_any a0 (q : Int) _ (by omega) hT).mono ?_
      rintro e w1 ⟨rfl, g1⟩
      have hT1 := tab_below hT (Nat.le_refl _) g1
      rw [HP.out]
      go_wp2_with fail
      refine (rparse_none a0 (q : Int) _ (Or.inr (by omega))).mono ?_
      rintro e w2 ⟨rfl, g2⟩
      have hT2 := tab_below hT1 (Nat.le_refl _) g2
      go_wp2_with fail
      refine (alive_any _ hT2).mono ?_
      rintro e w3 ⟨rfl, g3⟩
      go_wp2_with fail
      go_ret
      exact ⟨rfl, (g1.trans g2).trans g3⟩
  · have HP := Lib.hid (parseQ_no (l := a0.data.toList) hq)
    go_enter Tryd.func4, Tryd.ntmps4
    go_wp2_with fail
    refine (parse_any a0 a1 _ (by omega) hT).mono ?_
    rintro e w1 ⟨rfl, g1⟩
    have hT1 := tab_below hT (Nat.le_refl _) g1
    rw [HP.out]
    go_wp2_with fail
    refine (rparse_none a0 a1 _ (Or.inl hq)).mono ?_
    rintro e w2 ⟨rfl, g2⟩
    have hT2 := tab_below hT1 (Nat.le_refl _) g2
    go_wp2_with fail
    refine (alive_any _ hT2).mono ?_
    rintro e w3 ⟨rfl, g3⟩
    go_wp2_with fail
    go_ret
    exact ⟨rfl, (g1.trans g2).trans g3⟩

/-- The listed variables hold what they list in a world where the program's start has laid them. -/
theorem laid_met (os : Os) : laidMet Tryd.prog Rows.deciParsesRow.laid ((World.laidAll Tryd.prog os Rows.deciParsesRow.laid).forCall (fun _ _ => 0) ⟨#[], #[.string ByteArray.empty, .int .i64 0], []⟩).memory :=
  laidMet_of_run' 8 (by kernel_rfl) (by kernel_rfl)
theorem reads (os : Os) {H : Type} (enc : TypeId × Value → H) : ∃ places, DataW.whole enc Tryd.prog ((World.laidAll Tryd.prog os Rows.deciParsesRow.laid).forCall (fun _ _ => 0) ⟨#[], #[.string ByteArray.empty, .int .i64 0], []⟩).memory Tryd.f4.params.toList Rows.deciParsesSpec.vars false (#[.string ByteArray.empty, .int .i64 0] : Array Value).toList 8 = some ([.lit (.string []), .lit (.int .i64 0)], [], places) :=
  ⟨[], by kernel_rfl⟩

set_option maxRecDepth 100000 in
theorem lifted (os : Os) (started : os.Started) (H : Type) (enc : TypeId × Value → H) (F : Stop.Interp) :
    ReturnsInHanded {} Tryd.checked os 4 .any ((OpenSpec.ofChange Rows.deciParsesSpec).preRow enc Tryd.prog Tryd.f4 Rows.deciParsesRow.domain false Rows.deciParsesRow.laid) (((OpenSpec.ofChange Rows.deciParsesSpec).at F).post enc Tryd.prog Tryd.f4 false true false false) := by
  obtain ⟨places, hx⟩ := reads os enc
  refine returnsInHanded_of_row (C := Tryd.checked) (s := (OpenSpec.ofChange Rows.deciParsesSpec)) own started (by kernel_rfl) Tryd.func4
    (witness_row_at (enc := enc) (C := Tryd.checked) false (World.laidAll Tryd.prog os Rows.deciParsesRow.laid) #[.string ByteArray.empty, .int .i64 0] rfl (by kernel_rfl) (by kernel_rfl) (by kernel_rfl)
      (OpenSpec.preRow_of_cond 8 hx (by kernel_rfl) (fun k hk => by cases hk) (by kernel_rfl) (laid_met os))) ?_
  intro W base args ds gs before hval0 hW _ _ _ hL _ _
  have hval : ∀ (j : Nat) t v, Tryd.f4.params[j]? = some t → args[j]? = some v → Value.okWide Tryd.prog W .any base t v := hval0
  have hW' := hW
  obtain ⟨p, q, hA0, hV, rfl, hfz, hnd⟩ := hW
  have hA : DataW.TrodAll enc Tryd.prog W 0 (fun _ => true) true Tryd.f4.params.toList args.toList ds p := hA0
  rw [Tryd.params4] at hA hval
  obtain ⟨v0, vs0, d0, ds0, p0, q0, hargs, rfl, rfl, h0, r0⟩ := trodAll_cons hA
  obtain ⟨v1, vs1, d1, ds1, p1, q1, rfl, rfl, rfl, h1, r1⟩ := trodAll_cons r0
  obtain ⟨rfl, rfl, rfl⟩ := trodAll_nil r1
  obtain rfl : args = #[v0, v1] := by cases args; simp_all
  obtain ⟨rfl, rfl⟩ := trodVars_none hV
  obtain ⟨a0, rfl, rfl, rfl, w0⟩ := open_string Tryd.underlying9 (hval 0 9 v0 rfl rfl) h0
  obtain ⟨a1, rfl, rfl, rfl, w1⟩ := open_int Tryd.underlying3 (hval 1 3 v1 rfl rfl) h1
  clear hA0 hval0
  refine (walk a0 a1 W w0 w1 (table hL)).mono fun e W' ⟨he, bel⟩ => ?_
  subst he
  exact ⟨_, rfl, _, _, _, [], _, [], hW', trodAll_mk1 (shut_bool Tryd.underlying4 _), (trodAll_cons_mk (shut_string Tryd.underlying9 w0) (trodAll_cons_mk (shut_int Tryd.underlying3 w1) trodAll_mk0)), rfl, bel.frame _, fun h => by cases h⟩

theorem said : Rows.DeciParsesSaid :=
  OpenClaim.holds_of_cond 4 Tryd.f4 rfl rfl rfl rfl rfl rfl rfl ⟨rfl, rfl, rfl, rfl, rfl⟩ rfl rfl rfl rfl rfl (by kernel_rfl) Tryd.func4 (by kernel_rfl)
    (of_decide_eq_true (by kernel_rfl)) (by unfold Func.isWrapper; first | (rw [if_pos (by decide +kernel)]; kernel_rfl) | (rw [if_neg (by decide +kernel)]; exact ⟨rfl, rfl⟩))
    (fun os started H enc _ F => by rw [OpenClaim.pre_eq_preRow]; exact lifted os started H enc F)
theorem plain (f : FuncId) (fn : Func) (hf : Tryd.pinned.checked.prog.funcNamed "sakia/sakialaw02.DeciParses" = some f) (hfn : Tryd.pinned.checked.prog.funcs[f]? = some fn) :
    false = Tryd.pinned.checked.prog.looks [] ∧ ∀ (j : Nat) t, fn.params[j]? = some t → Tryd.pinned.checked.prog.wantsStandIn t = false := by
  obtain rfl : f = 4 := Option.some.inj ((show Tryd.prog.funcNamed "sakia/sakialaw02.DeciParses" = some 4 by kernel_rfl).symm.trans hf) |>.symm
  obtain rfl : fn = Tryd.f4 := (Option.some.inj (Tryd.func4.symm.trans hfn)).symm
  refine ⟨by kernel_rfl, fun j t ht => ?_⟩
  rw [Tryd.params4] at ht
  have hm : t = 9 ∨ t = 3 := by simpa using Array.mem_of_getElem? ht
  rcases hm with rfl | rfl
  · exact (show Tryd.prog.wantsStandIn 9 = false by kernel_rfl)
  · exact (show Tryd.prog.wantsStandIn 3 = false by kernel_rfl)

/-- The card. -/
theorem proved : Rows.DeciParsesCardSaid :=
  Claim7.holds_tied_plain_at .later [] _ _ _ _ said (fun _ h => by cases h) (by kernel_rfl) (fun _ h => by cases h) deciParses_row_tie rfl ⟨rfl, rfl⟩ (by kernel_rfl) rfl plain (by kernel_rfl)
end Go.Proofs.YtkneigmakbdbdaaDoor.deciParses
