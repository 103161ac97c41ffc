/-
  For all configurations a and b, sakialaw11.ConfSame(a, b) returns true. No condition.
-/
import Derived.Test.YthcahpgandappaaGreatDoorCards
import Derived.Test.YthcahpgandappaaGreatDoorTie
import Derived.Test.YthcahpgandappaaGreatDoorCd
import Derived.Test.YthcahpgandappaaGreatDoorCv
import Derived.Deep.DeepHandedRow
import Derived.Lib.LaidTab
import Derived.Lay
import Derived.Stop.LaidErr
import Derived.Lib.ItoaNum
import Derived.WalkKit
import Derived.ProofKit
import Derived.OpenShut
import Derived.ShutString
import Derived.ChangeOld
import Derived.Below
import Derived.Lib.SmallJoins
namespace Go.Proofs.YthcahpgandappaaGreatDoor.confSame
open Go.ChangeShapes Go.WideShapes Go.ChangeAt Go.RowKit Go.Shelf
open Go.ChangeMaps (open_string shut_string)
open Go.Proofs.YthcahpgandappaaGreatDoor
set_option linter.unusedVariables false

theorem own : ownKnob Tryz.prog.godebug = none := by kernel_rfl
theorem laidOut : laidOutB Tryz.prog = true := by kernel_rfl

theorem allIn_of {f : Cf} (h : ∀ x ∈ f.z, i64c x) (h1 : i64c f.sh) (h2 : i64c f.ra) (h3 : i64c f.mo) (h4 : i64c f.wo) (h5 : i64c f.ba) (h6 : i64c f.mi) (h7 : i64c f.st) (h8 : i64c f.bu) (h9 : i64c f.ch) (h10 : i64c f.wi) (h11 : i64c f.ca) : AllIn f :=
  ⟨h, fun k e1 e2 => match k, e1, e2 with
    | 1, _, _ => h1 | 2, _, _ => h2 | 3, _, _ => h3 | 4, _, _ => h4 | 5, _, _ => h5 | 6, _, _ => h6 | 7, _, _ => h7 | 8, _, _ => h8 | 9, _, _ => h9 | 10, _, _ => h10 | 11, _, _ => h11⟩
set_option maxHeartbeats 1000000 in
theorem check99 (w : World) : Calls Tryz.prog 13 #[.agg #[.slice none 0 0, .int .i64 99, .int .i64 0, .int .i64 0, .int .i64 0, .int .i64 0, .int .i64 0, .int .i64 0, .int .i64 0, .int .i64 0, .int .i64 0, .int .i64 0]] w fun e w' => e = .returned (.int .i64 6) ∧ Grew w w' := by
  have HG := Lib.hid ((Grew.refl w).alloc (.cells #[.slice none 0 0, .int .i64 99, .int .i64 0, .int .i64 0, .int .i64 0, .int .i64 0, .int .i64 0, .int .i64 0, .int .i64 0, .int .i64 0, .int .i64 0, .int .i64 0] 24))
  have H1 : Hid (inR 0 1 64 = false) := Lib.hid (by decide +kernel)
  go_enter Tryz.func13, Tryz.ntmps13
  go_wp2_with fail
  refine (within_any _ _ _ _).mono ?_
  rintro e wX ⟨rfl, rfl⟩
  rw [H1.out]
  go_wp2
  go_ret
  exact ⟨rfl, HG.out⟩
set_option maxHeartbeats 1000000 in
theorem aliveC_any (w : World) : Calls Tryz.prog 6 #[] w fun e w' => e = .returned (.bool true) ∧ Grew w w' := by
  have HK := Lib.hid (check99 w)
  go_enter Tryz.func6, Tryz.ntmps6
  go_wp2_with fail
  refine HK.out.mono ?_
  rintro e w1 ⟨rfl, g1⟩
  go_wp2
  go_ret
  exact ⟨rfl, g1⟩
theorem same_textC {f g : Cf} {l m : List UInt8} {p q : Bool} (hf : AllIn f) (hg : AllIn g) (h : textC f = (l, p)) (k : textC g = (m, q)) : p = false ∨ (p = true ∧ q = false) ∨ p = true ∧ q = true ∧ (l == m) = sameC f g := by
  by_cases he : okC f
  · rw [textC_yes he] at h
    injection h with h1 h2
    by_cases hk : okC g
    · rw [textC_yes hk] at k
      injection k with k1 k2
      subst h1 h2 k1 k2
      refine .inr (.inr ⟨rfl, rfl, ?_⟩)
      by_cases hs : f = g
      · subst hs; rw [sameC_eq.2 rfl]; simp
      · rw [sameC_ne hs]
        refine beq_eq_false_iff_ne.2 (fun h => hs ?_)
        have e1 := parseC_conf he ⟨hf.2 2 (by decide) (by decide), hf.2 3 (by decide) (by decide)⟩
        rw [h, parseC_conf hk ⟨hg.2 2 (by decide) (by decide), hg.2 3 (by decide) (by decide)⟩] at e1
        exact (Option.some.inj e1).symm
    · rw [textC_no hk] at k
      injection k with _ k2
      exact .inr (.inl ⟨h2.symm, k2.symm⟩)
  · rw [textC_no he] at h
    injection h with _ h2
    exact .inl h2.symm

theorem gTab : Tryz.prog.globalNamed "internal/strconv.uint64pow10" = some 3 := by kernel_rfl
theorem gTabType : (Tryz.prog.globals[3]?).map (·.type) = some 150 := by kernel_rfl
theorem cellsTab : Tryz.prog.cellsOf 150 = 20 := by kernel_rfl
theorem cellsElem : Tryz.prog.cellsOf 48 = 1 := by kernel_rfl
theorem powTab : Lib.pow10Tab = [1, 10, 100, 1000, 10000, 100000, 1000000, 10000000, 100000000, 1000000000, 10000000000, 100000000000, 1000000000000, 10000000000000, 100000000000000, 1000000000000000, 10000000000000000, 100000000000000000, 1000000000000000000, 10000000000000000000] := by decide +kernel
/-- What the row's list gives: the table of powers of ten. -/
theorem table {W : World} (h0 : laidMetH Tryz.prog Rows.confSameRow.laid W) : Lib.TabIs Tryz.prog W "internal/strconv.uint64pow10" .u64 Lib.pow10Tab := by
  have h : laidMet Tryz.prog Rows.confSameRow.laid W := h0
  rw [powTab]
  exact Lib.tabIs_of_head (rest := _) gTab gTabType Tryz.underlying150 Tryz.underlying48 cellsElem cellsTab (h.tail.tail)

set_option maxRecDepth 100000 in
set_option maxHeartbeats 4000000 in
theorem walk (a0 : Option Addr) (n0 c0 : Nat) (f0 : Cf) (a1 : Option Addr) (n1 c1 : Nat) (f1 : Cf) (w : World) (w0 : CameC w a0 n0 c0 f0) (w1 : CameC w a1 n1 c1 f1)
    (hT : Lib.TabIs Tryz.prog w "internal/strconv.uint64pow10" .u64 Lib.pow10Tab) :
    Calls Tryz.prog 5 #[.agg #[.slice a0 n0 c0, .int .i64 f0.sh, .int .i64 f0.ra, .int .i64 f0.mo, .int .i64 f0.wo, .int .i64 f0.ba, .int .i64 f0.mi, .int .i64 f0.st, .int .i64 f0.bu, .int .i64 f0.ch, .int .i64 f0.wi, .int .i64 f0.ca], .agg #[.slice a1 n1 c1, .int .i64 f1.sh, .int .i64 f1.ra, .int .i64 f1.mo, .int .i64 f1.wo, .int .i64 f1.ba, .int .i64 f1.mi, .int .i64 f1.st, .int .i64 f1.bu, .int .i64 f1.ch, .int .i64 f1.wi, .int .i64 f1.ca]] w fun e w' => e = .returned (.bool true) ∧ Below w.heap.size w w' := by
  obtain ⟨hn0, hc0, hm0, _, hr0, hz0, bsh0, bra0, bmo0, bwo0, bba0, bmi0, bst0, bbu0, bch0, bwi0, bca0⟩ := w0
  have HI0 := Lib.hid (allIn_of hz0 bsh0 bra0 bmo0 bwo0 bba0 bmi0 bst0 bbu0 bch0 bwi0 bca0)
  clear hz0 bsh0 bra0 bmo0 bwo0 bba0 bmi0 bst0 bbu0 bch0 bwi0 bca0
  obtain ⟨hn1, hc1, hm1, _, hr1, hz1, bsh1, bra1, bmo1, bwo1, bba1, bmi1, bst1, bbu1, bch1, bwi1, bca1⟩ := w1
  have HI1 := Lib.hid (allIn_of hz1 bsh1 bra1 bmo1 bwo1 bba1 bmi1 bst1 bbu1 bch1 bwi1 bca1)
  clear hz1 bsh1 bra1 bmo1 bwo1 bba1 bmi1 bst1 bbu1 bch1 bwi1 bca1
  have g0 : Grew w ((w.alloc (.cells #[.slice a0 n0 c0, .int .i64 f0.sh, .int .i64 f0.ra, .int .i64 f0.mo, .int .i64 f0.wo, .int .i64 f0.ba, .int .i64 f0.mi, .int .i64 f0.st, .int .i64 f0.bu, .int .i64 f0.ch, .int .i64 f0.wi, .int .i64 f0.ca] 24)).alloc (.cells #[.slice a1 n1 c1, .int .i64 f1.sh, .int .i64 f1.ra, .int .i64 f1.mo, .int .i64 f1.wo, .int .i64 f1.ba, .int .i64 f1.mi, .int .i64 f1.st, .int .i64 f1.bu, .int .i64 f1.ch, .int .i64 f1.wi, .int .i64 f1.ca] 24)) := ((Grew.refl w).alloc _).alloc _
  have hm' := CfM.new (w.alloc (.cells #[.slice a0 n0 c0, .int .i64 f0.sh, .int .i64 f0.ra, .int .i64 f0.mo, .int .i64 f0.wo, .int .i64 f0.ba, .int .i64 f0.mi, .int .i64 f0.st, .int .i64 f0.bu, .int .i64 f0.ch, .int .i64 f0.wi, .int .i64 f0.ca] 24)) a1 n1 c1 f1
  rw [World.size_alloc] at hm'
  have HM0 := Lib.hid ((CfM.new w a0 n0 c0 f0).alloc (.cells #[.slice a1 n1 c1, .int .i64 f1.sh, .int .i64 f1.ra, .int .i64 f1.mo, .int .i64 f1.wo, .int .i64 f1.ba, .int .i64 f1.mi, .int .i64 f1.st, .int .i64 f1.bu, .int .i64 f1.ch, .int .i64 f1.wi, .int .i64 f1.ca] 24))
  have HM1 := Lib.hid hm'
  have HX0 := Lib.hid (hr0.grow g0)
  have HX1 := Lib.hid (hr1.grow g0)
  have HP := Lib.hid (tab_below hT (Nat.le_refl _) g0)
  have HG := Lib.hid g0
  have HN0 := Lib.hid hn0
  have HN1 := Lib.hid hn1
  clear g0 hr0 hr1 hT hn0 hn1 hm'
  by_cases h40 : 40 < n0
  · skip
    go_enter Tryz.func5, Tryz.ntmps5
    go_wp2_with fail
    refine (aliveC_any _).mono ?_
    rintro e w2 ⟨rfl, g2⟩
    go_wp2
    go_ret
    exact ⟨rfl, HG.out.trans g2⟩
  · by_cases h41 : 40 < n1
    · skip
      go_enter Tryz.func5, Tryz.ntmps5
      go_wp2_with fail
      refine (aliveC_any _).mono ?_
      rintro e w2 ⟨rfl, g2⟩
      go_wp2
      go_ret
      exact ⟨rfl, HG.out.trans g2⟩
    · skip
      obtain ⟨tl, ok, hx⟩ : ∃ tl ok, textC f0 = (tl, ok) := ⟨_, _, rfl⟩
      obtain ⟨tm, om, hy⟩ : ∃ tl ok, textC f1 = (tl, ok) := ⟨_, _, rfl⟩
      obtain ⟨d, hd⟩ : ∃ d, sameC f0 f1 = d := ⟨_, rfl⟩
      have HCASE := Lib.hid (same_textC HI0.out HI1.out hx hy)
      have HXT := Lib.hid hx
      have HYT := Lib.hid hy
      have HD := Lib.hid hd
      have hdd : (d == d) = true := beq_self_eq_true d
      clear hx hy hd
      go_enter Tryz.func5, Tryz.ntmps5
      go_wp2_with fail
      generalize hW0 : ((w.alloc (.cells #[.slice a0 n0 c0, .int .i64 f0.sh, .int .i64 f0.ra, .int .i64 f0.mo, .int .i64 f0.wo, .int .i64 f0.ba, .int .i64 f0.mi, .int .i64 f0.st, .int .i64 f0.bu, .int .i64 f0.ch, .int .i64 f0.wi, .int .i64 f0.ca] 24)).alloc (.cells #[.slice a1 n1 c1, .int .i64 f1.sh, .int .i64 f1.ra, .int .i64 f1.mo, .int .i64 f1.wo, .int .i64 f1.ba, .int .i64 f1.mi, .int .i64 f1.st, .int .i64 f1.bu, .int .i64 f1.ch, .int .i64 f1.wi, .int .i64 f1.ca] 24)) = W0 at *
      generalize hb0 : w.heap.size = b0 at *
      clear hW0 hb0
      refine (rsameC_any a0 a1 c0 c1 f0 f1 W0 HN0.out HN1.out (by omega) (by omega) HX0.out HX1.out).mono ?_
      rintro e w1 ⟨rfl, k1⟩
      rw [HD.out]
      have HGr1 := Lib.hid k1
      clear k1
      have q0 := (HM0.out.grow HGr1.out).c0
      have q1 := (HM0.out.grow HGr1.out).c1
      have q2 := (HM0.out.grow HGr1.out).c2
      have q3 := (HM0.out.grow HGr1.out).c3
      have q4 := (HM0.out.grow HGr1.out).c4
      have q5 := (HM0.out.grow HGr1.out).c5
      have q6 := (HM0.out.grow HGr1.out).c6
      have q7 := (HM0.out.grow HGr1.out).c7
      have q8 := (HM0.out.grow HGr1.out).c8
      have q9 := (HM0.out.grow HGr1.out).c9
      have q10 := (HM0.out.grow HGr1.out).c10
      have q11 := (HM0.out.grow HGr1.out).c11
      have r0 := (HM1.out.grow HGr1.out).c0
      have r1 := (HM1.out.grow HGr1.out).c1
      have r2 := (HM1.out.grow HGr1.out).c2
      have r3 := (HM1.out.grow HGr1.out).c3
      have r4 := (HM1.out.grow HGr1.out).c4
      have r5 := (HM1.out.grow HGr1.out).c5
      have r6 := (HM1.out.grow HGr1.out).c6
      have r7 := (HM1.out.grow HGr1.out).c7
      have r8 := (HM1.out.grow HGr1.out).c8
      have r9 := (HM1.out.grow HGr1.out).c9
      have r10 := (HM1.out.grow HGr1.out).c10
      have r11 := (HM1.out.grow HGr1.out).c11
      go_wp2_with fail
      refine (ctext_any a0 c0 f0 w1 HN0.out (by omega) HI0.out (HX0.out.grow HGr1.out) (tab_below HP.out (Nat.le_refl _) HGr1.out)).mono ?_
      rintro e w2 ⟨rfl, k2⟩
      rw [HXT.out]
      have HGr2 := Lib.hid (HGr1.out.trans k2)
      clear k2
      clear q0 q1 q2 q3 q4 q5 q6 q7 q8 q9 q10 q11 r0 r1 r2 r3 r4 r5 r6 r7 r8 r9 r10 r11
      have q0 := (HM0.out.grow HGr2.out).c0
      have q1 := (HM0.out.grow HGr2.out).c1
      have q2 := (HM0.out.grow HGr2.out).c2
      have q3 := (HM0.out.grow HGr2.out).c3
      have q4 := (HM0.out.grow HGr2.out).c4
      have q5 := (HM0.out.grow HGr2.out).c5
      have q6 := (HM0.out.grow HGr2.out).c6
      have q7 := (HM0.out.grow HGr2.out).c7
      have q8 := (HM0.out.grow HGr2.out).c8
      have q9 := (HM0.out.grow HGr2.out).c9
      have q10 := (HM0.out.grow HGr2.out).c10
      have q11 := (HM0.out.grow HGr2.out).c11
      have r0 := (HM1.out.grow HGr2.out).c0
      have r1 := (HM1.out.grow HGr2.out).c1
      have r2 := (HM1.out.grow HGr2.out).c2
      have r3 := (HM1.out.grow HGr2.out).c3
      have r4 := (HM1.out.grow HGr2.out).c4
      have r5 := (HM1.out.grow HGr2.out).c5
      have r6 := (HM1.out.grow HGr2.out).c6
      have r7 := (HM1.out.grow HGr2.out).c7
      have r8 := (HM1.out.grow HGr2.out).c8
      have r9 := (HM1.out.grow HGr2.out).c9
      have r10 := (HM1.out.grow HGr2.out).c10
      have r11 := (HM1.out.grow HGr2.out).c11
      go_wp2_with fail
      refine (ctext_any a1 c1 f1 w2 HN1.out (by omega) HI1.out (HX1.out.grow HGr2.out) (tab_below HP.out (Nat.le_refl _) HGr2.out)).mono ?_
      rintro e w3 ⟨rfl, k3⟩
      rw [HYT.out]
      have HGr3 := Lib.hid (HGr2.out.trans k3)
      clear k3
      clear q0 q1 q2 q3 q4 q5 q6 q7 q8 q9 q10 q11 r0 r1 r2 r3 r4 r5 r6 r7 r8 r9 r10 r11
      have q0 := (HM0.out.grow HGr3.out).c0
      have q1 := (HM0.out.grow HGr3.out).c1
      have q2 := (HM0.out.grow HGr3.out).c2
      have q3 := (HM0.out.grow HGr3.out).c3
      have q4 := (HM0.out.grow HGr3.out).c4
      have q5 := (HM0.out.grow HGr3.out).c5
      have q6 := (HM0.out.grow HGr3.out).c6
      have q7 := (HM0.out.grow HGr3.out).c7
      have q8 := (HM0.out.grow HGr3.out).c8
      have q9 := (HM0.out.grow HGr3.out).c9
      have q10 := (HM0.out.grow HGr3.out).c10
      have q11 := (HM0.out.grow HGr3.out).c11
      have r0 := (HM1.out.grow HGr3.out).c0
      have r1 := (HM1.out.grow HGr3.out).c1
      have r2 := (HM1.out.grow HGr3.out).c2
      have r3 := (HM1.out.grow HGr3.out).c3
      have r4 := (HM1.out.grow HGr3.out).c4
      have r5 := (HM1.out.grow HGr3.out).c5
      have r6 := (HM1.out.grow HGr3.out).c6
      have r7 := (HM1.out.grow HGr3.out).c7
      have r8 := (HM1.out.grow HGr3.out).c8
      have r9 := (HM1.out.grow HGr3.out).c9
      have r10 := (HM1.out.grow HGr3.out).c10
      have r11 := (HM1.out.grow HGr3.out).c11
      go_wp2_with fail
      refine (aliveC_any w3).mono ?_
      rintro e w4 ⟨rfl, k4⟩
      have HGr4 := Lib.hid (HGr3.out.trans k4)
      clear k4
      clear q0 q1 q2 q3 q4 q5 q6 q7 q8 q9 q10 q11 r0 r1 r2 r3 r4 r5 r6 r7 r8 r9 r10 r11
      have q0 := (HM0.out.grow HGr4.out).c0
      have q1 := (HM0.out.grow HGr4.out).c1
      have q2 := (HM0.out.grow HGr4.out).c2
      have q3 := (HM0.out.grow HGr4.out).c3
      have q4 := (HM0.out.grow HGr4.out).c4
      have q5 := (HM0.out.grow HGr4.out).c5
      have q6 := (HM0.out.grow HGr4.out).c6
      have q7 := (HM0.out.grow HGr4.out).c7
      have q8 := (HM0.out.grow HGr4.out).c8
      have q9 := (HM0.out.grow HGr4.out).c9
      have q10 := (HM0.out.grow HGr4.out).c10
      have q11 := (HM0.out.grow HGr4.out).c11
      have r0 := (HM1.out.grow HGr4.out).c0
      have r1 := (HM1.out.grow HGr4.out).c1
      have r2 := (HM1.out.grow HGr4.out).c2
      have r3 := (HM1.out.grow HGr4.out).c3
      have r4 := (HM1.out.grow HGr4.out).c4
      have r5 := (HM1.out.grow HGr4.out).c5
      have r6 := (HM1.out.grow HGr4.out).c6
      have r7 := (HM1.out.grow HGr4.out).c7
      have r8 := (HM1.out.grow HGr4.out).c8
      have r9 := (HM1.out.grow HGr4.out).c9
      have r10 := (HM1.out.grow HGr4.out).c10
      have r11 := (HM1.out.grow HGr4.out).c11
      go_wp2_with fail
      refine (csame_conf a0 a1 c0 c1 f0 f1 w4 HN0.out HN1.out (by omega) (by omega) (HX0.out.grow HGr4.out) (HX1.out.grow HGr4.out)).mono ?_
      rintro e w5 ⟨rfl, k5⟩
      rw [HD.out]
      have HGr5 := Lib.hid (HGr4.out.trans k5)
      clear k5
      clear q0 q1 q2 q3 q4 q5 q6 q7 q8 q9 q10 q11 r0 r1 r2 r3 r4 r5 r6 r7 r8 r9 r10 r11
      have q0 := (HM0.out.grow HGr5.out).c0
      have q1 := (HM0.out.grow HGr5.out).c1
      have q2 := (HM0.out.grow HGr5.out).c2
      have q3 := (HM0.out.grow HGr5.out).c3
      have q4 := (HM0.out.grow HGr5.out).c4
      have q5 := (HM0.out.grow HGr5.out).c5
      have q6 := (HM0.out.grow HGr5.out).c6
      have q7 := (HM0.out.grow HGr5.out).c7
      have q8 := (HM0.out.grow HGr5.out).c8
      have q9 := (HM0.out.grow HGr5.out).c9
      have q10 := (HM0.out.grow HGr5.out).c10
      have q11 := (HM0.out.grow HGr5.out).c11
      have r0 := (HM1.out.grow HGr5.out).c0
      have r1 := (HM1.out.grow HGr5.out).c1
      have r2 := (HM1.out.grow HGr5.out).c2
      have r3 := (HM1.out.grow HGr5.out).c3
      have r4 := (HM1.out.grow HGr5.out).c4
      have r5 := (HM1.out.grow HGr5.out).c5
      have r6 := (HM1.out.grow HGr5.out).c6
      have r7 := (HM1.out.grow HGr5.out).c7
      have r8 := (HM1.out.grow HGr5.out).c8
      have r9 := (HM1.out.grow HGr5.out).c9
      have r10 := (HM1.out.grow HGr5.out).c10
      have r11 := (HM1.out.grow HGr5.out).c11
      go_wp2_with fail
      refine (csame_conf a0 a0 c0 c0 f0 f0 w5 HN0.out HN0.out (by omega) (by omega) (HX0.out.grow HGr5.out) (HX0.out.grow HGr5.out)).mono ?_
      rintro e w6 ⟨rfl, k6⟩
      rw [sameC_eq.2 rfl]
      have HGr6 := Lib.hid (HGr5.out.trans k6)
      clear k6
      clear q0 q1 q2 q3 q4 q5 q6 q7 q8 q9 q10 q11 r0 r1 r2 r3 r4 r5 r6 r7 r8 r9 r10 r11
      have q0 := (HM0.out.grow HGr6.out).c0
      have q1 := (HM0.out.grow HGr6.out).c1
      have q2 := (HM0.out.grow HGr6.out).c2
      have q3 := (HM0.out.grow HGr6.out).c3
      have q4 := (HM0.out.grow HGr6.out).c4
      have q5 := (HM0.out.grow HGr6.out).c5
      have q6 := (HM0.out.grow HGr6.out).c6
      have q7 := (HM0.out.grow HGr6.out).c7
      have q8 := (HM0.out.grow HGr6.out).c8
      have q9 := (HM0.out.grow HGr6.out).c9
      have q10 := (HM0.out.grow HGr6.out).c10
      have q11 := (HM0.out.grow HGr6.out).c11
      have r0 := (HM1.out.grow HGr6.out).c0
      have r1 := (HM1.out.grow HGr6.out).c1
      have r2 := (HM1.out.grow HGr6.out).c2
      have r3 := (HM1.out.grow HGr6.out).c3
      have r4 := (HM1.out.grow HGr6.out).c4
      have r5 := (HM1.out.grow HGr6.out).c5
      have r6 := (HM1.out.grow HGr6.out).c6
      have r7 := (HM1.out.grow HGr6.out).c7
      have r8 := (HM1.out.grow HGr6.out).c8
      have r9 := (HM1.out.grow HGr6.out).c9
      have r10 := (HM1.out.grow HGr6.out).c10
      have r11 := (HM1.out.grow HGr6.out).c11
      clear q0 q1 q2 q3 q4 q5 q6 q7 q8 q9 q10 q11 r0 r1 r2 r3 r4 r5 r6 r7 r8 r9 r10 r11
      rcases HCASE.out with rfl | ⟨rfl, rfl⟩ | ⟨rfl, rfl, t1⟩
      · go_wp2
        go_ret
        exact ⟨ret_bool (by simp), HG.out.trans HGr6.out⟩
      · go_wp2
        go_ret
        exact ⟨ret_bool (by simp), HG.out.trans HGr6.out⟩
      · rw [HD.out] at t1
        go_wp2
        go_ret
        exact ⟨ret_bool (by simp), HG.out.trans HGr6.out⟩

/-- The listed variables hold what they list in a world where the program's start has laid them. -/
theorem laid_met (os : Os) : laidMet Tryz.prog Rows.confSameRow.laid ((World.laidAll Tryz.prog os Rows.confSameRow.laid).forCall (fun _ _ => 0) ⟨#[], #[.agg #[.slice none 0 0, .int .i64 0, .int .i64 0, .int .i64 0, .int .i64 0, .int .i64 0, .int .i64 0, .int .i64 0, .int .i64 0, .int .i64 0, .int .i64 0, .int .i64 0], .agg #[.slice none 0 0, .int .i64 0, .int .i64 0, .int .i64 0, .int .i64 0, .int .i64 0, .int .i64 0, .int .i64 0, .int .i64 0, .int .i64 0, .int .i64 0, .int .i64 0]], []⟩).memory :=
  laidMet_of_run' 8 (by kernel_rfl) (by kernel_rfl)
theorem reads (os : Os) {H : Type} (enc : TypeId × Value → H) : ∃ places, DataW.whole enc Tryz.prog ((World.laidAll Tryz.prog os Rows.confSameRow.laid).forCall (fun _ _ => 0) ⟨#[], #[.agg #[.slice none 0 0, .int .i64 0, .int .i64 0, .int .i64 0, .int .i64 0, .int .i64 0, .int .i64 0, .int .i64 0, .int .i64 0, .int .i64 0, .int .i64 0, .int .i64 0], .agg #[.slice none 0 0, .int .i64 0, .int .i64 0, .int .i64 0, .int .i64 0, .int .i64 0, .int .i64 0, .int .i64 0, .int .i64 0, .int .i64 0, .int .i64 0, .int .i64 0]], []⟩).memory Tryz.f5.params.toList Rows.confSameSpec.vars false (#[.agg #[.slice none 0 0, .int .i64 0, .int .i64 0, .int .i64 0, .int .i64 0, .int .i64 0, .int .i64 0, .int .i64 0, .int .i64 0, .int .i64 0, .int .i64 0, .int .i64 0], .agg #[.slice none 0 0, .int .i64 0, .int .i64 0, .int .i64 0, .int .i64 0, .int .i64 0, .int .i64 0, .int .i64 0, .int .i64 0, .int .i64 0, .int .i64 0, .int .i64 0]] : Array Value).toList 8 = some ([.agg [.nil, .lit (.int .i64 0), .lit (.int .i64 0), .lit (.int .i64 0), .lit (.int .i64 0), .lit (.int .i64 0), .lit (.int .i64 0), .lit (.int .i64 0), .lit (.int .i64 0), .lit (.int .i64 0), .lit (.int .i64 0), .lit (.int .i64 0)], .agg [.nil, .lit (.int .i64 0), .lit (.int .i64 0), .lit (.int .i64 0), .lit (.int .i64 0), .lit (.int .i64 0), .lit (.int .i64 0), .lit (.int .i64 0), .lit (.int .i64 0), .lit (.int .i64 0), .lit (.int .i64 0), .lit (.int .i64 0)]], [], places) :=
  ⟨[], by kernel_rfl⟩

set_option maxRecDepth 100000 in
theorem lifted (os : Os) (started : os.Started) (H : Type) (enc : TypeId × Value → H) (F : Stop.Interp) :
    ReturnsInHanded {} Tryz.checked os 5 .any ((OpenSpec.ofChange Rows.confSameSpec).preRow enc Tryz.prog Tryz.f5 Rows.confSameRow.domain false Rows.confSameRow.laid) (((OpenSpec.ofChange Rows.confSameSpec).at F).post enc Tryz.prog Tryz.f5 false true false false) := by
  obtain ⟨places, hx⟩ := reads os enc
  refine returnsInHanded_of_row (C := Tryz.checked) (s := (OpenSpec.ofChange Rows.confSameSpec)) own started (by kernel_rfl) Tryz.func5
    (witness_row_at (enc := enc) (C := Tryz.checked) false (World.laidAll Tryz.prog os Rows.confSameRow.laid) #[.agg #[.slice none 0 0, .int .i64 0, .int .i64 0, .int .i64 0, .int .i64 0, .int .i64 0, .int .i64 0, .int .i64 0, .int .i64 0, .int .i64 0, .int .i64 0, .int .i64 0], .agg #[.slice none 0 0, .int .i64 0, .int .i64 0, .int .i64 0, .int .i64 0, .int .i64 0, .int .i64 0, .int .i64 0, .int .i64 0, .int .i64 0, .int .i64 0, .int .i64 0]] rfl (by kernel_rfl) (by kernel_rfl) (by kernel_rfl)
      (OpenSpec.preRow_of_cond 8 hx (by kernel_rfl) (fun k hk => by cases hk) (by kernel_rfl) (laid_met os))) ?_
  intro W base args ds gs before hval0 hW _ _ hsz0 hL hsh _
  have hval : ∀ (j : Nat) t v, Tryz.f5.params[j]? = some t → args[j]? = some v → Value.okWide Tryz.prog W .any base t v := hval0
  have hW' := hW
  obtain ⟨p, q, hA0, hV, rfl, hfz, hnd⟩ := hW
  have hA : DataW.TrodAll enc Tryz.prog W 0 (fun _ => true) true Tryz.f5.params.toList args.toList ds p := hA0
  rw [Tryz.params5] at hA hval
  obtain ⟨v0, vs0, d0, ds0, p0, q0, hargs, rfl, rfl, h0, r0⟩ := trodAll_cons hA
  obtain ⟨v1, vs1, d1, ds1, p1, q1, rfl, rfl, rfl, h1, r1⟩ := trodAll_cons r0
  obtain ⟨rfl, rfl, rfl⟩ := trodAll_nil r1
  obtain rfl : args = #[v0, v1] := by cases args; simp_all
  obtain ⟨rfl, rfl⟩ := trodVars_none hV
  have k0 := h0
  have lt0 : ∀ x ∈ p0, x.block < W.heap.size := by obtain ⟨m, hm⟩ := k0; exact DataW.trod_lt m _ _ _ hm
  obtain ⟨a0, n0, c0, f0, rfl, w0⟩ := config_in (hval 0 24 v0 rfl rfl) h0
  have k1 := h1
  have lt1 : ∀ x ∈ p1, x.block < W.heap.size := by obtain ⟨m, hm⟩ := k1; exact DataW.trod_lt m _ _ _ hm
  obtain ⟨a1, n1, c1, f1, rfl, w1⟩ := config_in (hval 1 24 v1 rfl rfl) h1
  clear hA0 hval0 hsz0
  have hwalk := walk a0 n0 c0 f0 a1 n1 c1 f1 W w0 w1 (table hL)
  refine hwalk.mono fun e W' ⟨he, bel⟩ => ?_
  subst he
  exact ⟨_, rfl, _, _, _, [], _, [], hW', trodAll_mk1 (shut_bool Tryz.underlying4 _), (trodAll_cons_mk (Below.trod laidOut (by kernel_rfl) (of_decide_eq_true (by kernel_rfl)) k0 bel lt0) (trodAll_cons_mk (Below.trod laidOut (by kernel_rfl) (of_decide_eq_true (by kernel_rfl)) k1 bel lt1) trodAll_mk0)), rfl, bel.frame _, fun h => by cases h⟩

theorem said : Rows.ConfSameSaid :=
  OpenClaim.holds_of_cond 5 Tryz.f5 rfl rfl rfl rfl rfl rfl rfl ⟨rfl, rfl, rfl, rfl, rfl⟩ rfl rfl rfl rfl rfl (by kernel_rfl) Tryz.func5 (by kernel_rfl)
    (of_decide_eq_true (by kernel_rfl)) (by unfold Func.isWrapper; first | (rw [if_pos (by decide +kernel)]; kernel_rfl) | (rw [if_neg (by decide +kernel)]; exact ⟨rfl, rfl⟩))
    (fun os started H enc _ F => by rw [OpenClaim.pre_eq_preRow]; exact lifted os started H enc F)
theorem plain (f : FuncId) (fn : Func) (hf : Tryz.pinned.checked.prog.funcNamed "sakia/sakialaw11.ConfSame" = some f) (hfn : Tryz.pinned.checked.prog.funcs[f]? = some fn) :
    false = Tryz.pinned.checked.prog.looks [] ∧ ∀ (j : Nat) t, fn.params[j]? = some t → Tryz.pinned.checked.prog.wantsStandIn t = false := by
  obtain rfl : f = 5 := Option.some.inj ((show Tryz.prog.funcNamed "sakia/sakialaw11.ConfSame" = some 5 by kernel_rfl).symm.trans hf) |>.symm
  obtain rfl : fn = Tryz.f5 := (Option.some.inj (Tryz.func5.symm.trans hfn)).symm
  refine ⟨by kernel_rfl, fun j t ht => ?_⟩
  rw [Tryz.params5] at ht
  have hm : t = 24 := by simpa using Array.mem_of_getElem? ht
  obtain rfl := hm
  · exact (show Tryz.prog.wantsStandIn 24 = false by kernel_rfl)

/-- The card. -/
theorem proved : Rows.ConfSameCardSaid :=
  Claim7.holds_tied_plain_at .later [] _ _ _ _ said (fun _ h => by cases h) (by kernel_rfl) (fun _ h => by cases h) confSame_row_tie rfl ⟨rfl, rfl⟩ (by kernel_rfl) rfl plain (by kernel_rfl)
end Go.Proofs.YthcahpgandappaaGreatDoor.confSame
