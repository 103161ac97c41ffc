/-
  For every configuration c, sakialaw11.ConfTexts(c) returns true. No condition.
-/
import Derived.Test.YthcahpgandappaaGreatDoorCards
import Derived.Test.YthcahpgandappaaGreatDoorTie
import Derived.Test.YthcahpgandappaaGreatDoorCd
import Derived.Test.YthcahpgandappaaGreatDoorCv
import Derived.Deep.DeepHandedRow
import Derived.Lib.LaidTab
import Derived.Lay
import Derived.Stop.LaidErr
import Derived.Lib.ItoaNum
import Derived.WalkKit
import Derived.ProofKit
import Derived.OpenShut
import Derived.ShutString
import Derived.ChangeOld
import Derived.Below
import Derived.Lib.SmallJoins
namespace Go.Proofs.YthcahpgandappaaGreatDoor.confTexts
open Go.ChangeShapes Go.WideShapes Go.ChangeAt Go.RowKit Go.Shelf
open Go.ChangeMaps (open_string shut_string)
open Go.Proofs.YthcahpgandappaaGreatDoor
set_option linter.unusedVariables false

theorem own : ownKnob Tryz.prog.godebug = none := by kernel_rfl
theorem laidOut : laidOutB Tryz.prog = true := by kernel_rfl

theorem allIn_of {f : Cf} (h : ∀ x ∈ f.z, i64c x) (h1 : i64c f.sh) (h2 : i64c f.ra) (h3 : i64c f.mo) (h4 : i64c f.wo) (h5 : i64c f.ba) (h6 : i64c f.mi) (h7 : i64c f.st) (h8 : i64c f.bu) (h9 : i64c f.ch) (h10 : i64c f.wi) (h11 : i64c f.ca) : AllIn f :=
  ⟨h, fun k e1 e2 => match k, e1, e2 with
    | 1, _, _ => h1 | 2, _, _ => h2 | 3, _, _ => h3 | 4, _, _ => h4 | 5, _, _ => h5 | 6, _, _ => h6 | 7, _, _ => h7 | 8, _, _ => h8 | 9, _, _ => h9 | 10, _, _ => h10 | 11, _, _ => h11⟩
set_option maxHeartbeats 1000000 in
theorem check99 (w : World) : Calls Tryz.prog 13 #[.agg #[.slice none 0 0, .int .i64 99, .int .i64 0, .int .i64 0, .int .i64 0, .int .i64 0, .int .i64 0, .int .i64 0, .int .i64 0, .int .i64 0, .int .i64 0, .int .i64 0]] w fun e w' => e = .returned (.int .i64 6) ∧ Grew w w' := by
  have HG := Lib.hid ((Grew.refl w).alloc (.cells #[.slice none 0 0, .int .i64 99, .int .i64 0, .int .i64 0, .int .i64 0, .int .i64 0, .int .i64 0, .int .i64 0, .int .i64 0, .int .i64 0, .int .i64 0, .int .i64 0] 24))
  have H1 : Hid (inR 0 1 64 = false) := Lib.hid (by decide +kernel)
  go_enter Tryz.func13, Tryz.ntmps13
  go_wp2_with fail
  refine (within_any _ _ _ _).mono ?_
  rintro e wX ⟨rfl, rfl⟩
  rw [H1.out]
  go_wp2
  go_ret
  exact ⟨rfl, HG.out⟩
set_option maxHeartbeats 1000000 in
theorem aliveC_any (w : World) : Calls Tryz.prog 6 #[] w fun e w' => e = .returned (.bool true) ∧ Grew w w' := by
  have HK := Lib.hid (check99 w)
  go_enter Tryz.func6, Tryz.ntmps6
  go_wp2_with fail
  refine HK.out.mono ?_
  rintro e w1 ⟨rfl, g1⟩
  go_wp2
  go_ret
  exact ⟨rfl, g1⟩
theorem wrV_len40 {f : Cf} {k : Nat} (hz : f.z.length ≤ 40) (hi : AllIn f) (hk : k < 12) : (wrV f k).length ≤ 3360 := by
  have hc : ∀ n, (cntT n).length ≤ 3360 := fun n => by
    cases h : inR n 0 1048576 with
    | true => rw [cntT_yes h]; have := nat_len h; omega
    | false => rw [cntT_no h]; simp
  have ht : ∀ x, i64 x → (textV x f.sh).length ≤ 3360 := fun x hx => by
    unfold textV
    split
    · rename_i h
      have := text_len (q := f.sh.toNat) (toNat_le h) hx.1 hx.2
      omega
    · simp
  match k, hk with
  | 0, _ =>
    show (sizesT f.z).length ≤ _
    unfold sizesT
    split
    · rename_i h
      have := sizesL_len h.2
      omega
    · simp
  | 2, _ => exact ht _ (hi.2 2 (by decide) (by decide))
  | 3, _ => exact ht _ (hi.2 3 (by decide) (by decide))
  | 1, _ => exact hc _
  | 4, _ => exact hc _
  | 5, _ => exact hc _
  | 6, _ => exact hc _
  | 7, _ => exact hc _
  | 8, _ => exact hc _
  | 9, _ => exact hc _
  | 10, _ => exact hc _
  | 11, _ => exact hc _
theorem conf_len40 {f : Cf} (hz : f.z.length ≤ 40) (hi : AllIn f) : (confL f).length ≤ 24 * 3361 := by
  have h := jlensC [32] 3360 (wordsN f 12) (fun p hp => by
    unfold wordsN at hp
    obtain ⟨k, hk, hp⟩ := List.mem_flatMap.1 hp
    have hk' := List.mem_range.1 hk
    simp at hp
    rcases hp with rfl | rfl
    · have := nm_len k; omega
    · exact wrV_len40 hz hi hk')
  rw [words_len] at h
  exact h
/-- What Parse makes of a configuration's text. -/
theorem back_of {f : Cf} {l : List UInt8} {p : Bool} (hz : f.z.length ≤ 40) (hi : AllIn f) (h : textC f = (l, p)) : l.length ≤ 100000 ∧ ((p = true ∧ parseC l = some f) ∨ (p = false ∧ parseC l = none)) := by
  by_cases he : okC f
  · rw [textC_yes he] at h
    injection h with h1 h2
    subst h1 h2
    have := conf_len40 hz hi
    exact ⟨by omega, .inl ⟨rfl, parseC_conf he ⟨hi.2 2 (by decide) (by decide), hi.2 3 (by decide) (by decide)⟩⟩⟩
  · rw [textC_no he] at h
    injection h with h1 h2
    subst h1 h2
    exact ⟨by simp, .inr ⟨rfl, parseC_no (by decide +kernel)⟩⟩

theorem gTab : Tryz.prog.globalNamed "internal/strconv.uint64pow10" = some 3 := by kernel_rfl
theorem gTabType : (Tryz.prog.globals[3]?).map (·.type) = some 150 := by kernel_rfl
theorem cellsTab : Tryz.prog.cellsOf 150 = 20 := by kernel_rfl
theorem cellsElem : Tryz.prog.cellsOf 48 = 1 := by kernel_rfl
theorem powTab : Lib.pow10Tab = [1, 10, 100, 1000, 10000, 100000, 1000000, 10000000, 100000000, 1000000000, 10000000000, 100000000000, 1000000000000, 10000000000000, 100000000000000, 1000000000000000, 10000000000000000, 100000000000000000, 1000000000000000000, 10000000000000000000] := by decide +kernel
/-- What the row's list gives: the table of powers of ten. -/
theorem table {W : World} (h0 : laidMetH Tryz.prog Rows.confTextsRow.laid W) : Lib.TabIs Tryz.prog W "internal/strconv.uint64pow10" .u64 Lib.pow10Tab := by
  have h : laidMet Tryz.prog Rows.confTextsRow.laid W := h0
  rw [powTab]
  exact Lib.tabIs_of_head (rest := _) gTab gTabType Tryz.underlying150 Tryz.underlying48 cellsElem cellsTab (h.tail.tail)

set_option maxRecDepth 100000 in
set_option maxHeartbeats 4000000 in
theorem walk (a0 : Option Addr) (n0 c0 : Nat) (f0 : Cf) (w : World) (w0 : CameC w a0 n0 c0 f0)
    (hT : Lib.TabIs Tryz.prog w "internal/strconv.uint64pow10" .u64 Lib.pow10Tab) (hC : SplitOk w) :
    Calls Tryz.prog 3 #[.agg #[.slice a0 n0 c0, .int .i64 f0.sh, .int .i64 f0.ra, .int .i64 f0.mo, .int .i64 f0.wo, .int .i64 f0.ba, .int .i64 f0.mi, .int .i64 f0.st, .int .i64 f0.bu, .int .i64 f0.ch, .int .i64 f0.wi, .int .i64 f0.ca]] w fun e w' => e = .returned (.bool true) ∧ Below w.heap.size w w' := by
  obtain ⟨hn0, hc0, hm0, _, hr0, hz0, bsh0, bra0, bmo0, bwo0, bba0, bmi0, bst0, bbu0, bch0, bwi0, bca0⟩ := w0
  have HI0 := Lib.hid (allIn_of hz0 bsh0 bra0 bmo0 bwo0 bba0 bmi0 bst0 bbu0 bch0 bwi0 bca0)
  clear hz0 bsh0 bra0 bmo0 bwo0 bba0 bmi0 bst0 bbu0 bch0 bwi0 bca0
  have g0 : Grew w (w.alloc (.cells #[.slice a0 n0 c0, .int .i64 f0.sh, .int .i64 f0.ra, .int .i64 f0.mo, .int .i64 f0.wo, .int .i64 f0.ba, .int .i64 f0.mi, .int .i64 f0.st, .int .i64 f0.bu, .int .i64 f0.ch, .int .i64 f0.wi, .int .i64 f0.ca] 24)) := (Grew.refl w).alloc _
  have HM0 := Lib.hid (CfM.new w a0 n0 c0 f0)
  have HX0 := Lib.hid (hr0.grow g0)
  have HP := Lib.hid (tab_below hT (Nat.le_refl _) g0)
  have HC := Lib.hid (hC.grow g0)
  have HG := Lib.hid g0
  have HN0 := Lib.hid hn0
  clear g0 hr0 hT hC hn0
  by_cases h40 : 40 < n0
  · skip
    go_enter Tryz.func3, Tryz.ntmps3
    go_wp2_with fail
    refine (aliveC_any _).mono ?_
    rintro e w2 ⟨rfl, g2⟩
    go_wp2
    go_ret
    exact ⟨rfl, HG.out.trans g2⟩
  · skip
    have h40' : n0 ≤ 40 := by omega
    obtain ⟨tl, ok, hx⟩ : ∃ tl ok, textC f0 = (tl, ok) := ⟨_, _, rfl⟩
    obtain ⟨hlen, hcase⟩ := back_of (by rw [HN0.out]; exact h40') HI0.out hx
    have HLEN := Lib.hid hlen
    have HCASE := Lib.hid hcase
    have HXT := Lib.hid hx
    have ht2 : (tl != tl) = false := by simp
    have hok1 : (ok != ok) = false := by simp
    have hok2 : (ok == ok) = true := by simp
    clear hx hlen hcase
    go_enter Tryz.func3, Tryz.ntmps3
    go_wp2_with fail
    generalize hW0 : (w.alloc (.cells #[.slice a0 n0 c0, .int .i64 f0.sh, .int .i64 f0.ra, .int .i64 f0.mo, .int .i64 f0.wo, .int .i64 f0.ba, .int .i64 f0.mi, .int .i64 f0.st, .int .i64 f0.bu, .int .i64 f0.ch, .int .i64 f0.wi, .int .i64 f0.ca] 24)) = W0 at *
    generalize hb0 : w.heap.size = b0 at *
    clear hW0 hb0
    refine (ctext_any a0 c0 f0 W0 HN0.out (by omega) HI0.out HX0.out HP.out).mono ?_
    rintro e w1 ⟨rfl, k1⟩
    rw [HXT.out]
    have HGr1 := Lib.hid k1
    clear k1
    have q0 := (HM0.out.grow HGr1.out).c0
    have q1 := (HM0.out.grow HGr1.out).c1
    have q2 := (HM0.out.grow HGr1.out).c2
    have q3 := (HM0.out.grow HGr1.out).c3
    have q4 := (HM0.out.grow HGr1.out).c4
    have q5 := (HM0.out.grow HGr1.out).c5
    have q6 := (HM0.out.grow HGr1.out).c6
    have q7 := (HM0.out.grow HGr1.out).c7
    have q8 := (HM0.out.grow HGr1.out).c8
    have q9 := (HM0.out.grow HGr1.out).c9
    have q10 := (HM0.out.grow HGr1.out).c10
    have q11 := (HM0.out.grow HGr1.out).c11
    go_wp2_with fail
    refine (rtextC_any a0 c0 f0 w1 HN0.out (by omega) HI0.out (HX0.out.grow HGr1.out)).mono ?_
    rintro e w2 ⟨rfl, k2⟩
    rw [HXT.out]
    have HGr2 := Lib.hid (HGr1.out.trans k2)
    clear k2
    clear q0 q1 q2 q3 q4 q5 q6 q7 q8 q9 q10 q11
    have q0 := (HM0.out.grow HGr2.out).c0
    have q1 := (HM0.out.grow HGr2.out).c1
    have q2 := (HM0.out.grow HGr2.out).c2
    have q3 := (HM0.out.grow HGr2.out).c3
    have q4 := (HM0.out.grow HGr2.out).c4
    have q5 := (HM0.out.grow HGr2.out).c5
    have q6 := (HM0.out.grow HGr2.out).c6
    have q7 := (HM0.out.grow HGr2.out).c7
    have q8 := (HM0.out.grow HGr2.out).c8
    have q9 := (HM0.out.grow HGr2.out).c9
    have q10 := (HM0.out.grow HGr2.out).c10
    have q11 := (HM0.out.grow HGr2.out).c11
    go_wp2_with fail
    refine (cparse_any _ w2 (by have := HLEN.out; show tl.length ≤ 1000000; omega) (tab_below HP.out (Nat.le_refl _) HGr2.out) (HC.out.grow HGr2.out)).mono ?_
    rintro e w3 ⟨hd, k3⟩
    have HD := Lib.hid hd
    have HGr3 := Lib.hid (HGr2.out.trans k3)
    clear k3 hd
    clear q0 q1 q2 q3 q4 q5 q6 q7 q8 q9 q10 q11
    have q0 := (HM0.out.grow HGr3.out).c0
    have q1 := (HM0.out.grow HGr3.out).c1
    have q2 := (HM0.out.grow HGr3.out).c2
    have q3 := (HM0.out.grow HGr3.out).c3
    have q4 := (HM0.out.grow HGr3.out).c4
    have q5 := (HM0.out.grow HGr3.out).c5
    have q6 := (HM0.out.grow HGr3.out).c6
    have q7 := (HM0.out.grow HGr3.out).c7
    have q8 := (HM0.out.grow HGr3.out).c8
    have q9 := (HM0.out.grow HGr3.out).c9
    have q10 := (HM0.out.grow HGr3.out).c10
    have q11 := (HM0.out.grow HGr3.out).c11
    rcases HCASE.out with ⟨rfl, hp⟩ | ⟨rfl, hp⟩
    · rcases HD.out with ⟨f, a, n, c, hf, rfl, hn, hb⟩ | ⟨hf, rfl⟩
      · obtain rfl : f = f0 := Option.some.inj (hf.symm.trans hp)
        have HB := Lib.hid hb
        have HNN := Lib.hid hn
        have hnn : n = n0 := hn.symm.trans HN0.out
        subst hnn
        clear hb hf hn hp HD HCASE
        go_wp2_with fail
        have gA : Grew w3 (w3.alloc (.cells #[.slice a n c, .int .i64 f.sh, .int .i64 f.ra, .int .i64 f.mo, .int .i64 f.wo, .int .i64 f.ba, .int .i64 f.mi, .int .i64 f.st, .int .i64 f.bu, .int .i64 f.ch, .int .i64 f.wi, .int .i64 f.ca] 24)) := (Grew.refl _).alloc _
        refine (aliveC_any _).mono ?_
        rintro e w4 ⟨rfl, k4⟩
        have HD4 := Lib.hid ((CfM.new w3 a n c f).grow k4)
        have kk := gA.trans k4
        have HGr4 := Lib.hid (HGr3.out.trans kk)
        have HB4 := Lib.hid (HB.out.grow kk)
        clear k4 HB gA kk
        generalize w3.heap.size = b3 at *
        clear q0 q1 q2 q3 q4 q5 q6 q7 q8 q9 q10 q11
        have q0 := (HM0.out.grow HGr4.out).c0
        have q1 := (HM0.out.grow HGr4.out).c1
        have q2 := (HM0.out.grow HGr4.out).c2
        have q3 := (HM0.out.grow HGr4.out).c3
        have q4 := (HM0.out.grow HGr4.out).c4
        have q5 := (HM0.out.grow HGr4.out).c5
        have q6 := (HM0.out.grow HGr4.out).c6
        have q7 := (HM0.out.grow HGr4.out).c7
        have q8 := (HM0.out.grow HGr4.out).c8
        have q9 := (HM0.out.grow HGr4.out).c9
        have q10 := (HM0.out.grow HGr4.out).c10
        have q11 := (HM0.out.grow HGr4.out).c11
        have d0 := (HD4.out).c0
        have d1 := (HD4.out).c1
        have d2 := (HD4.out).c2
        have d3 := (HD4.out).c3
        have d4 := (HD4.out).c4
        have d5 := (HD4.out).c5
        have d6 := (HD4.out).c6
        have d7 := (HD4.out).c7
        have d8 := (HD4.out).c8
        have d9 := (HD4.out).c9
        have d10 := (HD4.out).c10
        have d11 := (HD4.out).c11
        go_wp2_with fail
        refine (rsameC_any a a0 c c0 f f w4 HN0.out HN0.out (by omega) (by omega) HB4.out.rd (HX0.out.grow HGr4.out)).mono ?_
        rintro e w5 ⟨rfl, k5⟩
        rw [sameC_eq.2 rfl]
        have HGr5 := Lib.hid (HGr4.out.trans k5)
        clear k5
        clear q0 q1 q2 q3 q4 q5 q6 q7 q8 q9 q10 q11 d0 d1 d2 d3 d4 d5 d6 d7 d8 d9 d10 d11
        go_wp2
        go_ret
        exact ⟨ret_bool (by simp), HG.out.trans HGr5.out⟩
      · rw [hp] at hf
        cases hf
    · rcases HD.out with ⟨f, a, n, c, hf, rfl, hn, hb⟩ | ⟨hf, rfl⟩
      · rw [hp] at hf
        cases hf
      · clear hf hp HD HCASE
        go_wp2_with fail
        refine (aliveC_any _).mono ?_
        rintro e w4 ⟨rfl, k4⟩
        have HGr4 := Lib.hid ((HGr3.out.alloc _).trans k4)
        clear k4
        clear q0 q1 q2 q3 q4 q5 q6 q7 q8 q9 q10 q11
        go_wp2
        go_ret
        exact ⟨ret_bool (by simp), HG.out.trans HGr4.out⟩

/-- The listed variables hold what they list in a world where the program's start has laid them. -/
theorem laid_met (os : Os) : laidMet Tryz.prog Rows.confTextsRow.laid ((World.laidAll Tryz.prog os Rows.confTextsRow.laid).forCall (fun _ _ => 0) ⟨#[], #[.agg #[.slice none 0 0, .int .i64 0, .int .i64 0, .int .i64 0, .int .i64 0, .int .i64 0, .int .i64 0, .int .i64 0, .int .i64 0, .int .i64 0, .int .i64 0, .int .i64 0]], []⟩).memory :=
  laidMet_of_run' 8 (by kernel_rfl) (by kernel_rfl)
theorem reads (os : Os) {H : Type} (enc : TypeId × Value → H) : ∃ places, DataW.whole enc Tryz.prog ((World.laidAll Tryz.prog os Rows.confTextsRow.laid).forCall (fun _ _ => 0) ⟨#[], #[.agg #[.slice none 0 0, .int .i64 0, .int .i64 0, .int .i64 0, .int .i64 0, .int .i64 0, .int .i64 0, .int .i64 0, .int .i64 0, .int .i64 0, .int .i64 0, .int .i64 0]], []⟩).memory Tryz.f3.params.toList Rows.confTextsSpec.vars false (#[.agg #[.slice none 0 0, .int .i64 0, .int .i64 0, .int .i64 0, .int .i64 0, .int .i64 0, .int .i64 0, .int .i64 0, .int .i64 0, .int .i64 0, .int .i64 0, .int .i64 0]] : Array Value).toList 8 = some ([.agg [.nil, .lit (.int .i64 0), .lit (.int .i64 0), .lit (.int .i64 0), .lit (.int .i64 0), .lit (.int .i64 0), .lit (.int .i64 0), .lit (.int .i64 0), .lit (.int .i64 0), .lit (.int .i64 0), .lit (.int .i64 0), .lit (.int .i64 0)]], [], places) :=
  ⟨[], by kernel_rfl⟩

set_option maxRecDepth 100000 in
theorem lifted (os : Os) (started : os.Started) (H : Type) (enc : TypeId × Value → H) (F : Stop.Interp) :
    ReturnsInHanded {} Tryz.checked os 3 .any ((OpenSpec.ofChange Rows.confTextsSpec).preRow enc Tryz.prog Tryz.f3 Rows.confTextsRow.domain false Rows.confTextsRow.laid) (((OpenSpec.ofChange Rows.confTextsSpec).at F).post enc Tryz.prog Tryz.f3 false true false false) := by
  obtain ⟨places, hx⟩ := reads os enc
  refine returnsInHanded_of_row (C := Tryz.checked) (s := (OpenSpec.ofChange Rows.confTextsSpec)) own started (by kernel_rfl) Tryz.func3
    (witness_row_at (enc := enc) (C := Tryz.checked) false (World.laidAll Tryz.prog os Rows.confTextsRow.laid) #[.agg #[.slice none 0 0, .int .i64 0, .int .i64 0, .int .i64 0, .int .i64 0, .int .i64 0, .int .i64 0, .int .i64 0, .int .i64 0, .int .i64 0, .int .i64 0, .int .i64 0]] rfl (by kernel_rfl) (by kernel_rfl) (by kernel_rfl)
      (OpenSpec.preRow_of_cond 8 hx (by kernel_rfl) (fun k hk => by cases hk) (by kernel_rfl) (laid_met os))) ?_
  intro W base args ds gs before hval0 hW _ _ hsz0 hL hsh _
  have hval : ∀ (j : Nat) t v, Tryz.f3.params[j]? = some t → args[j]? = some v → Value.okWide Tryz.prog W .any base t v := hval0
  have hW' := hW
  obtain ⟨p, q, hA0, hV, rfl, hfz, hnd⟩ := hW
  have hA : DataW.TrodAll enc Tryz.prog W 0 (fun _ => true) true Tryz.f3.params.toList args.toList ds p := hA0
  rw [Tryz.params3] at hA hval
  obtain ⟨v0, vs0, d0, ds0, p0, q0, hargs, rfl, rfl, h0, r0⟩ := trodAll_cons hA
  obtain ⟨rfl, rfl, rfl⟩ := trodAll_nil r0
  obtain rfl : args = #[v0] := by cases args; simp_all
  obtain ⟨rfl, rfl⟩ := trodVars_none hV
  have k0 := h0
  have lt0 : ∀ x ∈ p0, x.block < W.heap.size := by obtain ⟨m, hm⟩ := k0; exact DataW.trod_lt m _ _ _ hm
  obtain ⟨a0, n0, c0, f0, rfl, w0⟩ := config_in (hval 0 24 v0 rfl rfl) h0
  clear hA0 hval0 hsz0
  have hwalk := walk a0 n0 c0 f0 W w0 (table hL) (splitOk_of W hsh)
  refine hwalk.mono fun e W' ⟨he, bel⟩ => ?_
  subst he
  exact ⟨_, rfl, _, _, _, [], _, [], hW', trodAll_mk1 (shut_bool Tryz.underlying4 _), (trodAll_cons_mk (Below.trod laidOut (by kernel_rfl) (of_decide_eq_true (by kernel_rfl)) k0 bel lt0) trodAll_mk0), rfl, bel.frame _, fun h => by cases h⟩

theorem said : Rows.ConfTextsSaid :=
  OpenClaim.holds_of_cond 3 Tryz.f3 rfl rfl rfl rfl rfl rfl rfl ⟨rfl, rfl, rfl, rfl, rfl⟩ rfl rfl rfl rfl rfl (by kernel_rfl) Tryz.func3 (by kernel_rfl)
    (of_decide_eq_true (by kernel_rfl)) (by unfold Func.isWrapper; first | (rw [if_pos (by decide +kernel)]; kernel_rfl) | (rw [if_neg (by decide +kernel)]; exact ⟨rfl, rfl⟩))
    (fun os started H enc _ F => by rw [OpenClaim.pre_eq_preRow]; exact lifted os started H enc F)
theorem plain (f : FuncId) (fn : Func) (hf : Tryz.pinned.checked.prog.funcNamed "sakia/sakialaw11.ConfTexts" = some f) (hfn : Tryz.pinned.checked.prog.funcs[f]? = some fn) :
    false = Tryz.pinned.checked.prog.looks [] ∧ ∀ (j : Nat) t, fn.params[j]? = some t → Tryz.pinned.checked.prog.wantsStandIn t = false := by
  obtain rfl : f = 3 := Option.some.inj ((show Tryz.prog.funcNamed "sakia/sakialaw11.ConfTexts" = some 3 by kernel_rfl).symm.trans hf) |>.symm
  obtain rfl : fn = Tryz.f3 := (Option.some.inj (Tryz.func3.symm.trans hfn)).symm
  refine ⟨by kernel_rfl, fun j t ht => ?_⟩
  rw [Tryz.params3] at ht
  have hm : t = 24 := by simpa using Array.mem_of_getElem? ht
  obtain rfl := hm
  · exact (show Tryz.prog.wantsStandIn 24 = false by kernel_rfl)

/-- The card. -/
theorem proved : Rows.ConfTextsCardSaid :=
  Claim7.holds_tied_plain_at .later [] _ _ _ _ said (fun _ h => by cases h) (by kernel_rfl) (fun _ h => by cases h) confTexts_row_tie rfl ⟨rfl, rfl⟩ (by kernel_rfl) rfl plain (by kernel_rfl)
end Go.Proofs.YthcahpgandappaaGreatDoor.confTexts
