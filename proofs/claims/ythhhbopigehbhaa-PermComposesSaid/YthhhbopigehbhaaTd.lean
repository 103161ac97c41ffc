/- Package perm: Compose. Condition: at most 2^44 numbers. -/
import Derived.Test.YthhhbopigehbhaaTc
namespace Go.Proofs.Ythhhbopigehbhaa
open Go.RowKit

set_option linter.unusedVariables false
/-- Whether two lists can be composed. -/
noncomputable def canB (ps qs : List Int) : Bool := decide (ps.length = qs.length) && validB ps && validB qs
theorem perm_n {b n m : Nat} {S : Int → Bool} (a : Option Addr) (c : Nat) (zs : List Int) (w : World) (hz : zs.length = m) (hl : m ≤ 17592186044416) (hf : Fit zs) (hm : Mk w b n S) (h : RdK .i64 w.heap.size w a zs) :
    Calls Try.prog 29 #[.map (some b), .slice a m c] w fun e w' => e = .returned (.bool (validB zs)) ∧ (∃ S', Mk w' b zs.length S') ∧ w.grownBy w' (some b) := by
  subst hz; exact perm_any a c zs w hl hf hm h

set_option maxHeartbeats 1000000 in
theorem compose_no (a : Option Addr) (c : Nat) (ps : List Int) (a' : Option Addr) (c' : Nat) (qs : List Int) (w : World) (hl : ps.length ≤ 17592186044416) (hl' : qs.length ≤ 17592186044416) (hf : Fit ps) (hf' : Fit qs) (h : RdK .i64 w.heap.size w a ps) (h' : RdK .i64 w.heap.size w a' qs) (hv : canB ps qs = false) :
    Calls Try.prog 17 #[.slice a ps.length c, .slice a' qs.length c'] w fun e w' => e = .returned (.tuple #[.slice none 0 0, .bool false]) ∧ Grew w w' := by
  by_cases hlen : ps.length = qs.length
  · unfold canB at hv
    rw [decide_eq_true hlen, Bool.true_and] at hv
    have hmm := run_makeMarks ps.length
    have g0 : Grew w (w.alloc (.map #[] 0)) := (Grew.refl w).alloc _
    have HX := Lib.hid (h.grow g0)
    have HY := Lib.hid (h'.grow g0)
    have HM := Lib.hid (Mk.made w)
    have HG := Lib.hid g0
    have HL := Lib.hid hlen.symm
    rw [← hlen]
    clear h h' g0 hlen
    cases hp : validB ps with
    | false =>
      have HV := Lib.hid hp
      clear hp hv
      go_enter Try.func17, Try.ntmps17
      go_wp2_with fail
      refine (perm_any a c ps _ hl hf HM.out HX.out).mono ?_
      rintro e w1 ⟨rfl, ⟨S1, hm1⟩, hg⟩
      rw [HV.out]
      have HG1 := Lib.hid (grew_marked HG.out hg (Nat.le_refl _))
      clear hg hm1
      go_wp2
      go_ret2
      exact ⟨rfl, HG1.out⟩
    | true =>
      have HV := Lib.hid hp
      have HV' : Hid (validB qs = false) := Lib.hid (by rw [hp, Bool.true_and] at hv; exact hv)
      clear hp hv
      go_enter Try.func17, Try.ntmps17
      go_wp2_with fail
      refine (perm_any a c ps _ hl hf HM.out HX.out).mono ?_
      rintro e w1 ⟨rfl, ⟨S1, hm1⟩, hg⟩
      rw [HV.out]
      have HG1 := Lib.hid (grew_marked HG.out hg (Nat.le_refl _))
      have HM1 := Lib.hid hm1
      have HY1 := Lib.hid ((HY.out.marked HM.out.isMap hg (Nat.le_refl _)).mono hg.size)
      clear hg hm1
      go_wp2_with fail
      refine (perm_n a' c' qs _ HL.out hl hf' HM1.out HY1.out).mono ?_
      rintro e w2 ⟨rfl, _, hg⟩
      rw [HV'.out]
      have HG2 := Lib.hid (grew_marked HG1.out hg (Nat.le_refl _))
      clear hg
      go_wp2
      go_ret2
      exact ⟨rfl, HG2.out⟩
  · go_enter Try.func17, Try.ntmps17
    go_wp2
    go_ret2
    exact ⟨rfl, Grew.refl _⟩

set_option maxHeartbeats 1000000 in
theorem compose_yes (a : Option Addr) (c : Nat) (ps : List Int) (a' : Option Addr) (c' : Nat) (qs : List Int) (w : World) (hl : ps.length ≤ 17592186044416) (hf : Fit ps) (hf' : Fit qs) (h : RdK .i64 w.heap.size w a ps) (h' : RdK .i64 w.heap.size w a' qs) (hlen : qs.length = ps.length) (hp : IsP ps) (hq : IsP qs) :
    Calls Try.prog 17 #[.slice a ps.length c, .slice a' ps.length c'] w fun e w' => (∃ a2 c2, e = .returned (.tuple #[.slice a2 ps.length c2, .bool true]) ∧ BufK .i64 3 w.heap.size w' a2 ps.length c2 (compL ps qs)) ∧ Grew w w' := by
  have hmm := run_makeMarks ps.length
  have g0 : Grew w (w.alloc (.map #[] 0)) := (Grew.refl w).alloc _
  have HX0 := Lib.hid h
  have HY0 := Lib.hid h'
  have HX := Lib.hid (h.grow g0)
  have HY := Lib.hid (h'.grow g0)
  have HM := Lib.hid (Mk.made w)
  have HG := Lib.hid g0
  have HL := Lib.hid hlen
  have HV := Lib.hid (validB_yes hp)
  have HV' := Lib.hid (validB_yes hq)
  have HQ : Hid (∀ j, j < ps.length → ∃ y : Nat, y < ps.length ∧ el qs j = y) := Lib.hid (fun j hj => by
    obtain ⟨y, hy, e⟩ := isP_ran hq (j := j) (by omega)
    exact ⟨y, by omega, e⟩)
  have hmk := run_make_row' (P := Try.prog) 22 3 (.int .i64 0) 8 Try.underlying22 (by kernel_rfl) rfl .i64 .i64 ps.length (by omega) (by omega)
  clear h h' g0 hlen hp hq
  go_enter Try.func17, Try.ntmps17
  go_wp2_with fail
  refine (perm_any a c ps _ hl hf HM.out HX.out).mono ?_
  rintro e w1 ⟨rfl, ⟨S1, hm1⟩, hg⟩
  rw [HV.out]
  have HG1 := Lib.hid (grew_marked HG.out hg (Nat.le_refl _))
  have HM1 := Lib.hid hm1
  have HY1 := Lib.hid ((HY.out.marked HM.out.isMap hg (Nat.le_refl _)).mono hg.size)
  clear hg hm1
  go_wp2_with fail
  refine (perm_n a' c' qs _ HL.out hl hf' HM1.out HY1.out).mono ?_
  rintro e w2 ⟨rfl, _, hg⟩
  rw [HV'.out]
  have HG2 := Lib.hid (grew_marked HG1.out hg (Nat.le_refl _))
  have hs2 := HG2.out.size
  have HG3 := Lib.hid (HG2.out.alloc (.cells (madeCells #[.int .i64 0] ps.length) 3))
  have HB0 : Hid (BufK .i64 3 w2.heap.size (w2.alloc (.cells (madeCells #[.int .i64 0] ps.length) 3)) (some ⟨w2.heap.size, 0, none⟩) ps.length ps.length (compK ps qs 0)) := Lib.hid (by
    unfold compK
    rw [HL.out]
    exact BufK.made .i64 3 w2 ps.length (by unfold maxLen; omega))
  clear hg
  go_wp2
  go_loopw [33] (fun x wr => ∃ k : Nat, k ≤ ps.length ∧ x = .int .i64 k ∧ Hid (BufK .i64 3 w2.heap.size wr (some ⟨w2.heap.size, 0, none⟩) ps.length ps.length (compK ps qs k)) ∧ Hid (Grew w wr)) (fun x _ => ps.length - (intOf x).toNat)
  case atStart => exact ⟨0, Nat.zero_le _, rfl, HB0, HG3⟩
  case round =>
    obtain ⟨k, hk, rfl, HB, HG4⟩ := hrel
    by_cases hlt : k < ps.length
    · obtain ⟨g, off, rfl, hg, hc⟩ := (HY0.out.below HG4.out).at (k := k) (by rw [HL.out]; exact hlt)
      obtain ⟨y, hy, hz⟩ := HQ.out k hlt
      obtain ⟨g2, off2, rfl, hg2, hc2⟩ := (HX0.out.below HG4.out).at hy
      obtain ⟨g3, e3, _, hg3, hc3, hf3⟩ := HB.out.at hlt
      obtain rfl : g3 = w2.heap.size := by injection e3 with e3; injection e3 with e3; exact e3.symm
      have HS1 : Hid (BufK .i64 3 w2.heap.size (wr.setCell ⟨w2.heap.size, k, none⟩ (.int .i64 (el ps y))) (some ⟨w2.heap.size, 0, none⟩) ps.length ps.length (compK ps qs (k + 1))) := Lib.hid (by
        have := HB.out.set k (el ps y)
        rw [compK, hz, Int.toNat_natCast]
        exact this)
      have HG5 : Hid (Grew w (wr.setCell ⟨w2.heap.size, k, none⟩ (.int .i64 (el ps y)))) := Lib.hid (Below.setCell HG4.out (p := ⟨w2.heap.size, k, none⟩) hs2 _)
      rw [hz] at hc
      generalize el ps y = z at *
      clear e3 hz
      go_wp2
      go_roundw
      case rel => exact ⟨k + 1, by omega, by go_num, HS1, HG5⟩
      case measure => simp [intOf]; omega
    · obtain rfl : k = ps.length := by omega
      have HE : Hid (compK ps qs ps.length = compL ps qs) := Lib.hid (by unfold compL; rw [HL.out])
      go_wp2
      go_ret2
      exact ⟨⟨_, _, rfl, by rw [← HE.out]; exact HB.out.mono hs2⟩, HG4.out⟩
end Go.Proofs.Ythhhbopigehbhaa
