/- Package perm: permutation, Valid, Need, numbers, bounds, Inverse, Compose. Condition: at most 2^44 numbers. -/
import Derived.Test.YthhhbopigehbhaaTa
import Derived.Test.YthhhbopigehbhaaTm
namespace Go.Proofs.Ythhhbopigehbhaa
open Go.RowKit

theorem wf_in64 {n : Int} (h : In64 n) : (Lit.int .i64 n).wf = true := by
  unfold In64 at h
  simp [Lit.wf, IntKind.min, IntKind.max, IntKind.signed, IntKind.bits]
  omega
/-- The first k numbers are below the length, none of them stands twice, and S has just them. -/
def PreP (zs : List Int) (S : Int → Bool) (k : Nat) : Prop :=
  (∀ j, j < k → 0 ≤ el zs j ∧ el zs j < zs.length) ∧ (∀ i j, i < j → j < k → el zs i ≠ el zs j) ∧ (∀ y, S y = true ↔ ∃ j, j < k ∧ el zs j = y)
theorem PreP.start (zs : List Int) : PreP zs (fun _ => false) 0 := ⟨fun j hj => by omega, fun i j _ hj => by omega, fun y => by simp⟩
theorem PreP.step {zs : List Int} {S : Int → Bool} {k : Nat} (h : PreP zs S k) (h0 : 0 ≤ el zs k) (h1 : el zs k < zs.length) (h2 : S (el zs k) = false) : PreP zs (fun y => decide (y = el zs k) || S y) (k + 1) := by
  refine ⟨fun j hj => ?_, fun i j hij hj e => ?_, fun y => ?_⟩
  · by_cases e : j = k
    · subst e; exact ⟨h0, h1⟩
    · exact h.1 j (by omega)
  · by_cases e' : j = k
    · subst e'
      have := (h.2.2 (el zs j)).2 ⟨i, hij, e⟩
      rw [h2] at this; cases this
    · exact h.2.1 i j hij (by omega) e
  · rw [Bool.or_eq_true, decide_eq_true_eq, h.2.2]
    constructor
    · rintro (rfl | ⟨j, hj, e⟩)
      · exact ⟨k, by omega, rfl⟩
      · exact ⟨j, by omega, e⟩
    · rintro ⟨j, hj, e⟩
      by_cases e' : j = k
      · subst e'; exact .inl e.symm
      · exact .inr ⟨j, by omega, e⟩
theorem PreP.twice {zs : List Int} {S : Int → Bool} {k : Nat} (h : PreP zs S k) (hk : k < zs.length) (h2 : S (el zs k) = true) : validB zs = false := by
  refine validB_no (fun hp => ?_)
  obtain ⟨j, hj, e⟩ := (h.2.2 _).1 h2
  have := hp.2 j k (by omega) hk e
  omega
theorem out_of {zs : List Int} {k : Nat} (hk : k < zs.length) (h : el zs k < 0 ∨ zs.length ≤ el zs k) : validB zs = false := by
  refine validB_no (fun hp => ?_)
  have := hp.1 k hk
  omega
theorem PreP.all {zs : List Int} {S : Int → Bool} (h : PreP zs S zs.length) : validB zs = true := by
  refine validB_yes ⟨h.1, fun i j hi hj e => ?_⟩
  rcases Nat.lt_trichotomy i j with h' | h' | h'
  · exact absurd e (h.2.1 i j h' hj)
  · exact h'
  · exact absurd e.symm (h.2.1 j i h' hi)

set_option maxHeartbeats 1000000 in
theorem perm_any {b n : Nat} {S : Int → Bool} (a : Option Addr) (c : Nat) (zs : List Int) (w : World) (hl : zs.length ≤ 17592186044416) (hf : Fit zs) (hm : Mk w b n S) (h : RdK .i64 w.heap.size w a zs) :
    Calls Try.prog 29 #[.map (some b), .slice a zs.length c] w fun e w' => e = .returned (.bool (validB zs)) ∧ (∃ S', Mk w' b zs.length S') ∧ w.grownBy w' (some b) := by
  obtain ⟨w1, hcl, hm1, hg1⟩ := hm.wipe
  have HM1 := Lib.hid hm1
  have HG1 := Lib.hid hg1
  have HX1 := Lib.hid (h.marked hm.isMap hg1 (Nat.le_refl _))
  have HS1 := Lib.hid hg1.size
  clear hm hm1 hg1 h
  go_enter Try.func29, Try.ntmps29
  go_wp2_with (simp only [hcl])
  clear hcl
  go_wp2
  go_loopw [10] (fun x wr => ∃ k : Nat, k ≤ zs.length ∧ x = .int .i64 k ∧ Hid (w1.grownBy wr (some b)) ∧ ∃ S', Hid (Mk wr b k S') ∧ Hid (PreP zs S' k)) (fun x _ => zs.length - (intOf x).toNat)
  case atStart => exact ⟨0, Nat.zero_le _, rfl, Lib.hid (grown_refl _ _), _, HM1, Lib.hid (PreP.start zs)⟩
  case round =>
    obtain ⟨k, hk, rfl, HG, S', HM, HP⟩ := hrel
    have HGw := Lib.hid (grownBy_trans HG1.out HG.out)
    by_cases hlt : k < zs.length
    · obtain ⟨g, off, rfl, hg, hc⟩ := (HX1.out.marked HM1.out.isMap HG.out HS1.out).at hlt
      have hin := hf k hlt
      have hlk := HM.out.look (wf_in64 hin)
      by_cases h1 : el zs k < 0
      · have HE := Lib.hid (out_of hlt (.inl h1))
        generalize el zs k = z at *
        go_wp2
        go_ret
        exact ⟨ret_bool HE.out.symm, ⟨_, HM.out.more hk⟩, HGw.out⟩
      by_cases h2 : (zs.length : Int) ≤ el zs k
      · have HE := Lib.hid (out_of hlt (.inr h2))
        generalize el zs k = z at *
        go_wp2
        go_ret
        exact ⟨ret_bool HE.out.symm, ⟨_, HM.out.more hk⟩, HGw.out⟩
      cases h3 : S' (el zs k) with
      | true =>
        have HE := Lib.hid (HP.out.twice hlt h3)
        rw [h3] at hlk
        clear h3
        generalize el zs k = z at *
        go_wp2
        go_ret
        exact ⟨ret_bool HE.out.symm, ⟨_, HM.out.more hk⟩, HGw.out⟩
      | false =>
        have HP' := Lib.hid (HP.out.step (by omega) (by omega) h3)
        obtain ⟨w2, hup, hm2, hg2⟩ := HM.out.mark (by unfold maxLen; omega) (wf_in64 hin)
        have HM2 := Lib.hid hm2
        have HG2 := Lib.hid (grownBy_trans HG.out hg2)
        rw [h3] at hlk
        clear h3 hm2 hg2
        generalize el zs k = z at *
        go_wp2
        go_roundw
        case rel => exact ⟨k + 1, by omega, by go_num, HG2, _, HM2, HP'⟩
        case measure => simp [intOf]; omega
    · obtain rfl : k = zs.length := by omega
      have HE := Lib.hid HP.out.all
      go_wp2
      go_ret
      exact ⟨ret_bool HE.out.symm, ⟨_, HM.out⟩, HGw.out⟩
end Go.Proofs.Ythhhbopigehbhaa
