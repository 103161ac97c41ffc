/- The reference of layer 8, first part: Count, Check, Few, Weights, Biases. Conditions: at most 2^44 sizes; where they are counted, at most 16, each in range. -/
import Derived.Test.YthcahpgandappaaHc
namespace Go.Proofs.Ythcahpgandappaa
open Go.RowKit

theorem mul_next (zs : List Int) (k : Nat) : (el zs k + 1) * el zs (k + 1) = wgt zs k + el zs (k + 1) := by
  unfold wgt
  rw [Int.add_mul, Int.one_mul]
set_option maxHeartbeats 1000000 in
theorem rcount_any (a : Option Addr) (c : Nat) (zs : List Int) (w : World) (hl : zs.length ≤ 16) (hok : OkS zs) (h : RdK .i64 w.heap.size w a zs) :
    Calls Try.prog 24 #[.slice a zs.length c] w fun e w' => e = .returned (.int .i64 (cnt zs)) ∧ Grew w w' := by
  have HX := Lib.hid h
  have HO := Lib.hid hok
  clear h hok
  go_enter Try.func24, Try.ntmps24
  go_wp2
  go_loopw [3, 4] (fun n x wr => ∃ k : Nat, k ≤ lnk zs ∧ x = .int .i64 k ∧ n = .int .i64 (cntN zs k) ∧ Hid (Grew w wr)) (fun _ x _ => lnk zs - (intOf x).toNat)
  case atStart => exact ⟨0, Nat.zero_le _, rfl, rfl, Lib.hid (Grew.refl _)⟩
  case round =>
    obtain ⟨k, hk, rfl, rfl, HG⟩ := hrel
    have hk' : k ≤ zs.length - 1 := hk
    by_cases hlt : k + 1 < zs.length
    · obtain ⟨b, off, rfl, hb, hc1, hc2⟩ := (HX.out.grow HG.out).two (k := k) (j := k + 1) (by omega) hlt
      have hkl : k < lnk zs := by unfold lnk; omega
      have hx := this_in HO.out hkl
      have hy := next_in HO.out hkl
      have hw := wgt_in HO.out hkl
      have hn := cntN_in HO.out hk
      have hm := mul_next zs k
      have HS : Hid (cntN zs (k + 1) = cntN zs k + (wgt zs k + el zs (k + 1))) := Lib.hid rfl
      generalize wgt zs k = M at *
      generalize cntN zs k = n at *
      generalize el zs k = x at *
      generalize el zs (k + 1) = y at *
      clear hk
      go_wp2
      go_quiet (fail)
      go_wp2
      go_roundw
      case rel => exact ⟨k + 1, hkl, by go_num, by rw [HS.out], Lib.hid (HG.out.drewN _)⟩
      case measure => unfold lnk; simp [intOf]; omega
    · have HE : Hid (cnt zs = cntN zs k) := Lib.hid (by unfold cnt; rw [show lnk zs = k by unfold lnk; omega])
      go_wp2
      go_ret
      exact ⟨ret_int HE.out.symm, HG.out⟩
theorem rcount_n {n : Nat} (a : Option Addr) (c : Nat) (zs : List Int) (w : World) (hn : zs.length = n) (hl : n ≤ 16) (hok : OkS zs) (h : RdK .i64 w.heap.size w a zs) :
    Calls Try.prog 24 #[.slice a n c] w fun e w' => e = .returned (.int .i64 (cnt zs)) ∧ Grew w w' := by
  subst hn; exact rcount_any a c zs w hl hok h

set_option maxHeartbeats 1000000 in
theorem rcheck_any (a : Option Addr) (c : Nat) (zs : List Int) (w : World) (hl : zs.length ≤ 17592186044416) (h : RdK .i64 w.heap.size w a zs) :
    Calls Try.prog 19 #[.slice a zs.length c] w fun e w' => e = .returned (.int .i64 (codeV zs)) ∧ Grew w w' := by
  have HX := Lib.hid h
  clear h
  by_cases h2 : zs.length < 2
  · have HE := Lib.hid (codeV_short h2)
    go_enter Try.func19, Try.ntmps19
    go_wp2
    go_ret
    exact ⟨ret_int HE.out.symm, Grew.refl _⟩
  · by_cases h16 : 16 < zs.length
    · have HE := Lib.hid (codeV_long h16)
      go_enter Try.func19, Try.ntmps19
      go_wp2
      go_ret
      exact ⟨ret_int HE.out.symm, Grew.refl _⟩
    · go_enter Try.func19, Try.ntmps19
      go_wp2
      go_loop [3] (fun x => ∃ k : Nat, k ≤ zs.length ∧ x = .int .i64 k ∧ Hid (∀ j, j < k → offS (el zs j) = false)) (fun x => zs.length - (intOf x).toNat)
      case atStart => exact ⟨0, Nat.zero_le _, rfl, Lib.hid (fun j hj => absurd hj (Nat.not_lt_zero _))⟩
      case round =>
        obtain ⟨k, hk, rfl, HM⟩ := hrel
        by_cases hlt : k < zs.length
        · obtain ⟨b, off, rfl, hb, hc⟩ := HX.out.at hlt
          by_cases h1 : el zs k < 1
          · have HE := Lib.hid (codeV_bad (badS_yes hlt (by unfold offS; rw [decide_eq_true h1]; rfl)))
            generalize el zs k = z at *
            go_wp2
            go_ret
            exact ⟨ret_int HE.out.symm, Grew.refl _⟩
          · by_cases h3 : 1048576 < el zs k
            · have HE := Lib.hid (codeV_bad (badS_yes hlt (by unfold offS; rw [decide_eq_true h3]; simp)))
              generalize el zs k = z at *
              go_wp2
              go_ret
              exact ⟨ret_int HE.out.symm, Grew.refl _⟩
            · have HM' : Hid (∀ j, j < k + 1 → offS (el zs j) = false) := Lib.hid (fun j hj => by
                by_cases e : j = k
                · subst e; exact offS_no.2 (by omega)
                · exact HM.out j (by omega))
              generalize el zs k = z at *
              go_wp2
              go_round
              case rel => exact ⟨k + 1, by omega, by go_num, HM'⟩
              case measure => simp [intOf]; omega
        · have HO : Hid (OkS zs) := Lib.hid (fun j hj => offS_no.1 (HM.out j (by omega)))
          go_wp2_with fail
          refine (rcount_any a c zs _ (by omega) HO.out HX.out).mono ?_
          rintro e w1 ⟨rfl, g1⟩
          by_cases hc : 1048576 < cnt zs
          · have HE := Lib.hid (codeV_many (by omega) (by omega) HO.out hc)
            generalize cnt zs = n at *
            go_wp2
            go_ret
            exact ⟨ret_int HE.out.symm, g1⟩
          · have HE := Lib.hid (codeV_ok ⟨by omega, by omega, HO.out, by omega⟩)
            generalize cnt zs = n at *
            go_wp2
            go_ret
            exact ⟨ret_int HE.out.symm, g1⟩
theorem rcheck_n {n : Nat} (a : Option Addr) (c : Nat) (zs : List Int) (w : World) (hn : zs.length = n) (hl : n ≤ 17592186044416) (h : RdK .i64 w.heap.size w a zs) :
    Calls Try.prog 19 #[.slice a n c] w fun e w' => e = .returned (.int .i64 (codeV zs)) ∧ Grew w w' := by
  subst hn; exact rcheck_any a c zs w hl h

/-- Whether sizes are few, and those of a small network, if they are right. -/
def fewV (zs : List Int) : Bool := decide (zs.length ≤ 40) && (decide (codeV zs ≠ 0) || decide (cnt zs ≤ 400))
theorem few_many {zs : List Int} (h : ¬ zs.length ≤ 40) : fewV zs = false := by unfold fewV; rw [decide_eq_false h]; rfl
theorem few_wrong {zs : List Int} (h : zs.length ≤ 40) (hc : codeV zs ≠ 0) : fewV zs = true := by unfold fewV; rw [decide_eq_true h, decide_eq_true hc]; rfl
theorem few_right {zs : List Int} (h : zs.length ≤ 40) (hc : codeV zs = 0) : fewV zs = decide (cnt zs ≤ 400) := by unfold fewV; rw [decide_eq_true h, decide_eq_false (by omega)]; rfl
end Go.Proofs.Ythcahpgandappaa
