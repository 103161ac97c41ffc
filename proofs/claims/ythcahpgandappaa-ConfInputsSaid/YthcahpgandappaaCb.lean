/- conf.Check and the reference's Check, at any configuration. Condition: the sizes' length is at most their capacity. -/
import Derived.Test.YthcahpgandappaaCa
import Derived.Test.YthcahpgandappaaHg
import Derived.Test.YthcahpgandappaaHd
namespace Go.Proofs.Ythcahpgandappaa
open Go.RowKit

def fiveR (f : Cf) : Bool := inR f.mi 1 1048576 && inR f.bu 1 1048576 && inR f.ch 1 1048576 && inR f.wi 1 1048576 && inR f.ca 1 1048576
/-- The code of a configuration. -/
def codeC (f : Cf) : Int :=
  if inR f.wo 1 64 = false then 6 else if inR f.sh 1 62 = false then 9 else if codeV f.z ≠ 0 then codeV f.z
  else if fiveR f = false ∨ inR f.st 0 1048576 = false then 2 else if inR f.ba f.wo 1048576 = false then 7 else 0
theorem codeC_0 {f : Cf} (h : codeC f = 0) : inR f.wo 1 64 = true ∧ inR f.sh 1 62 = true ∧ codeV f.z = 0 ∧ fiveR f = true ∧ inR f.st 0 1048576 = true ∧ inR f.ba f.wo 1048576 = true := by
  unfold codeC at h
  cases h1 : inR f.wo 1 64 <;> cases h2 : inR f.sh 1 62 <;> by_cases h3 : codeV f.z = 0 <;> cases h4 : fiveR f <;> cases h5 : inR f.st 0 1048576 <;> cases h6 : inR f.ba f.wo 1048576 <;> simp [h1, h2, h3, h4, h5, h6] at h ⊢
theorem within_any (n lo hi : Int) (w : World) : Calls Try.prog 16 #[.int .i64 n, .int .i64 lo, .int .i64 hi] w fun e w' => e = .returned (.bool (inR n lo hi)) ∧ w = w' := by
  by_cases h1 : lo ≤ n
  · by_cases h2 : n ≤ hi
    · have HE := Lib.hid (inR_yes ⟨h1, h2⟩)
      go_enter Try.func16, Try.ntmps16
      go_wp2
      go_ret
      exact ⟨ret_bool HE.out.symm, rfl⟩
    · have HE := Lib.hid (inR_no (n := n) (lo := lo) (hi := hi) (by omega))
      go_enter Try.func16, Try.ntmps16
      go_wp2
      go_ret
      exact ⟨ret_bool HE.out.symm, rfl⟩
  · have HE := Lib.hid (inR_no (n := n) (lo := lo) (hi := hi) (by omega))
    go_enter Try.func16, Try.ntmps16
    go_wp2
    go_ret
    exact ⟨ret_bool HE.out.symm, rfl⟩
theorem between_any (n lo hi : Int) (w : World) : Calls Try.prog 18 #[.int .i64 n, .int .i64 lo, .int .i64 hi] w fun e w' => e = .returned (.bool (inR n lo hi)) ∧ w = w' := by
  by_cases h1 : lo ≤ n
  · by_cases h2 : n ≤ hi
    · have HE := Lib.hid (inR_yes ⟨h1, h2⟩)
      go_enter Try.func18, Try.ntmps18
      go_wp2
      go_ret
      exact ⟨ret_bool HE.out.symm, rfl⟩
    · have HE := Lib.hid (inR_no (n := n) (lo := lo) (hi := hi) (by omega))
      go_enter Try.func18, Try.ntmps18
      go_wp2
      go_ret
      exact ⟨ret_bool HE.out.symm, rfl⟩
  · have HE := Lib.hid (inR_no (n := n) (lo := lo) (hi := hi) (by omega))
    go_enter Try.func18, Try.ntmps18
    go_wp2
    go_ret
    exact ⟨ret_bool HE.out.symm, rfl⟩
theorem five_at0 (x0 x1 x2 x3 x4 : Int) (W : World) : (Instr.index 44 (.agg #[.int .i64 x0, .int .i64 x1, .int .i64 x2, .int .i64 x3, .int .i64 x4]) (.int .i64 0)).run Try.prog W = .ok (.int .i64 x0) W := by kernel_rfl
theorem five_at1 (x0 x1 x2 x3 x4 : Int) (W : World) : (Instr.index 44 (.agg #[.int .i64 x0, .int .i64 x1, .int .i64 x2, .int .i64 x3, .int .i64 x4]) (.int .i64 1)).run Try.prog W = .ok (.int .i64 x1) W := by kernel_rfl
theorem five_at2 (x0 x1 x2 x3 x4 : Int) (W : World) : (Instr.index 44 (.agg #[.int .i64 x0, .int .i64 x1, .int .i64 x2, .int .i64 x3, .int .i64 x4]) (.int .i64 2)).run Try.prog W = .ok (.int .i64 x2) W := by kernel_rfl
theorem five_at3 (x0 x1 x2 x3 x4 : Int) (W : World) : (Instr.index 44 (.agg #[.int .i64 x0, .int .i64 x1, .int .i64 x2, .int .i64 x3, .int .i64 x4]) (.int .i64 3)).run Try.prog W = .ok (.int .i64 x3) W := by kernel_rfl
theorem five_at4 (x0 x1 x2 x3 x4 : Int) (W : World) : (Instr.index 44 (.agg #[.int .i64 x0, .int .i64 x1, .int .i64 x2, .int .i64 x3, .int .i64 x4]) (.int .i64 4)).run Try.prog W = .ok (.int .i64 x4) W := by kernel_rfl
def five (f : Cf) : Nat → Int
  | 0 => f.mi
  | 1 => f.bu
  | 2 => f.ch
  | 3 => f.wi
  | _ => f.ca
theorem five_yes {f : Cf} (h : ∀ j, j < 5 → inR (five f j) 1 1048576 = true) : fiveR f = true := by
  have h0 : inR f.mi 1 1048576 = true := h 0 (by decide)
  have h1 : inR f.bu 1 1048576 = true := h 1 (by decide)
  have h2 : inR f.ch 1 1048576 = true := h 2 (by decide)
  have h3 : inR f.wi 1 1048576 = true := h 3 (by decide)
  have h4 : inR f.ca 1 1048576 = true := h 4 (by decide)
  unfold fiveR
  rw [h0, h1, h2, h3, h4]; rfl
theorem five_no {f : Cf} {j : Nat} (hj : j < 5) (h : inR (five f j) 1 1048576 = false) : fiveR f = false := by
  unfold fiveR
  match j, hj with
  | 0, _ => rw [show inR f.mi 1 1048576 = false from h]; rfl
  | 1, _ => rw [show inR f.bu 1 1048576 = false from h]; simp
  | 2, _ => rw [show inR f.ch 1 1048576 = false from h]; simp
  | 3, _ => rw [show inR f.wi 1 1048576 = false from h]; simp
  | 4, _ => rw [show inR f.ca 1 1048576 = false from h]; simp

set_option maxRecDepth 100000 in
set_option maxHeartbeats 4000000 in
theorem check_any {n : Nat} (a : Option Addr) (c : Nat) (f : Cf) (w : World) (hn : f.z.length = n) (hl : n ≤ 17592186044416) (hc : n ≤ c) (hm : c ≤ maxLen) (h : RdK .i64 w.heap.size w a f.z) :
    Calls Try.prog 7 #[.agg #[.slice a n c, .int .i64 f.sh, .int .i64 f.ra, .int .i64 f.mo, .int .i64 f.wo, .int .i64 f.ba, .int .i64 f.mi, .int .i64 f.st, .int .i64 f.bu, .int .i64 f.ch, .int .i64 f.wi, .int .i64 f.ca]] w fun e w' => e = .returned (.int .i64 (codeC f)) ∧ Grew w w' := by
  have g0 : Grew w (w.alloc (.cells #[.slice a n c, .int .i64 f.sh, .int .i64 f.ra, .int .i64 f.mo, .int .i64 f.wo, .int .i64 f.ba, .int .i64 f.mi, .int .i64 f.st, .int .i64 f.bu, .int .i64 f.ch, .int .i64 f.wi, .int .i64 f.ca] 24)) := (Grew.refl w).alloc _
  have HM := Lib.hid (CfM.new w a n c f)
  have HX := Lib.hid (h.grow g0)
  have HG := Lib.hid g0
  have HN := Lib.hid hn
  clear h g0 hn
  cases h1 : inR f.wo 1 64 with
  | false =>
    have HE : Hid (codeC f = 6) := Lib.hid (by unfold codeC; rw [if_pos h1])
    have H1 := Lib.hid h1
    have HGG := HG
    clear h1
    go_enter Try.func7, Try.ntmps7
    go_wp2_with fail
    refine (within_any _ _ _ _).mono ?_
    rintro e wX ⟨rfl, rfl⟩
    rw [H1.out]
    go_wp2
    go_ret
    exact ⟨ret_int HE.out.symm, HGG.out⟩
  | true =>
    have H1 := Lib.hid h1
    cases h2 : inR f.sh 1 62 with
    | false =>
      have HE : Hid (codeC f = 9) := Lib.hid (by unfold codeC; rw [if_neg (by simp [h1]), if_pos h2])
      have H2 := Lib.hid h2
      have HGG := HG
      clear h1 h2
      go_enter Try.func7, Try.ntmps7
      go_wp2_with fail
      refine (within_any _ _ _ _).mono ?_
      rintro e wX ⟨rfl, rfl⟩
      rw [H1.out]
      go_wp2_with fail
      refine (within_any _ _ _ _).mono ?_
      rintro e wX ⟨rfl, rfl⟩
      rw [H2.out]
      go_wp2
      go_ret
      exact ⟨ret_int HE.out.symm, HGG.out⟩
    | true =>
      have H2 := Lib.hid h2
      by_cases h3 : codeV f.z = 0
      · have HZ := Lib.hid h3
        have HC2 : Hid (fiveR f = false ∨ inR f.st 0 1048576 = false → codeC f = 2) := Lib.hid (fun h => by unfold codeC; rw [if_neg (by simp [h1]), if_neg (by simp [h2]), if_neg (by simp [h3]), if_pos h])
        have HC7 : Hid (fiveR f = true → inR f.st 0 1048576 = true → inR f.ba f.wo 1048576 = false → codeC f = 7) := Lib.hid (fun h4 h5 h6 => by unfold codeC; rw [if_neg (by simp [h1]), if_neg (by simp [h2]), if_neg (by simp [h3]), if_neg (by simp [h4, h5]), if_pos h6])
        have HC0 : Hid (fiveR f = true → inR f.st 0 1048576 = true → inR f.ba f.wo 1048576 = true → codeC f = 0) := Lib.hid (fun h4 h5 h6 => by unfold codeC; rw [if_neg (by simp [h1]), if_neg (by simp [h2]), if_neg (by simp [h3]), if_neg (by simp [h4, h5]), if_neg (by simp [h6])])
        clear h1 h2 h3
        go_enter Try.func7, Try.ntmps7
        go_wp2_with fail
        refine (within_any _ _ _ _).mono ?_
        rintro e wX ⟨rfl, rfl⟩
        rw [H1.out]
        go_wp2_with fail
        refine (within_any _ _ _ _).mono ?_
        rintro e wX ⟨rfl, rfl⟩
        rw [H2.out]
        go_wp2_with fail
        generalize hW0 : w.alloc (.cells #[.slice a n c, .int .i64 f.sh, .int .i64 f.ra, .int .i64 f.mo, .int .i64 f.wo, .int .i64 f.ba, .int .i64 f.mi, .int .i64 f.st, .int .i64 f.bu, .int .i64 f.ch, .int .i64 f.wi, .int .i64 f.ca] 24) = W0 at *
        generalize hb0 : w.heap.size = b0 at *
        refine (new_ok a c f.z W0 HN.out hc hm HZ.out HX.out).mono ?_
        rintro e W1 ⟨⟨bs, rfl, _⟩, g1⟩
        have HMk := Lib.hid (HM.out.grow g1)
        have HGk := Lib.hid (HG.out.trans g1)
        clear HM HG g1
        have d6 := HMk.out.c6
        have d8 := HMk.out.c8
        have d9 := HMk.out.c9
        have d10 := HMk.out.c10
        have d11 := HMk.out.c11
        go_wp2_with fail
        go_loopw [35] (fun x wr => ∃ k : Nat, k ≤ 5 ∧ x = .int .i64 k ∧ Hid (∀ j, j < k → inR (five f j) 1 1048576 = true) ∧ wr = W1) (fun x _ => 5 - (intOf x).toNat)
        case atStart => exact ⟨0, by decide, rfl, Lib.hid (fun j hj => absurd hj (Nat.not_lt_zero _)), rfl⟩
        case round =>
          obtain ⟨k, hk, rfl, HF, rfl⟩ := hrel
          have hk6 : k = 0 ∨ k = 1 ∨ k = 2 ∨ k = 3 ∨ k = 4 ∨ k = 5 := by omega
          clear hk
          rcases hk6 with rfl | rfl | rfl | rfl | rfl | rfl
          · cases h5 : inR f.mi 1 1048576 with
            | false =>
              have HE := Lib.hid (HC2.out (.inl (five_no (j := 0) (by decide) h5)))
              have H5 := Lib.hid h5
              clear h5
              have hix := five_at0
              go_wp2_with fail
              refine (within_any _ _ _ _).mono ?_
              rintro e wX ⟨rfl, rfl⟩
              rw [H5.out]
              go_wp2
              go_ret
              exact ⟨ret_int HE.out.symm, HGk.out⟩
            | true =>
              have H5 := Lib.hid h5
              have HF' : Hid (∀ j, j < 1 → inR (five f j) 1 1048576 = true) := Lib.hid (fun j hj => by
                by_cases e : j = 0
                · subst e; exact h5
                · exact HF.out j (by omega))
              clear h5
              have hix := five_at0
              go_wp2_with fail
              refine (within_any _ _ _ _).mono ?_
              rintro e wX ⟨rfl, rfl⟩
              rw [H5.out]
              go_wp2
              go_roundw
              case rel => exact ⟨1, by decide, rfl, HF', by simp⟩
              case measure => simp [intOf]
          · cases h5 : inR f.bu 1 1048576 with
            | false =>
              have HE := Lib.hid (HC2.out (.inl (five_no (j := 1) (by decide) h5)))
              have H5 := Lib.hid h5
              clear h5
              have hix := five_at1
              go_wp2_with fail
              refine (within_any _ _ _ _).mono ?_
              rintro e wX ⟨rfl, rfl⟩
              rw [H5.out]
              go_wp2
              go_ret
              exact ⟨ret_int HE.out.symm, HGk.out⟩
            | true =>
              have H5 := Lib.hid h5
              have HF' : Hid (∀ j, j < 2 → inR (five f j) 1 1048576 = true) := Lib.hid (fun j hj => by
                by_cases e : j = 1
                · subst e; exact h5
                · exact HF.out j (by omega))
              clear h5
              have hix := five_at1
              go_wp2_with fail
              refine (within_any _ _ _ _).mono ?_
              rintro e wX ⟨rfl, rfl⟩
              rw [H5.out]
              go_wp2
              go_roundw
              case rel => exact ⟨2, by decide, rfl, HF', by simp⟩
              case measure => simp [intOf]
          · cases h5 : inR f.ch 1 1048576 with
            | false =>
              have HE := Lib.hid (HC2.out (.inl (five_no (j := 2) (by decide) h5)))
              have H5 := Lib.hid h5
              clear h5
              have hix := five_at2
              go_wp2_with fail
              refine (within_any _ _ _ _).mono ?_
              rintro e wX ⟨rfl, rfl⟩
              rw [H5.out]
              go_wp2
              go_ret
              exact ⟨ret_int HE.out.symm, HGk.out⟩
            | true =>
              have H5 := Lib.hid h5
              have HF' : Hid (∀ j, j < 3 → inR (five f j) 1 1048576 = true) := Lib.hid (fun j hj => by
                by_cases e : j = 2
                · subst e; exact h5
                · exact HF.out j (by omega))
              clear h5
              have hix := five_at2
              go_wp2_with fail
              refine (within_any _ _ _ _).mono ?_
              rintro e wX ⟨rfl, rfl⟩
              rw [H5.out]
              go_wp2
              go_roundw
              case rel => exact ⟨3, by decide, rfl, HF', by simp⟩
              case measure => simp [intOf]
          · cases h5 : inR f.wi 1 1048576 with
            | false =>
              have HE := Lib.hid (HC2.out (.inl (five_no (j := 3) (by decide) h5)))
              have H5 := Lib.hid h5
              clear h5
              have hix := five_at3
              go_wp2_with fail
              refine (within_any _ _ _ _).mono ?_
              rintro e wX ⟨rfl, rfl⟩
              rw [H5.out]
              go_wp2
              go_ret
              exact ⟨ret_int HE.out.symm, HGk.out⟩
            | true =>
              have H5 := Lib.hid h5
              have HF' : Hid (∀ j, j < 4 → inR (five f j) 1 1048576 = true) := Lib.hid (fun j hj => by
                by_cases e : j = 3
                · subst e; exact h5
                · exact HF.out j (by omega))
              clear h5
              have hix := five_at3
              go_wp2_with fail
              refine (within_any _ _ _ _).mono ?_
              rintro e wX ⟨rfl, rfl⟩
              rw [H5.out]
              go_wp2
              go_roundw
              case rel => exact ⟨4, by decide, rfl, HF', by simp⟩
              case measure => simp [intOf]
          · cases h5 : inR f.ca 1 1048576 with
            | false =>
              have HE := Lib.hid (HC2.out (.inl (five_no (j := 4) (by decide) h5)))
              have H5 := Lib.hid h5
              clear h5
              have hix := five_at4
              go_wp2_with fail
              refine (within_any _ _ _ _).mono ?_
              rintro e wX ⟨rfl, rfl⟩
              rw [H5.out]
              go_wp2
              go_ret
              exact ⟨ret_int HE.out.symm, HGk.out⟩
            | true =>
              have H5 := Lib.hid h5
              have HF' : Hid (∀ j, j < 5 → inR (five f j) 1 1048576 = true) := Lib.hid (fun j hj => by
                by_cases e : j = 4
                · subst e; exact h5
                · exact HF.out j (by omega))
              clear h5
              have hix := five_at4
              go_wp2_with fail
              refine (within_any _ _ _ _).mono ?_
              rintro e wX ⟨rfl, rfl⟩
              rw [H5.out]
              go_wp2
              go_roundw
              case rel => exact ⟨5, by decide, rfl, HF', by simp⟩
              case measure => simp [intOf]
          · have H5 := Lib.hid (five_yes HF.out)
            have c4 := HMk.out.c4
            have c5 := HMk.out.c5
            have c7 := HMk.out.c7
            cases h6 : inR f.st 0 1048576 with
            | false =>
              have HE := Lib.hid (HC2.out (.inr h6))
              have H6 := Lib.hid h6
              clear h6
              go_wp2_with fail
              refine (within_any _ _ _ _).mono ?_
              rintro e wX ⟨rfl, rfl⟩
              rw [H6.out]
              go_wp2
              go_ret
              exact ⟨ret_int HE.out.symm, HGk.out⟩
            | true =>
              have H6 := Lib.hid h6
              clear h6
              cases h7 : inR f.ba f.wo 1048576 with
              | false =>
                have HE := Lib.hid (HC7.out H5.out H6.out h7)
                have H7 := Lib.hid h7
                clear h7
                go_wp2_with fail
                refine (within_any _ _ _ _).mono ?_
                rintro e wX ⟨rfl, rfl⟩
                rw [H6.out]
                go_wp2_with fail
                refine (within_any _ _ _ _).mono ?_
                rintro e wX ⟨rfl, rfl⟩
                rw [H7.out]
                go_wp2
                go_ret
                exact ⟨ret_int HE.out.symm, HGk.out⟩
              | true =>
                have HE := Lib.hid (HC0.out H5.out H6.out h7)
                have H7 := Lib.hid h7
                clear h7
                go_wp2_with fail
                refine (within_any _ _ _ _).mono ?_
                rintro e wX ⟨rfl, rfl⟩
                rw [H6.out]
                go_wp2_with fail
                refine (within_any _ _ _ _).mono ?_
                rintro e wX ⟨rfl, rfl⟩
                rw [H7.out]
                go_wp2
                go_ret
                exact ⟨ret_int HE.out.symm, HGk.out⟩
      · have HE : Hid (codeC f = codeV f.z) := Lib.hid (by unfold codeC; rw [if_neg (by simp [h1]), if_neg (by simp [h2]), if_pos h3])
        have hb : (codeV f.z != 0) = true := by simp [h3]
        have HNE := Lib.hid h3
        clear h1 h2 h3
        go_enter Try.func7, Try.ntmps7
        go_wp2_with fail
        refine (within_any _ _ _ _).mono ?_
        rintro e wX ⟨rfl, rfl⟩
        rw [H1.out]
        go_wp2_with fail
        refine (within_any _ _ _ _).mono ?_
        rintro e wX ⟨rfl, rfl⟩
        rw [H2.out]
        go_wp2_with fail
        generalize hW0 : w.alloc (.cells #[.slice a n c, .int .i64 f.sh, .int .i64 f.ra, .int .i64 f.mo, .int .i64 f.wo, .int .i64 f.ba, .int .i64 f.mi, .int .i64 f.st, .int .i64 f.bu, .int .i64 f.ch, .int .i64 f.wi, .int .i64 f.ca] 24) = W0 at *
        generalize hb0 : w.heap.size = b0 at *
        refine (new_bad a c f.z W0 HN.out hl hc hm HNE.out HX.out).mono ?_
        rintro e W1 ⟨rfl, g1⟩
        have HGk := Lib.hid (HG.out.trans g1)
        generalize codeV f.z = cv at *
        go_wp2
        go_ret
        exact ⟨ret_int HE.out.symm, HGk.out⟩

set_option maxRecDepth 100000 in
set_option maxHeartbeats 4000000 in
theorem rcheckC_any {n : Nat} (a : Option Addr) (c : Nat) (f : Cf) (w : World) (hn : f.z.length = n) (hl : n ≤ 17592186044416) (_hc : n ≤ c) (_hm : c ≤ maxLen) (h : RdK .i64 w.heap.size w a f.z) :
    Calls Try.prog 8 #[.agg #[.slice a n c, .int .i64 f.sh, .int .i64 f.ra, .int .i64 f.mo, .int .i64 f.wo, .int .i64 f.ba, .int .i64 f.mi, .int .i64 f.st, .int .i64 f.bu, .int .i64 f.ch, .int .i64 f.wi, .int .i64 f.ca]] w fun e w' => e = .returned (.int .i64 (codeC f)) ∧ Grew w w' := by
  have g0 : Grew w (w.alloc (.cells #[.slice a n c, .int .i64 f.sh, .int .i64 f.ra, .int .i64 f.mo, .int .i64 f.wo, .int .i64 f.ba, .int .i64 f.mi, .int .i64 f.st, .int .i64 f.bu, .int .i64 f.ch, .int .i64 f.wi, .int .i64 f.ca] 24)) := (Grew.refl w).alloc _
  have HM := Lib.hid (CfM.new w a n c f)
  have HX := Lib.hid (h.grow g0)
  have HG := Lib.hid g0
  have HN := Lib.hid hn
  clear h g0 hn
  cases h1 : inR f.wo 1 64 with
  | false =>
    have HE : Hid (codeC f = 6) := Lib.hid (by unfold codeC; rw [if_pos h1])
    have H1 := Lib.hid h1
    have HGG := HG
    clear h1
    go_enter Try.func8, Try.ntmps8
    go_wp2_with fail
    refine (between_any _ _ _ _).mono ?_
    rintro e wX ⟨rfl, rfl⟩
    rw [H1.out]
    go_wp2
    go_ret
    exact ⟨ret_int HE.out.symm, HGG.out⟩
  | true =>
    have H1 := Lib.hid h1
    cases h2 : inR f.sh 1 62 with
    | false =>
      have HE : Hid (codeC f = 9) := Lib.hid (by unfold codeC; rw [if_neg (by simp [h1]), if_pos h2])
      have H2 := Lib.hid h2
      have HGG := HG
      clear h1 h2
      go_enter Try.func8, Try.ntmps8
      go_wp2_with fail
      refine (between_any _ _ _ _).mono ?_
      rintro e wX ⟨rfl, rfl⟩
      rw [H1.out]
      go_wp2_with fail
      refine (between_any _ _ _ _).mono ?_
      rintro e wX ⟨rfl, rfl⟩
      rw [H2.out]
      go_wp2
      go_ret
      exact ⟨ret_int HE.out.symm, HGG.out⟩
    | true =>
      have H2 := Lib.hid h2
      by_cases h3 : codeV f.z = 0
      · have HZ := Lib.hid h3
        have HC2 : Hid (fiveR f = false ∨ inR f.st 0 1048576 = false → codeC f = 2) := Lib.hid (fun h => by unfold codeC; rw [if_neg (by simp [h1]), if_neg (by simp [h2]), if_neg (by simp [h3]), if_pos h])
        have HC7 : Hid (fiveR f = true → inR f.st 0 1048576 = true → inR f.ba f.wo 1048576 = false → codeC f = 7) := Lib.hid (fun h4 h5 h6 => by unfold codeC; rw [if_neg (by simp [h1]), if_neg (by simp [h2]), if_neg (by simp [h3]), if_neg (by simp [h4, h5]), if_pos h6])
        have HC0 : Hid (fiveR f = true → inR f.st 0 1048576 = true → inR f.ba f.wo 1048576 = true → codeC f = 0) := Lib.hid (fun h4 h5 h6 => by unfold codeC; rw [if_neg (by simp [h1]), if_neg (by simp [h2]), if_neg (by simp [h3]), if_neg (by simp [h4, h5]), if_neg (by simp [h6])])
        clear h1 h2 h3
        go_enter Try.func8, Try.ntmps8
        go_wp2_with fail
        refine (between_any _ _ _ _).mono ?_
        rintro e wX ⟨rfl, rfl⟩
        rw [H1.out]
        go_wp2_with fail
        refine (between_any _ _ _ _).mono ?_
        rintro e wX ⟨rfl, rfl⟩
        rw [H2.out]
        go_wp2_with fail
        generalize hW0 : w.alloc (.cells #[.slice a n c, .int .i64 f.sh, .int .i64 f.ra, .int .i64 f.mo, .int .i64 f.wo, .int .i64 f.ba, .int .i64 f.mi, .int .i64 f.st, .int .i64 f.bu, .int .i64 f.ch, .int .i64 f.wi, .int .i64 f.ca] 24) = W0 at *
        generalize hb0 : w.heap.size = b0 at *
        refine (rcheck_n a c f.z W0 HN.out hl HX.out).mono ?_
        rintro e W1 ⟨rfl, g1⟩
        rw [HZ.out]
        have HMk := Lib.hid (HM.out.grow g1)
        have HGk := Lib.hid (HG.out.trans g1)
        clear HM HG g1
        have hlt := HMk.out.lt
        have d6 := HMk.out.c6
        have d7 := HMk.out.c7
        have d8 := HMk.out.c8
        have d9 := HMk.out.c9
        have d10 := HMk.out.c10
        have d11 := HMk.out.c11
        cases h6 : inR f.st 0 1048576 with
        | false =>
          have HE := Lib.hid (HC2.out (.inr h6))
          have hs := inR_not h6
          clear h6
          by_cases hn0 : f.st < 0
          · go_wp2_with fail
            go_ret
            exact ⟨ret_int HE.out.symm, HGk.out.alloc _⟩
          · have hn1 : 1048576 < f.st := by omega
            clear hs
            go_wp2_with fail
            go_ret
            exact ⟨ret_int HE.out.symm, HGk.out.alloc _⟩
        | true =>
          have H6 := Lib.hid h6
          have hs := inR_of h6
          have hn0 : ¬ f.st < 0 := by omega
          have hn1 : ¬ 1048576 < f.st := by omega
          clear h6
          go_wp2_with fail
          have HRO : Hid (∀ k, k < 5 → (W1.alloc (.cells #[.int .i64 f.mi, .int .i64 f.bu, .int .i64 f.ch, .int .i64 f.wi, .int .i64 f.ca, .int .i64 (f.st + 1)] 3)).cell? ⟨W1.heap.size, k, none⟩ = some (.int .i64 (five f k))) := Lib.hid (fun k hk => by
            match k, hk with
            | 0, _ => simp [five]
            | 1, _ => simp [five]
            | 2, _ => simp [five]
            | 3, _ => simp [five]
            | 4, _ => simp [five])
          go_loopw [5] (fun x wr => ∃ k : Nat, k ≤ 5 ∧ x = .int .i64 k ∧ Hid (∀ j, j < k → inR (five f j) 1 1048576 = true) ∧ wr = (W1.alloc (.cells #[.int .i64 f.mi, .int .i64 f.bu, .int .i64 f.ch, .int .i64 f.wi, .int .i64 f.ca, .int .i64 (f.st + 1)] 3))) (fun x _ => 5 - (intOf x).toNat)
          case atStart => exact ⟨0, by decide, rfl, Lib.hid (fun j hj => absurd hj (Nat.not_lt_zero _)), rfl⟩
          case round =>
            obtain ⟨k, hk, rfl, HF, rfl⟩ := hrel
            have hk6 : k = 0 ∨ k = 1 ∨ k = 2 ∨ k = 3 ∨ k = 4 ∨ k = 5 := by omega
            clear hk
            rcases hk6 with rfl | rfl | rfl | rfl | rfl | rfl
            · cases h5 : inR f.mi 1 1048576 with
              | false =>
                have HE := Lib.hid (HC2.out (.inl (five_no (j := 0) (by decide) h5)))
                have H5 := Lib.hid h5
                clear h5
                have hrd := HRO.out 0 (by decide)
                go_wp2_with fail
                refine (between_any _ _ _ _).mono ?_
                rintro e wX ⟨rfl, rfl⟩
                rw [(show inR (five f 0) 1 1048576 = _ from H5.out)]
                go_wp2
                go_ret
                exact ⟨ret_int HE.out.symm, HGk.out.alloc _⟩
              | true =>
                have H5 := Lib.hid h5
                have HF' : Hid (∀ j, j < 1 → inR (five f j) 1 1048576 = true) := Lib.hid (fun j hj => by
                  by_cases e : j = 0
                  · subst e; exact h5
                  · exact HF.out j (by omega))
                clear h5
                have hrd := HRO.out 0 (by decide)
                go_wp2_with fail
                refine (between_any _ _ _ _).mono ?_
                rintro e wX ⟨rfl, rfl⟩
                rw [(show inR (five f 0) 1 1048576 = _ from H5.out)]
                go_wp2
                go_roundw
                case rel => exact ⟨1, by decide, rfl, HF', by simp⟩
                case measure => simp [intOf]
            · cases h5 : inR f.bu 1 1048576 with
              | false =>
                have HE := Lib.hid (HC2.out (.inl (five_no (j := 1) (by decide) h5)))
                have H5 := Lib.hid h5
                clear h5
                have hrd := HRO.out 1 (by decide)
                go_wp2_with fail
                refine (between_any _ _ _ _).mono ?_
                rintro e wX ⟨rfl, rfl⟩
                rw [(show inR (five f 1) 1 1048576 = _ from H5.out)]
                go_wp2
                go_ret
                exact ⟨ret_int HE.out.symm, HGk.out.alloc _⟩
              | true =>
                have H5 := Lib.hid h5
                have HF' : Hid (∀ j, j < 2 → inR (five f j) 1 1048576 = true) := Lib.hid (fun j hj => by
                  by_cases e : j = 1
                  · subst e; exact h5
                  · exact HF.out j (by omega))
                clear h5
                have hrd := HRO.out 1 (by decide)
                go_wp2_with fail
                refine (between_any _ _ _ _).mono ?_
                rintro e wX ⟨rfl, rfl⟩
                rw [(show inR (five f 1) 1 1048576 = _ from H5.out)]
                go_wp2
                go_roundw
                case rel => exact ⟨2, by decide, rfl, HF', by simp⟩
                case measure => simp [intOf]
            · cases h5 : inR f.ch 1 1048576 with
              | false =>
                have HE := Lib.hid (HC2.out (.inl (five_no (j := 2) (by decide) h5)))
                have H5 := Lib.hid h5
                clear h5
                have hrd := HRO.out 2 (by decide)
                go_wp2_with fail
                refine (between_any _ _ _ _).mono ?_
                rintro e wX ⟨rfl, rfl⟩
                rw [(show inR (five f 2) 1 1048576 = _ from H5.out)]
                go_wp2
                go_ret
                exact ⟨ret_int HE.out.symm, HGk.out.alloc _⟩
              | true =>
                have H5 := Lib.hid h5
                have HF' : Hid (∀ j, j < 3 → inR (five f j) 1 1048576 = true) := Lib.hid (fun j hj => by
                  by_cases e : j = 2
                  · subst e; exact h5
                  · exact HF.out j (by omega))
                clear h5
                have hrd := HRO.out 2 (by decide)
                go_wp2_with fail
                refine (between_any _ _ _ _).mono ?_
                rintro e wX ⟨rfl, rfl⟩
                rw [(show inR (five f 2) 1 1048576 = _ from H5.out)]
                go_wp2
                go_roundw
                case rel => exact ⟨3, by decide, rfl, HF', by simp⟩
                case measure => simp [intOf]
            · cases h5 : inR f.wi 1 1048576 with
              | false =>
                have HE := Lib.hid (HC2.out (.inl (five_no (j := 3) (by decide) h5)))
                have H5 := Lib.hid h5
                clear h5
                have hrd := HRO.out 3 (by decide)
                go_wp2_with fail
                refine (between_any _ _ _ _).mono ?_
                rintro e wX ⟨rfl, rfl⟩
                rw [(show inR (five f 3) 1 1048576 = _ from H5.out)]
                go_wp2
                go_ret
                exact ⟨ret_int HE.out.symm, HGk.out.alloc _⟩
              | true =>
                have H5 := Lib.hid h5
                have HF' : Hid (∀ j, j < 4 → inR (five f j) 1 1048576 = true) := Lib.hid (fun j hj => by
                  by_cases e : j = 3
                  · subst e; exact h5
                  · exact HF.out j (by omega))
                clear h5
                have hrd := HRO.out 3 (by decide)
                go_wp2_with fail
                refine (between_any _ _ _ _).mono ?_
                rintro e wX ⟨rfl, rfl⟩
                rw [(show inR (five f 3) 1 1048576 = _ from H5.out)]
                go_wp2
                go_roundw
                case rel => exact ⟨4, by decide, rfl, HF', by simp⟩
                case measure => simp [intOf]
            · cases h5 : inR f.ca 1 1048576 with
              | false =>
                have HE := Lib.hid (HC2.out (.inl (five_no (j := 4) (by decide) h5)))
                have H5 := Lib.hid h5
                clear h5
                have hrd := HRO.out 4 (by decide)
                go_wp2_with fail
                refine (between_any _ _ _ _).mono ?_
                rintro e wX ⟨rfl, rfl⟩
                rw [(show inR (five f 4) 1 1048576 = _ from H5.out)]
                go_wp2
                go_ret
                exact ⟨ret_int HE.out.symm, HGk.out.alloc _⟩
              | true =>
                have H5 := Lib.hid h5
                have HF' : Hid (∀ j, j < 5 → inR (five f j) 1 1048576 = true) := Lib.hid (fun j hj => by
                  by_cases e : j = 4
                  · subst e; exact h5
                  · exact HF.out j (by omega))
                clear h5
                have hrd := HRO.out 4 (by decide)
                go_wp2_with fail
                refine (between_any _ _ _ _).mono ?_
                rintro e wX ⟨rfl, rfl⟩
                rw [(show inR (five f 4) 1 1048576 = _ from H5.out)]
                go_wp2
                go_roundw
                case rel => exact ⟨5, by decide, rfl, HF', by simp⟩
                case measure => simp [intOf]
            · have H5 := Lib.hid (five_yes HF.out)
              have c4 := HMk.out.c4
              have c5 := HMk.out.c5
              have c7 := HMk.out.c7
              cases h7 : inR f.ba f.wo 1048576 with
              | false =>
                have HE := Lib.hid (HC7.out H5.out H6.out h7)
                have H7 := Lib.hid h7
                clear h7
                go_wp2_with fail
                refine (between_any _ _ _ _).mono ?_
                rintro e wX ⟨rfl, rfl⟩
                rw [H7.out]
                go_wp2
                go_ret
                exact ⟨ret_int HE.out.symm, HGk.out.alloc _⟩
              | true =>
                have HE := Lib.hid (HC0.out H5.out H6.out h7)
                have H7 := Lib.hid h7
                clear h7
                go_wp2_with fail
                refine (between_any _ _ _ _).mono ?_
                rintro e wX ⟨rfl, rfl⟩
                rw [H7.out]
                go_wp2
                go_ret
                exact ⟨ret_int HE.out.symm, HGk.out.alloc _⟩
      · have HE : Hid (codeC f = codeV f.z) := Lib.hid (by unfold codeC; rw [if_neg (by simp [h1]), if_neg (by simp [h2]), if_pos h3])
        have hb : (codeV f.z != 0) = true := by simp [h3]
        have HNE := Lib.hid h3
        clear h1 h2 h3
        go_enter Try.func8, Try.ntmps8
        go_wp2_with fail
        refine (between_any _ _ _ _).mono ?_
        rintro e wX ⟨rfl, rfl⟩
        rw [H1.out]
        go_wp2_with fail
        refine (between_any _ _ _ _).mono ?_
        rintro e wX ⟨rfl, rfl⟩
        rw [H2.out]
        go_wp2_with fail
        generalize hW0 : w.alloc (.cells #[.slice a n c, .int .i64 f.sh, .int .i64 f.ra, .int .i64 f.mo, .int .i64 f.wo, .int .i64 f.ba, .int .i64 f.mi, .int .i64 f.st, .int .i64 f.bu, .int .i64 f.ch, .int .i64 f.wi, .int .i64 f.ca] 24) = W0 at *
        generalize hb0 : w.heap.size = b0 at *
        refine (rcheck_n a c f.z W0 HN.out hl HX.out).mono ?_
        rintro e W1 ⟨rfl, g1⟩
        have HGk := Lib.hid (HG.out.trans g1)
        generalize codeV f.z = cv at *
        go_wp2
        go_ret
        exact ⟨ret_int HE.out.symm, HGk.out⟩
end Go.Proofs.Ythcahpgandappaa
