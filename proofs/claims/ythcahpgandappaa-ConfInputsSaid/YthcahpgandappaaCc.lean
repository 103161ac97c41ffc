/- Epochs and Need of package conf and of the reference, at any configuration and number of examples. Condition: the sizes' length is at most their capacity. -/
import Derived.Test.YthcahpgandappaaCb
namespace Go.Proofs.Ythcahpgandappaa
open Go.RowKit

/-- How many epochs a run begins; how many draws an epoch needs. -/
def epV (f : Cf) (n : Int) : Int := if codeC f = 0 ∧ inR n f.ba 1048576 = true then (f.st + n.tdiv f.ba - 1).tdiv (n.tdiv f.ba) else 0
def needV (n : Int) : Int := if n < 1 then 0 else n - 1
theorem epV_no {f : Cf} {n : Int} (h : ¬ (codeC f = 0 ∧ inR n f.ba 1048576 = true)) : epV f n = 0 := if_neg h
theorem ep_facts {f : Cf} {n : Int} (h : codeC f = 0) (hn : inR n f.ba 1048576 = true) : ∃ s : Int, n.tdiv f.ba = s ∧ 1 ≤ s ∧ s ≤ 1048576 ∧ 1 ≤ f.ba ∧ f.ba ≤ n ∧ n ≤ 1048576 ∧ 0 ≤ f.st ∧ f.st ≤ 1048576 ∧ epV f n = (f.st + s - 1).tdiv s ∧ 0 ≤ epV f n ∧ epV f n ≤ 1048576 := by
  obtain ⟨h1, _, _, _, h5, h6⟩ := codeC_0 h
  have a1 := inR_of h1
  have a5 := inR_of h5
  have a6 := inR_of h6
  have an := inR_of hn
  have e0 : n.tdiv f.ba = n / f.ba := Int.tdiv_eq_ediv_of_nonneg (by omega)
  have e1 : 1 ≤ n / f.ba := (Int.le_ediv_iff_mul_le (by omega)).2 (by omega)
  have e2 : n / f.ba ≤ n := Int.ediv_le_self _ (by omega)
  have e3 : epV f n = (f.st + n.tdiv f.ba - 1).tdiv (n.tdiv f.ba) := if_pos ⟨h, hn⟩
  rw [e0] at e3
  rw [e0]
  generalize n / f.ba = s at *
  have e4 : (f.st + s - 1).tdiv s = (f.st + s - 1) / s := Int.tdiv_eq_ediv_of_nonneg (by omega)
  have e5 : 0 ≤ (f.st + s - 1) / s := Int.ediv_nonneg (by omega) (by omega)
  have e6 : (f.st + s - 1) / s ≤ 1048576 := by
    have : (f.st + s - 1) / s < 1048577 := (Int.ediv_lt_iff_lt_mul (by omega)).2 (by omega)
    omega
  exact ⟨s, rfl, e1, by omega, by omega, by omega, by omega, a5.1, a5.2, e3, by rw [e3, e4]; exact e5, by rw [e3, e4]; exact e6⟩
theorem ep_bound (f : Cf) (n : Int) : 0 ≤ epV f n ∧ epV f n ≤ 1048576 := by
  by_cases h : codeC f = 0 ∧ inR n f.ba 1048576 = true
  · obtain ⟨s, _, _, _, _, _, _, _, _, _, h1, h2⟩ := ep_facts h.1 h.2
    exact ⟨h1, h2⟩
  · rw [epV_no h]; decide
theorem need_bound (f : Cf) (n : Int) : 0 ≤ epV f n * needV n ∧ epV f n * needV n ≤ 1099511627776 := by
  by_cases h : codeC f = 0 ∧ inR n f.ba 1048576 = true
  · have hn := inR_of h.2
    have hb := ep_bound f n
    have h1 : 0 ≤ needV n ∧ needV n ≤ 1048576 := by unfold needV; split <;> omega
    refine ⟨Int.mul_nonneg hb.1 h1.1, ?_⟩
    exact Int.le_trans (Int.mul_le_mul hb.2 h1.2 h1.1 (by decide)) (by decide)
  · rw [epV_no h, Int.zero_mul]; decide
theorem ep_end {st s k : Int} (hs : 1 ≤ s) (h0 : 0 ≤ st) (hk : 0 ≤ k) (h1 : k = 0 ∨ (k - 1) * s < st) (h2 : st ≤ k * s) : (st + s - 1).tdiv s = k := by
  rw [Int.tdiv_eq_ediv_of_nonneg (by omega)]
  have e1 : (k - 1) * s = k * s - s := by rw [Int.sub_mul, Int.one_mul]
  have e2 : (k + 1) * s = k * s + s := by rw [Int.add_mul, Int.one_mul]
  apply Int.le_antisymm
  · have : (st + s - 1) / s < k + 1 := (Int.ediv_lt_iff_lt_mul (by omega)).2 (by rw [e2]; omega)
    omega
  · refine (Int.le_ediv_iff_mul_le (by omega)).2 ?_
    rcases h1 with rfl | h1
    · rw [Int.zero_mul]; omega
    · rw [e1] at h1; omega

theorem pneed_any (n : Int) (w : World) (h0 : -9223372036854775808 ≤ n) (h1 : n ≤ 9223372036854775807) : Calls Try.prog 25 #[.int .i64 n] w fun e w' => e = .returned (.int .i64 (needV n)) ∧ w = w' := by
  by_cases h : n < 1
  · have HE : Hid (needV n = 0) := Lib.hid (if_pos h)
    go_enter Try.func25, Try.ntmps25
    go_wp2
    go_ret
    refine ⟨ret_int ?_, rfl⟩
    rw [HE.out]
  · have HE : Hid (needV n = n - 1) := Lib.hid (if_neg h)
    go_enter Try.func25, Try.ntmps25
    go_wp2
    go_ret
    refine ⟨ret_int ?_, rfl⟩
    rw [HE.out]
theorem rneed6_any (n : Int) (w : World) (h0 : -9223372036854775808 ≤ n) (h1 : n ≤ 9223372036854775807) : Calls Try.prog 26 #[.int .i64 n] w fun e w' => e = .returned (.int .i64 (needV n)) ∧ w = w' := by
  by_cases h : n < 1
  · have HE : Hid (needV n = 0) := Lib.hid (if_pos h)
    go_enter Try.func26, Try.ntmps26
    go_wp2
    go_ret
    exact ⟨ret_int HE.out.symm, rfl⟩
  · have HE : Hid (needV n = n - 1) := Lib.hid (if_neg h)
    go_enter Try.func26, Try.ntmps26
    go_wp2
    go_ret
    exact ⟨ret_int HE.out.symm, rfl⟩

set_option maxRecDepth 100000 in
set_option maxHeartbeats 4000000 in
theorem epochs_any {m : Nat} (a : Option Addr) (c : Nat) (f : Cf) (n : Int) (w : World) (hn : f.z.length = m) (hl : m ≤ 17592186044416) (hc : m ≤ c) (hm : c ≤ maxLen) (h : RdK .i64 w.heap.size w a f.z) :
    Calls Try.prog 12 #[.agg #[.slice a m c, .int .i64 f.sh, .int .i64 f.ra, .int .i64 f.mo, .int .i64 f.wo, .int .i64 f.ba, .int .i64 f.mi, .int .i64 f.st, .int .i64 f.bu, .int .i64 f.ch, .int .i64 f.wi, .int .i64 f.ca], .int .i64 n] w fun e w' => e = .returned (.int .i64 (epV f n)) ∧ Grew w w' := by
  have g0 : Grew w (w.alloc (.cells #[.slice a m c, .int .i64 f.sh, .int .i64 f.ra, .int .i64 f.mo, .int .i64 f.wo, .int .i64 f.ba, .int .i64 f.mi, .int .i64 f.st, .int .i64 f.bu, .int .i64 f.ch, .int .i64 f.wi, .int .i64 f.ca] 24)) := (Grew.refl w).alloc _
  have HM := Lib.hid (CfM.new w a m c f)
  have HX := Lib.hid (h.grow g0)
  have HG := Lib.hid g0
  have HN := Lib.hid hn
  have HNO := Lib.hid (@epV_no f n)
  clear h g0 hn
  go_enter Try.func12, Try.ntmps12
  go_wp2_with fail
  generalize hW0 : w.alloc (.cells #[.slice a m c, .int .i64 f.sh, .int .i64 f.ra, .int .i64 f.mo, .int .i64 f.wo, .int .i64 f.ba, .int .i64 f.mi, .int .i64 f.st, .int .i64 f.bu, .int .i64 f.ch, .int .i64 f.wi, .int .i64 f.ca] 24) = W0 at *
  generalize hb0 : w.heap.size = b0 at *
  refine (check_any a c f W0 HN.out hl hc hm HX.out).mono ?_
  rintro e w1 ⟨rfl, g1⟩
  have HM1 := Lib.hid (HM.out.grow g1)
  have HG1 := Lib.hid (HG.out.trans g1)
  have c5 := HM1.out.c5
  have c7 := HM1.out.c7
  clear HM HG g1
  by_cases h0 : codeC f = 0
  · have H0 := Lib.hid h0
    rw [h0]
    cases h1 : inR n f.ba 1048576 with
    | true =>
      obtain ⟨s, hs, hs1, hs2, hb1, hb2, hn2, ht0, ht1, hE, he0, he1⟩ := ep_facts h0 h1
      have HE := Lib.hid hE
      have H1 := Lib.hid h1
      clear h0 h1 hE
      go_wp2_with fail
      refine (within_any _ _ _ _).mono ?_
      rintro e wX ⟨rfl, rfl⟩
      rw [H1.out]
      obtain ⟨v, hv⟩ : ∃ v, (f.st + s - 1).tdiv s = v := ⟨_, rfl⟩
      have HV : Hid (epV f n = v) := Lib.hid (by rw [HE.out, hv])
      rw [HV.out] at he0 he1
      go_wp2
      go_ret
      exact ⟨ret_int HV.out.symm, HG1.out⟩
    | false =>
      have HE := Lib.hid (HNO.out (fun h => by rw [h1] at h; cases h.2))
      have H1 := Lib.hid h1
      clear h0 h1
      go_wp2_with fail
      refine (within_any _ _ _ _).mono ?_
      rintro e wX ⟨rfl, rfl⟩
      rw [H1.out]
      go_wp2
      go_ret
      exact ⟨ret_int HE.out.symm, HG1.out⟩
  · have HE := Lib.hid (HNO.out (fun h => h0 h.1))
    have hb : (codeC f != 0) = true := by simp [h0]
    generalize codeC f = cv at *
    go_wp2
    go_ret
    exact ⟨ret_int HE.out.symm, HG1.out⟩
set_option maxRecDepth 100000 in
set_option maxHeartbeats 4000000 in
theorem repochs_any {m : Nat} (a : Option Addr) (c : Nat) (f : Cf) (n : Int) (w : World) (hn : f.z.length = m) (hl : m ≤ 17592186044416) (hc : m ≤ c) (hm : c ≤ maxLen) (h : RdK .i64 w.heap.size w a f.z) :
    Calls Try.prog 13 #[.agg #[.slice a m c, .int .i64 f.sh, .int .i64 f.ra, .int .i64 f.mo, .int .i64 f.wo, .int .i64 f.ba, .int .i64 f.mi, .int .i64 f.st, .int .i64 f.bu, .int .i64 f.ch, .int .i64 f.wi, .int .i64 f.ca], .int .i64 n] w fun e w' => e = .returned (.int .i64 (epV f n)) ∧ Grew w w' := by
  have g0 : Grew w (w.alloc (.cells #[.slice a m c, .int .i64 f.sh, .int .i64 f.ra, .int .i64 f.mo, .int .i64 f.wo, .int .i64 f.ba, .int .i64 f.mi, .int .i64 f.st, .int .i64 f.bu, .int .i64 f.ch, .int .i64 f.wi, .int .i64 f.ca] 24)) := (Grew.refl w).alloc _
  have HM := Lib.hid (CfM.new w a m c f)
  have HX := Lib.hid (h.grow g0)
  have HG := Lib.hid g0
  have HN := Lib.hid hn
  have HNO := Lib.hid (@epV_no f n)
  clear h g0 hn
  go_enter Try.func13, Try.ntmps13
  go_wp2_with fail
  generalize hW0 : w.alloc (.cells #[.slice a m c, .int .i64 f.sh, .int .i64 f.ra, .int .i64 f.mo, .int .i64 f.wo, .int .i64 f.ba, .int .i64 f.mi, .int .i64 f.st, .int .i64 f.bu, .int .i64 f.ch, .int .i64 f.wi, .int .i64 f.ca] 24) = W0 at *
  generalize hb0 : w.heap.size = b0 at *
  refine (rcheckC_any a c f W0 HN.out hl hc hm HX.out).mono ?_
  rintro e w1 ⟨rfl, g1⟩
  have HM1 := Lib.hid (HM.out.grow g1)
  have HG1 := Lib.hid (HG.out.trans g1)
  have c5 := HM1.out.c5
  have c7 := HM1.out.c7
  clear HM HG g1
  by_cases h0 : codeC f = 0
  · have H0 := Lib.hid h0
    rw [h0]
    cases h1 : inR n f.ba 1048576 with
    | true =>
      obtain ⟨s, hs, hs1, hs2, hb1, hb2, hn2, ht0, ht1, hE, he0, he1⟩ := ep_facts h0 h1
      have HE := Lib.hid hE
      have H1 := Lib.hid h1
      clear h0 h1 hE
      go_wp2_with fail
      refine (between_any _ _ _ _).mono ?_
      rintro e wX ⟨rfl, rfl⟩
      rw [H1.out]
      go_wp2_with fail
      go_loopw [5, 6] (fun x y wr => ∃ (k : Nat) (p : Int), x = .int .i64 k ∧ y = .int .i64 p ∧ 0 ≤ p ∧ (k : Int) ≤ p ∧ p < f.st + s ∧ Hid (p = (k : Int) * s ∧ ((k : Int) = 0 ∨ ((k : Int) - 1) * s < f.st)) ∧ wr = w1) (fun _ y _ => (f.st + 1048576 - intOf y).toNat)
      case atStart => exact ⟨0, 0, rfl, rfl, by omega, by omega, by omega, Lib.hid ⟨by simp, .inl rfl⟩, rfl⟩
      case round =>
        obtain ⟨k, p, rfl, rfl, hp0, hkp, hps, HP, rfl⟩ := hrel
        by_cases hlt : p < f.st
        · have HP' : Hid (p + s = ((k + 1 : Nat) : Int) * s ∧ (((k + 1 : Nat) : Int) = 0 ∨ (((k + 1 : Nat) : Int) - 1) * s < f.st)) := Lib.hid (by
            have h1 := HP.out.1
            refine ⟨by rw [h1, Int.natCast_add, Int.add_mul]; simp, .inr ?_⟩
            have : ((k + 1 : Nat) : Int) - 1 = (k : Int) := by omega
            rw [this, ← h1]; exact hlt)
          go_wp2_with fail
          go_roundw
          case rel => exact ⟨k + 1, p + s, by go_num, by go_num, by omega, by omega, by omega, HP', by simp⟩
          case measure => simp [intOf]; omega
        · have HV : Hid (epV f n = (k : Int)) := Lib.hid (by
            rw [HE.out]
            exact ep_end hs1 ht0 (by omega) HP.out.2 (by rw [← HP.out.1]; omega))
          go_wp2
          go_ret
          exact ⟨ret_int HV.out.symm, HG1.out⟩
    | false =>
      have HE := Lib.hid (HNO.out (fun h => by rw [h1] at h; cases h.2))
      have H1 := Lib.hid h1
      clear h0 h1
      go_wp2_with fail
      refine (between_any _ _ _ _).mono ?_
      rintro e wX ⟨rfl, rfl⟩
      rw [H1.out]
      go_wp2
      go_ret
      exact ⟨ret_int HE.out.symm, HG1.out⟩
  · have HE := Lib.hid (HNO.out (fun h => h0 h.1))
    have hb : (codeC f != 0) = true := by simp [h0]
    generalize codeC f = cv at *
    go_wp2
    go_ret
    exact ⟨ret_int HE.out.symm, HG1.out⟩

set_option maxHeartbeats 1000000 in
theorem cneed_any {m : Nat} (a : Option Addr) (c : Nat) (f : Cf) (n : Int) (w : World) (hn : f.z.length = m) (hl : m ≤ 17592186044416) (hc : m ≤ c) (hm : c ≤ maxLen) (h : RdK .i64 w.heap.size w a f.z) (h0 : -9223372036854775808 ≤ n) (h1 : n ≤ 9223372036854775807) :
    Calls Try.prog 14 #[.agg #[.slice a m c, .int .i64 f.sh, .int .i64 f.ra, .int .i64 f.mo, .int .i64 f.wo, .int .i64 f.ba, .int .i64 f.mi, .int .i64 f.st, .int .i64 f.bu, .int .i64 f.ch, .int .i64 f.wi, .int .i64 f.ca], .int .i64 n] w fun e w' => e = .returned (.int .i64 (epV f n * needV n)) ∧ Grew w w' := by
  have g0 : Grew w (w.alloc (.cells #[.slice a m c, .int .i64 f.sh, .int .i64 f.ra, .int .i64 f.mo, .int .i64 f.wo, .int .i64 f.ba, .int .i64 f.mi, .int .i64 f.st, .int .i64 f.bu, .int .i64 f.ch, .int .i64 f.wi, .int .i64 f.ca] 24)) := (Grew.refl w).alloc _
  have HX := Lib.hid (h.grow g0)
  have HG := Lib.hid g0
  have HN := Lib.hid hn
  have hb := need_bound f n
  clear h g0 hn
  go_enter Try.func14, Try.ntmps14
  go_wp2_with fail
  generalize hW0 : w.alloc (.cells #[.slice a m c, .int .i64 f.sh, .int .i64 f.ra, .int .i64 f.mo, .int .i64 f.wo, .int .i64 f.ba, .int .i64 f.mi, .int .i64 f.st, .int .i64 f.bu, .int .i64 f.ch, .int .i64 f.wi, .int .i64 f.ca] 24) = W0 at *
  refine (epochs_any a c f n W0 HN.out hl hc hm HX.out).mono ?_
  rintro e w1 ⟨rfl, g1⟩
  have HG1 := Lib.hid (HG.out.trans g1)
  clear g1 HG
  obtain ⟨p, hp⟩ : ∃ p, epV f n * needV n = p := ⟨_, rfl⟩
  rw [hp] at hb
  have HP := Lib.hid hp
  obtain ⟨x, hx⟩ : ∃ x, epV f n = x := ⟨_, rfl⟩
  obtain ⟨y, hy⟩ : ∃ y, needV n = y := ⟨_, rfl⟩
  rw [hx, hy] at hp
  rw [hx]
  have HY := Lib.hid hy
  clear hx hy
  go_wp2_with fail
  refine (pneed_any n _ h0 h1).mono ?_
  rintro e wX ⟨rfl, rfl⟩
  rw [HY.out]
  go_wp2
  go_ret
  exact ⟨ret_int HP.out.symm, HG1.out⟩
set_option maxHeartbeats 1000000 in
theorem rcneed_any {m : Nat} (a : Option Addr) (c : Nat) (f : Cf) (n : Int) (w : World) (hn : f.z.length = m) (hl : m ≤ 17592186044416) (hc : m ≤ c) (hm : c ≤ maxLen) (h : RdK .i64 w.heap.size w a f.z) (h0 : -9223372036854775808 ≤ n) (h1 : n ≤ 9223372036854775807) :
    Calls Try.prog 15 #[.agg #[.slice a m c, .int .i64 f.sh, .int .i64 f.ra, .int .i64 f.mo, .int .i64 f.wo, .int .i64 f.ba, .int .i64 f.mi, .int .i64 f.st, .int .i64 f.bu, .int .i64 f.ch, .int .i64 f.wi, .int .i64 f.ca], .int .i64 n] w fun e w' => e = .returned (.int .i64 (epV f n * needV n)) ∧ Grew w w' := by
  have g0 : Grew w (w.alloc (.cells #[.slice a m c, .int .i64 f.sh, .int .i64 f.ra, .int .i64 f.mo, .int .i64 f.wo, .int .i64 f.ba, .int .i64 f.mi, .int .i64 f.st, .int .i64 f.bu, .int .i64 f.ch, .int .i64 f.wi, .int .i64 f.ca] 24)) := (Grew.refl w).alloc _
  have HX := Lib.hid (h.grow g0)
  have HG := Lib.hid g0
  have HN := Lib.hid hn
  have hb := need_bound f n
  clear h g0 hn
  go_enter Try.func15, Try.ntmps15
  go_wp2_with fail
  generalize hW0 : w.alloc (.cells #[.slice a m c, .int .i64 f.sh, .int .i64 f.ra, .int .i64 f.mo, .int .i64 f.wo, .int .i64 f.ba, .int .i64 f.mi, .int .i64 f.st, .int .i64 f.bu, .int .i64 f.ch, .int .i64 f.wi, .int .i64 f.ca] 24) = W0 at *
  refine (repochs_any a c f n W0 HN.out hl hc hm HX.out).mono ?_
  rintro e w1 ⟨rfl, g1⟩
  have HG1 := Lib.hid (HG.out.trans g1)
  clear g1 HG
  obtain ⟨p, hp⟩ : ∃ p, epV f n * needV n = p := ⟨_, rfl⟩
  rw [hp] at hb
  have HP := Lib.hid hp
  obtain ⟨x, hx⟩ : ∃ x, epV f n = x := ⟨_, rfl⟩
  obtain ⟨y, hy⟩ : ∃ y, needV n = y := ⟨_, rfl⟩
  rw [hx, hy] at hp
  rw [hx]
  have HY := Lib.hid hy
  clear hx hy
  go_wp2_with fail
  refine (rneed6_any n _ h0 h1).mono ?_
  rintro e wX ⟨rfl, rfl⟩
  rw [HY.out]
  go_wp2
  go_ret
  exact ⟨ret_int HP.out.symm, HG1.out⟩

end Go.Proofs.Ythcahpgandappaa
