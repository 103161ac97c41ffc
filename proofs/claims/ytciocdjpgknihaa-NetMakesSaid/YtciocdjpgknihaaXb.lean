/- The reference of layer 1, bit by bit, and the gates: Shift, Product and Mul of the reference return what the plain functions of Math say; so do Gate, Relu and Sub. Conditions: the int64 arguments are within their bounds. -/
import Derived.Test.YtciocdjpgknihaaXa
import Derived.Deep.DeepCutAuto
namespace Go.Proofs.Ytciocdjpgknihaa
open Go.RowKit

theorem or_step {H L : Int} (h0 : 0 ≤ L) (h1 : L < 18446744073709551616) :
    0 ≤ bits .or .u64 (L / 2) (IntKind.u64.wrap (IntKind.u64.wrap H * 9223372036854775808)) ∧ bits .or .u64 (L / 2) (IntKind.u64.wrap (IntKind.u64.wrap H * 9223372036854775808)) < 18446744073709551616 ∧
    H / 2 * 18446744073709551616 + bits .or .u64 (L / 2) (IntKind.u64.wrap (IntKind.u64.wrap H * 9223372036854775808)) = (H * 18446744073709551616 + L) / 2 := by
  rw [step_words h0 h1]
  omega
theorem halve (z : Int) (k : Nat) : z / 2 ^ k / 2 = z / 2 ^ (k + 1) := by rw [Int.pow_succ, Int.ediv_ediv_of_nonneg (Int.le_of_lt (pow_pos' k))]
theorem shift_end {H L z : Int} (he : H * 18446744073709551616 + L = z) : wrap64 L = wrap64 z := wrap64_congr (by omega)

set_option maxHeartbeats 400000 in
theorem rshift_any (hi lo q : Int) (w : World) (hl : 0 ≤ lo) (hl2 : lo < 18446744073709551616) :
    Calls Try.prog 65 #[.int .i64 hi, .int .u64 lo, .int .i64 q] w fun e w' => e = .returned (.int .i64 (shrV (hi * 18446744073709551616 + lo) q)) ∧ w = w' := by
  by_cases h : 0 ≤ q ∧ q ≤ 63
  · obtain ⟨h0, h1⟩ := h
    have HV := Lib.hid (shrV_yes (z := hi * 18446744073709551616 + lo) h0 h1)
    obtain ⟨n, rfl⟩ := Int.eq_ofNat_of_zero_le h0
    go_enter Try.func65, Try.ntmps65
    go_wp2
    go_loop [0, 1, 7] (fun h l i => ∃ (k : Nat) (H L : Int), k ≤ n ∧ i = .int .i64 k ∧ h = .int .i64 H ∧ l = .int .u64 L ∧ 0 ≤ L ∧ L < 18446744073709551616 ∧ H * 18446744073709551616 + L = (hi * 18446744073709551616 + lo) / 2 ^ k) (fun _ _ i => n - (intOf i).toNat)
    case atStart => exact ⟨0, hi, lo, by omega, rfl, rfl, rfl, hl, hl2, by simp⟩
    case round =>
      obtain ⟨k, H, L, hk, rfl, rfl, rfl, hL0, hL1, he⟩ := hrel
      have HE := Lib.hid he; clear he
      have HO := Lib.hid (or_step (H := H) hL0 hL1)
      by_cases hlt : k < n
      · go_wp2
        exact ⟨⟨k + 1, _, _, by omega, by go_num, rfl, rfl, HO.out.1, HO.out.2.1, by rw [HO.out.2.2, HE.out, halve]⟩, by simp [intOf]; omega⟩
      · go_wp2
        go_ret
        obtain rfl : k = n := by omega
        exact ⟨ret_int (by rw [HV.out, Int.toNat_natCast]; exact shift_end HE.out), rfl⟩
  · have HV := Lib.hid (shrV_no (z := hi * 18446744073709551616 + lo) h)
    by_cases h0 : 0 ≤ q
    · have h2 : ¬ q ≤ 63 := by omega
      clear h
      go_enter Try.func65, Try.ntmps65
      go_wp2
      go_ret
      exact ⟨by rw [HV.out]; rfl, rfl⟩
    · clear h
      go_enter Try.func65, Try.ntmps65
      go_wp2
      go_ret
      exact ⟨by rw [HV.out]; rfl, rfl⟩

theorem way_pos {a b H L s : Int} {k : Nat} (hP : PInv a b k H L) (hs : SignOf a s) (hk : k < 64) (h63 : ((k : Int) == 63) = false) (hb : (bits .and .u64 (IntKind.u64.wrap b / 2 ^ k) 1 == 0) = false) :
    (IntKind.u64.wrap (L + IntKind.u64.wrap (IntKind.u64.wrap a * 2 ^ k)) < L → PInv a b (k + 1) (IntKind.u64.wrap (IntKind.u64.wrap (H + 1) + bits .or .u64 (IntKind.u64.wrap (s * 2 ^ k)) (IntKind.u64.wrap a / 2 ^ (64 - k)))) (IntKind.u64.wrap (L + IntKind.u64.wrap (IntKind.u64.wrap a * 2 ^ k)))) ∧
    (L ≤ IntKind.u64.wrap (L + IntKind.u64.wrap (IntKind.u64.wrap a * 2 ^ k)) → PInv a b (k + 1) (IntKind.u64.wrap (H + bits .or .u64 (IntKind.u64.wrap (s * 2 ^ k)) (IntKind.u64.wrap a / 2 ^ (64 - k)))) (IntKind.u64.wrap (L + IntKind.u64.wrap (IntKind.u64.wrap a * 2 ^ k)))) :=
  add_way hP (stands_pos hs hk) (part_more (by simp at h63; omega) (by simpa using bit_of hb))
theorem way_zero {a b H L s : Int} {k : Nat} (hP : PInv a b k H L) (hs : SignOf a s) (h0 : ¬ 0 < k) (hb : (bits .and .u64 (IntKind.u64.wrap b / 2 ^ k) 1 == 0) = false) :
    (IntKind.u64.wrap (L + IntKind.u64.wrap (IntKind.u64.wrap a * 2 ^ k)) < L → PInv a b (k + 1) (IntKind.u64.wrap (IntKind.u64.wrap (H + 1) + s)) (IntKind.u64.wrap (L + IntKind.u64.wrap (IntKind.u64.wrap a * 2 ^ k)))) ∧
    (L ≤ IntKind.u64.wrap (L + IntKind.u64.wrap (IntKind.u64.wrap a * 2 ^ k)) → PInv a b (k + 1) (IntKind.u64.wrap (H + s)) (IntKind.u64.wrap (L + IntKind.u64.wrap (IntKind.u64.wrap a * 2 ^ k)))) :=
  add_way hP (stands_zero hs h0) (part_more (by omega) (by simpa using bit_of hb))
/-- The last bit counts as negative: the multiple is taken away. -/
theorem way_neg {a b H L Y X : Int} {k : Nat} (hP : PInv a b k H L) (h63 : ((k : Int) == 63) = true) (b0 : -9223372036854775808 ≤ b) (b1 : b ≤ 9223372036854775807) (hb : (bits .and .u64 (IntKind.u64.wrap b / 2 ^ k) 1 == 0) = false)
    (hS : Stands Y X (-(a * (1 * 2 ^ k)))) :
    (IntKind.u64.wrap (L + X) < L → PInv a b (k + 1) (IntKind.u64.wrap (IntKind.u64.wrap (H + 1) + Y)) (IntKind.u64.wrap (L + X))) ∧
    (L ≤ IntKind.u64.wrap (L + X) → PInv a b (k + 1) (IntKind.u64.wrap (H + Y)) (IntKind.u64.wrap (L + X))) := by
  obtain rfl : k = 63 := by simp at h63; omega
  refine add_way hP (sg := -1) ?_ (part_less b0 b1 (by simpa using bit_of hb))
  rw [show a * (-1 * 2 ^ 63) = -(a * (1 * 2 ^ 63)) from by rw [Int.neg_mul, Int.mul_neg]]
  exact hS

set_option maxHeartbeats 2000000 in
theorem rproduct_any (a b : Int) (w : World) (a0 : -9223372036854775808 ≤ a) (a1 : a ≤ 9223372036854775807) (b0 : -9223372036854775808 ≤ b) (b1 : b ≤ 9223372036854775807) :
    Calls Try.prog 64 #[.int .i64 a, .int .i64 b] w fun e w' => e = .returned (.tuple #[.int .i64 (wrap64 (a * b / 18446744073709551616)), .int .u64 (a * b % 18446744073709551616)]) ∧ w = w' := by
  have HB := Lib.hid (And.intro b0 b1)
  clear b0 b1
  go_enter Try.func64, Try.ntmps64
  go_upto_if 14 with (fail)
  go_cut [8] (fun s wx => wx = w ∧ ∃ S : Int, s = .int .u64 S ∧ SignOf a S)
  case first =>
    by_cases ha : a < 0
    · have HS : SignOf a 18446744073709551615 := ⟨⟨a0, a1⟩, .inl ⟨ha, rfl⟩⟩
      go_wp2
      go_meet
      exact ⟨rfl, _, rfl, HS⟩
    · have HS : SignOf a 0 := ⟨⟨a0, a1⟩, .inr ⟨by omega, rfl⟩⟩
      go_wp2
      go_meet
      exact ⟨rfl, _, rfl, HS⟩
  case rest =>
    obtain ⟨rfl, S, rfl, hS⟩ := hcut
    clear a0 a1
    go_wp2
    go_loop [6, 7, 9] (fun h l i => ∃ (k : Nat) (H L : Int), k ≤ 64 ∧ i = .int .i64 k ∧ h = .int .u64 H ∧ l = .int .u64 L ∧ PInv a b k H L) (fun _ _ i => 64 - (intOf i).toNat)
    case atStart => exact ⟨0, 0, 0, by omega, rfl, rfl, rfl, pinv_zero a b⟩
    case round =>
      obtain ⟨k, H, L, hk, rfl, rfl, rfl, hP⟩ := hrel
      by_cases hlt : k < 64
      · go_wp2
        · exact ⟨⟨k + 1, _, _, by omega, by go_num, rfl, rfl, pinv_same hP hlt HB.out.1 HB.out.2 (by assumption)⟩, by simp [intOf]; omega⟩
        · exact ⟨⟨k + 1, _, _, by omega, by go_num, rfl, rfl, (way_neg hP (by assumption) HB.out.1 HB.out.2 (by assumption) ((stands_neg (stands_pos hS hlt)).1 (by assumption))).1 (by assumption)⟩, by simp [intOf]; omega⟩
        · exact ⟨⟨k + 1, _, _, by omega, by go_num, rfl, rfl, (way_neg hP (by assumption) HB.out.1 HB.out.2 (by assumption) ((stands_neg (stands_pos hS hlt)).1 (by assumption))).2 (by assumption)⟩, by simp [intOf]; omega⟩
        · exact ⟨⟨k + 1, _, _, by omega, by go_num, rfl, rfl, (way_neg hP (by assumption) HB.out.1 HB.out.2 (by assumption) ((stands_neg (stands_pos hS hlt)).2 (by assumption))).1 (by assumption)⟩, by simp [intOf]; omega⟩
        · exact ⟨⟨k + 1, _, _, by omega, by go_num, rfl, rfl, (way_neg hP (by assumption) HB.out.1 HB.out.2 (by assumption) ((stands_neg (stands_pos hS hlt)).2 (by assumption))).2 (by assumption)⟩, by simp [intOf]; omega⟩
        · exact ⟨⟨k + 1, _, _, by omega, by go_num, rfl, rfl, (way_pos hP hS hlt (by assumption) (by assumption)).1 (by assumption)⟩, by simp [intOf]; omega⟩
        · exact ⟨⟨k + 1, _, _, by omega, by go_num, rfl, rfl, (way_pos hP hS hlt (by assumption) (by assumption)).2 (by assumption)⟩, by simp [intOf]; omega⟩
        · exact ⟨⟨k + 1, _, _, by omega, by go_num, rfl, rfl, (way_zero hP hS (by assumption) (by assumption)).1 (by assumption)⟩, by simp [intOf]; omega⟩
        · exact ⟨⟨k + 1, _, _, by omega, by go_num, rfl, rfl, (way_zero hP hS (by assumption) (by assumption)).2 (by assumption)⟩, by simp [intOf]; omega⟩
      · go_wp2
        go_ret2
        obtain rfl : k = 64 := by omega
        exact ⟨ret_words (pinv_end hP).1 (pinv_end hP).2, rfl⟩

theorem wrap64_le (x : Int) : -9223372036854775808 ≤ wrap64 x ∧ wrap64 x ≤ 9223372036854775807 := by unfold wrap64; omega
theorem mul_end {a b q : Int} (h0 : 0 ≤ q) (h1 : q ≤ 62) : shrV (wrap64 (a * b / 18446744073709551616) * 18446744073709551616 + a * b % 18446744073709551616) q = mulV a b q := by
  rw [shrV_yes h0 (by omega), mulV_yes h0 h1]
  exact shr_congr (by omega) (by unfold wrap64; omega)

theorem rmul_any (a b q : Int) (w : World) (a0 : -9223372036854775808 ≤ a) (a1 : a ≤ 9223372036854775807) (b0 : -9223372036854775808 ≤ b) (b1 : b ≤ 9223372036854775807) :
    Calls Try.prog 41 #[.int .i64 a, .int .i64 b, .int .i64 q] w fun e w' => e = .returned (.int .i64 (mulV a b q)) ∧ w = w' := by
  by_cases h : 0 ≤ q ∧ q ≤ 62
  · obtain ⟨h0, h1⟩ := h
    have HV := Lib.hid (mul_end (a := a) (b := b) h0 h1)
    go_enter Try.func41, Try.ntmps41
    go_wp2_with fail
    refine (rproduct_any a b _ a0 a1 b0 b1).mono ?_
    rintro e w1 ⟨rfl, rfl⟩
    go_wp2_with fail
    refine (rshift_any _ _ q _ (by omega) (by omega)).mono ?_
    rintro e w1 ⟨rfl, rfl⟩
    go_wp2_with fail
    go_ret
    exact ⟨ret_int HV.out, rfl⟩
  · have HV := Lib.hid (mulV_no (a := a) (b := b) h)
    by_cases h0 : 0 ≤ q
    · have h2 : ¬ q ≤ 62 := by omega
      clear h
      go_enter Try.func41, Try.ntmps41
      go_wp2
      go_ret
      exact ⟨by rw [HV.out]; rfl, rfl⟩
    · clear h
      go_enter Try.func41, Try.ntmps41
      go_wp2
      go_ret
      exact ⟨by rw [HV.out]; rfl, rfl⟩

def gateV (a g : Int) : Int := if 0 < a then g else 0
theorem gate_any (a g : Int) (w : World) : Calls Try.prog 56 #[.int .i64 a, .int .i64 g] w fun e w' => e = .returned (.int .i64 (gateV a g)) ∧ w = w' := by
  by_cases h : 0 < a
  · go_enter Try.func56, Try.ntmps56
    go_wp2
    go_ret
    exact ⟨ret_int (by rw [gateV, if_pos h]), rfl⟩
  · go_enter Try.func56, Try.ntmps56
    go_wp2
    go_ret
    exact ⟨ret_int (by rw [gateV, if_neg (by omega)]), rfl⟩
theorem rgate_any (a g : Int) (w : World) : Calls Try.prog 35 #[.int .i64 a, .int .i64 g] w fun e w' => e = .returned (.int .i64 (gateV a g)) ∧ w = w' := by
  by_cases h : 0 < a
  · go_enter Try.func35, Try.ntmps35
    go_wp2
    go_ret
    exact ⟨ret_int (by rw [gateV, if_pos h]), rfl⟩
  · go_enter Try.func35, Try.ntmps35
    go_wp2
    go_ret
    exact ⟨ret_int (by rw [gateV, if_neg (by omega)]), rfl⟩
theorem relu_any (a : Int) (w : World) : Calls Try.prog 72 #[.int .i64 a] w fun e w' => e = .returned (.int .i64 (gateV a a)) ∧ w = w' := by
  go_enter Try.func72, Try.ntmps72
  go_wp2_with fail
  refine (gate_any a a _).mono ?_
  rintro e w1 ⟨rfl, rfl⟩
  go_wp2_with fail
  go_ret
  exact ⟨rfl, rfl⟩
theorem sub_any (a b : Int) (w : World) : Calls Try.prog 43 #[.int .i64 a, .int .i64 b] w fun e w' => e = .returned (.int .i64 (wrap64 (a - b))) ∧ w = w' := by
  go_enter Try.func43, Try.ntmps43
  go_wp2_with fail
  go_ret
  exact ⟨rfl, rfl⟩
end Go.Proofs.Ytciocdjpgknihaa
