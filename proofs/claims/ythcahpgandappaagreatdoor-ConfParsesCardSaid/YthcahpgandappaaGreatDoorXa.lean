/- Package fixp: fractionBits, multiply, shift, Mul, One, Shift and Product, and the statement's alive and the reference's One: each returns what the plain function of Math says; of what lay in memory nothing has changed. Conditions: the int64 arguments are within their bounds; the low word is a uint64. -/
import Derived.Test.YthcahpgandappaaGreatDoorRows
import Derived.Test.YthcahpgandappaaGreatDoorShelf
import Derived.Test.YthcahpgandappaaGreatDoorMath
import Derived.Test.YthcahpgandappaaGreatDoorGw
import Derived.WalkKit
import Derived.Below
import Derived.Lib.Hide
import Derived.Deep.QuietTactic
import Derived.BigQuiet
namespace Go.Proofs.YthcahpgandappaaGreatDoor
open Go.RowKit

theorem ret_words {a b c d : Int} (h : a = b) (h2 : c = d) : Ending.returned (.tuple #[.int .i64 a, .int .u64 c]) = .returned (.tuple #[.int .i64 b, .int .u64 d]) := by rw [h, h2]

theorem fb_yes (q : Int) (w : World) (h : 0 ≤ q) (h2 : q ≤ 62) : Calls Tryz.prog 108 #[.int .i64 q] w fun e w' => e = .returned (.bool true) ∧ w = w' := by
  go_enter Tryz.func108, Tryz.ntmps108
  go_wp2
  go_ret
  exact ⟨rfl, rfl⟩
theorem fb_no (q : Int) (w : World) (h : ¬ (0 ≤ q ∧ q ≤ 62)) : Calls Tryz.prog 108 #[.int .i64 q] w fun e w' => e = .returned (.bool false) ∧ w = w' := by
  by_cases h0 : 0 ≤ q
  · have h2 : ¬ q ≤ 62 := by omega
    clear h
    go_enter Tryz.func108, Tryz.ntmps108
    go_wp2
    go_ret
    exact ⟨rfl, rfl⟩
  · clear h
    go_enter Tryz.func108, Tryz.ntmps108
    go_wp2
    go_ret
    exact ⟨rfl, rfl⟩

theorem shift_any (lo hi : Int) (q : Int) (w : World) (h0 : 0 ≤ q) (h1 : q ≤ 63) (hl : 0 ≤ lo) (hl2 : lo < 18446744073709551616) :
    Calls Tryz.prog 115 #[.agg #[.int .u64 lo, .int .u64 hi], .int .i64 q] w fun e w' => e = .returned (.int .i64 (wrap64 ((hi * 18446744073709551616 + lo) / 2 ^ q.toNat))) ∧ Grew w w' := by
  obtain ⟨n, rfl⟩ := Int.eq_ofNat_of_zero_le h0
  have hm := two_words (lo := lo) (hi := hi) (n := n) (by omega) hl hl2
  have H := Lib.hid hm
  clear hm
  go_enter Tryz.func115, Tryz.ntmps115
  go_wp2
  go_quiet (fail)
  go_wp2
  go_ret
  refine ⟨?_, ((Grew.refl _).alloc _).drewN _⟩
  rw [Int.toNat_natCast, ← H.out]
  rfl

set_option maxHeartbeats 400000 in
theorem multiply_any (a b : Int) (w : World) (a0 : -9223372036854775808 ≤ a) (a1 : a ≤ 9223372036854775807) (b0 : -9223372036854775808 ≤ b) (b1 : b ≤ 9223372036854775807) :
    Calls Tryz.prog 114 #[.int .i64 a, .int .i64 b] w fun e w' => e = .returned (.agg #[.int .u64 (a * b % 18446744073709551616), .int .u64 (a * b / 18446744073709551616 % 18446744073709551616)]) ∧ Grew w w' := by
  go_enter Tryz.func114, Tryz.ntmps114
  go_wp2_with fail
  obtain ⟨x, hx⟩ := Int.eq_ofNat_of_zero_le (a := IntKind.u64.wrap a) (by rw [u64wrap]; omega)
  obtain ⟨y, hy⟩ := Int.eq_ofNat_of_zero_le (a := IntKind.u64.wrap b) (by rw [u64wrap]; omega)
  rw [hx, hy]
  have HX := Lib.hid hx; clear hx
  have HY := Lib.hid hy; clear hy
  refine (Tryz.bits_Mul64 x y ?_ ?_ _).mono ?_
  · have := HX.out; rw [u64wrap] at this; omega
  · have := HY.out; rw [u64wrap] at this; omega
  rintro e w' ⟨rfl, rfl⟩
  have hm := mul_words HX.out HY.out a0 a1 b0 b1
  have HM := Lib.hid hm; clear hm
  go_wp2
  · exact bodyPost_ret (v := .agg #[.int .u64 ((x : Int) * y % 18446744073709551616), .int .u64 (IntKind.u64.wrap (IntKind.u64.wrap ((x : Int) * y / 18446744073709551616 - IntKind.u64.wrap b) - IntKind.u64.wrap a))]) (by simp [results, Tryz.results114, go_sem]) rfl
      ⟨by rw [HM.out.1, HM.out.2.1 (by assumption) (by assumption)], ((Grew.refl _).alloc _).alloc _⟩
  · exact bodyPost_ret (v := .agg #[.int .u64 ((x : Int) * y % 18446744073709551616), .int .u64 (IntKind.u64.wrap ((x : Int) * y / 18446744073709551616 - b))]) (by simp [results, Tryz.results114, go_sem]) rfl
      ⟨by rw [HM.out.1, HM.out.2.2.1 (by assumption) (by assumption)], ((Grew.refl _).alloc _).alloc _⟩
  · exact bodyPost_ret (v := .agg #[.int .u64 ((x : Int) * y % 18446744073709551616), .int .u64 (IntKind.u64.wrap ((x : Int) * y / 18446744073709551616 - a))]) (by simp [results, Tryz.results114, go_sem]) rfl
      ⟨by rw [HM.out.1, HM.out.2.2.2.1 (by assumption) (by assumption)], ((Grew.refl _).alloc _).alloc _⟩
  · exact bodyPost_ret (v := .agg #[.int .u64 ((x : Int) * y % 18446744073709551616), .int .u64 ((x : Int) * y / 18446744073709551616)]) (by simp [results, Tryz.results114, go_sem]) rfl
      ⟨by rw [HM.out.1, HM.out.2.2.2.2 (by assumption) (by assumption)], ((Grew.refl _).alloc _).alloc _⟩

theorem mul_any (a b q : Int) (w : World) (a0 : -9223372036854775808 ≤ a) (a1 : a ≤ 9223372036854775807) (b0 : -9223372036854775808 ≤ b) (b1 : b ≤ 9223372036854775807) :
    Calls Tryz.prog 97 #[.int .i64 a, .int .i64 b, .int .i64 q] w fun e w' => e = .returned (.int .i64 (mulV a b q)) ∧ Grew w w' := by
  by_cases h : 0 ≤ q ∧ q ≤ 62
  · obtain ⟨h0, h1⟩ := h
    have HV := Lib.hid (mulV_yes (a := a) (b := b) h0 h1)
    go_enter Tryz.func97, Tryz.ntmps97
    go_wp2_with fail
    refine (fb_yes q _ h0 h1).mono ?_
    rintro e w' ⟨rfl, rfl⟩
    go_wp2_with fail
    refine (multiply_any a b _ a0 a1 b0 b1).mono ?_
    rintro e w1 ⟨rfl, g1⟩
    go_wp2_with fail
    refine (shift_any _ _ q _ h0 (by omega) (by omega) (by omega)).mono ?_
    rintro e w2 ⟨rfl, g2⟩
    go_wp2_with fail
    go_ret
    exact ⟨by rw [HV.out, ← words_join (a * b) (q := q) (by omega)]; rfl, g1.trans g2⟩
  · have HV := Lib.hid (mulV_no (a := a) (b := b) h)
    go_enter Tryz.func97, Tryz.ntmps97
    go_wp2_with fail
    refine (fb_no q _ h).mono ?_
    rintro e w' ⟨rfl, rfl⟩
    go_wp2_with fail
    go_ret
    exact ⟨by rw [HV.out]; rfl, Grew.refl _⟩

theorem one_any (q : Int) (w : World) : Calls Tryz.prog 94 #[.int .i64 q] w fun e w' => e = .returned (.int .i64 (oneV q)) ∧ w = w' := by
  by_cases h : 0 ≤ q ∧ q ≤ 62
  · obtain ⟨h0, h1⟩ := h
    have HV := Lib.hid (oneV_yes h0 h1)
    go_enter Tryz.func94, Tryz.ntmps94
    go_wp2_with fail
    refine (fb_yes q _ h0 h1).mono ?_
    rintro e w' ⟨rfl, rfl⟩
    go_wp2_with fail
    go_ret
    exact ⟨ret_int (by rw [HV.out]; exact wrap_pow h1), rfl⟩
  · have HV := Lib.hid (oneV_no h)
    go_enter Tryz.func94, Tryz.ntmps94
    go_wp2_with fail
    refine (fb_no q _ h).mono ?_
    rintro e w' ⟨rfl, rfl⟩
    go_wp2_with fail
    go_ret
    exact ⟨by rw [HV.out]; rfl, rfl⟩

end Go.Proofs.YthcahpgandappaaGreatDoor
