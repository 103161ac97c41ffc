/- math/bits.Div64 by 10^19 at this program: quotient and remainder of two words. Condition: the high word is below 10^19. -/
import Derived.Test.YthcahpgandappaaGreatDoorXa
import Derived.Lib.BitFns
import Derived.Laws.Shifts
import Derived.BigCall
import Derived.BigGuard
import Derived.Deep.CutBlock
import Derived.Deep.DeepCutAuto
import Derived.Deep.LoopGhost
namespace Go.Proofs.YthcahpgandappaaGreatDoor
open Go.RowKit
set_option linter.unusedVariables false

theorem lz_scale (w : World) : Calls Tryz.prog 132 #[.int .u64 10000000000000000000] w fun e w' => e = .returned (.int .i64 0) ∧ w = w' := by
  have h : Lib.bitLen (10000000000000000000 : Int).toNat = 64 := by decide +kernel
  go_enter Tryz.func132, Tryz.ntmps132
  go_wp2_with fail
  refine (Tryz.bits_Len64 10000000000000000000 _ (by omega) (by omega)).mono ?_
  rintro e w' ⟨rfl, rfl⟩
  rw [h]
  go_wp2_with fail
  go_ret
  exact ⟨rfl, rfl⟩

set_option maxHeartbeats 4000000 in
set_option maxRecDepth 100000 in
theorem div_small (lo : Nat) (w : World) (hlo : lo < 18446744073709551616) :
    Calls Tryz.prog 120 #[.int .u64 0, .int .u64 (lo : Int), .int .u64 10000000000000000000] w fun e w' => e = .returned (.tuple #[.int .u64 ((lo / 10000000000000000000 : Nat) : Int), .int .u64 ((lo % 10000000000000000000 : Nat) : Int)]) ∧ Grew w w' := by
  go_enter Tryz.func120, Tryz.ntmps120
  go_wp2_with fail
  go_quiet (fail)
  go_wp2_with fail
  go_ret2
  refine ⟨?_, Grew.drewN (Grew.refl _) _⟩
  simp only [Int.natCast_ediv, Int.natCast_emod]
  rfl
theorem guess_iff {a b M u Q R : Nat} : Q * (a * M + b) ≤ (Q * a + R) * M + u ↔ Q * b ≤ M * R + u := by
  rw [Nat.mul_add, ← Nat.mul_assoc, Nat.add_mul, Nat.mul_comm M R]
  constructor <;> intro h <;> omega
set_option maxRecDepth 100000 in
/-- One digit of a long division: a guess that is not too small is lowered until it is right. -/
theorem knuth {U u Q R : Nat} (hU : U < 10000000000000000000) (hu : u < 4294967296) (h1 : Q * 2328306436 + R = U) (h2 : (U * 4294967296 + u) / 10000000000000000000 ≤ Q) :
    (Q * 10000000000000000000 ≤ U * 4294967296 + u → Q < 4294967296 ∧ Q * 2313682944 ≤ 4294967296 * R + u ∧ Q = (U * 4294967296 + u) / 10000000000000000000) ∧
    (¬ Q * 10000000000000000000 ≤ U * 4294967296 + u → 1 ≤ Q ∧ (Q < 4294967296 → 4294967296 * R + u < Q * 2313682944) ∧ (U * 4294967296 + u) / 10000000000000000000 ≤ Q - 1 ∧ (Q - 1) * 2328306436 + (R + 2328306436) = U ∧ (4294967296 ≤ R + 2328306436 → (Q - 1) * 10000000000000000000 ≤ U * 4294967296 + u)) := by
  have hN : U * 4294967296 + u < 4294967296 * 10000000000000000000 := by clear h2 h1; omega
  obtain ⟨q, hq⟩ : ∃ q, (U * 4294967296 + u) / 10000000000000000000 = q := ⟨_, rfl⟩
  have hq1 : q * 10000000000000000000 ≤ U * 4294967296 + u := by rw [← hq]; exact Nat.div_mul_le_self _ _
  have hq2 : U * 4294967296 + u < (q + 1) * 10000000000000000000 := by rw [← hq]; exact (Nat.div_lt_iff_lt_mul (by decide)).1 (Nat.lt_succ_self _)
  rw [hq] at h2 ⊢
  clear hq
  subst h1
  generalize hK : 10000000000000000000 = K at *
  obtain rfl : 2328306436 * 4294967296 + 2313682944 = K := hK
  refine ⟨fun h => ⟨Nat.lt_of_mul_lt_mul_right (Nat.lt_of_le_of_lt h hN), guess_iff.1 h, by omega⟩, fun h => ?_⟩
  have h0 : 1 ≤ Q := by
    rcases Nat.eq_zero_or_pos Q with rfl | h0
    · exact absurd (by rw [Nat.zero_mul]; exact Nat.zero_le _) h
    · exact h0
  refine ⟨h0, fun _ => Nat.lt_of_not_le fun h8 => h (guess_iff.2 h8), by omega, by clear h h2 hN hq1 hq2 hU hu; omega, fun h4 => ?_⟩
  have h7 : Q ≤ 4294967296 := by clear h h2 hN hq1 hq2 h4; omega
  clear h h2 hN hq1 hq2 hU hu
  omega
def KInv (U u Q R : Nat) : Prop := Q * 2328306436 + R = U ∧ (U * 4294967296 + u) / 10000000000000000000 ≤ Q ∧ R < 4294967296
set_option maxRecDepth 100000 in
theorem kinv_start {U u : Nat} (hU : U < 10000000000000000000) (hu : u < 4294967296) : KInv U u (U / 2328306436) (U % 2328306436) := ⟨by omega, by omega, by omega⟩
set_option maxRecDepth 100000 in
/-- What the test says, and what follows. -/
theorem kinv_done {U u Q R : Nat} (hU : U < 10000000000000000000) (hu : u < 4294967296) (h : KInv U u Q R) (hd : Q * 10000000000000000000 ≤ U * 4294967296 + u) :
    Q < 4294967296 ∧ Q * 2313682944 ≤ 4294967296 * R + u ∧ Q = (U * 4294967296 + u) / 10000000000000000000 := (knuth hU hu h.1 h.2.1).1 hd
set_option maxRecDepth 100000 in
theorem kinv_more {U u Q R : Nat} (hU : U < 10000000000000000000) (hu : u < 4294967296) (h : KInv U u Q R) (hd : ¬ Q * 10000000000000000000 ≤ U * 4294967296 + u) :
    1 ≤ Q ∧ (Q < 4294967296 → 4294967296 * R + u < Q * 2313682944) ∧ (R + 2328306436 < 4294967296 → KInv U u (Q - 1) (R + 2328306436)) ∧ (4294967296 ≤ R + 2328306436 → Q - 1 = (U * 4294967296 + u) / 10000000000000000000) := by
  obtain ⟨a1, a2, a3, a4, a5⟩ := (knuth hU hu h.1 h.2.1).2 hd
  refine ⟨a1, a2, fun h4 => ⟨a4, a3, h4⟩, fun h4 => ?_⟩
  have := a5 h4
  omega
theorem kinv_le {U u Q R : Nat} (hU : U < 10000000000000000000) (h : KInv U u Q R) : Q ≤ 4294967297 := by have := h.1; omega
theorem digit_lt {U u : Nat} (hU : U < 10000000000000000000) (hu : u < 4294967296) : (U * 4294967296 + u) / 10000000000000000000 < 4294967296 :=
  Nat.div_lt_of_lt_mul (by omega)
theorem or_zero' {x : Nat} (hx : x < 18446744073709551616) (lo : Nat) (hlo : lo < 18446744073709551616) : bits .or .u64 (x : Int) ((lo : Int) / 18446744073709551616) = (x : Int) := by
  rw [show ((lo : Int) / 18446744073709551616) = ((0 : Nat) : Int) by omega, bits_or_u64_nat x 0 hx (by omega), Nat.or_zero]
theorem and_low {x : Nat} (hx : x < 18446744073709551616) : bits .and .u64 (x : Int) 4294967295 = ((x % 4294967296 : Nat) : Int) := by
  rw [show (4294967295 : Int) = ((4294967295 : Nat) : Int) from rfl, bits_and_u64_nat x 4294967295 hx (by omega)]
  have : x &&& 4294967295 = x % 4294967296 := Nat.and_two_pow_sub_one_eq_mod x 32
  rw [this]

theorem sub_mod {P V U u m a a' b b' c c' M : Nat} (hm : P + V = U * M + u) (k1 : m * a' + a = U * M) (k2 : m * b' + b = a + u) (k3 : m * c' + c = P) (hV : V < m) : ((b : Int) - (c : Int)) % (m : Int) = (V : Int) := by
  have e : (b : Int) - (c : Int) = (V : Int) + (m : Int) * ((c' : Int) - (a' : Int) - (b' : Int)) := by
    have h1 : (P : Int) + V = U * M + u := by exact_mod_cast hm
    have h2 : (m : Int) * a' + a = U * M := by exact_mod_cast k1
    have h3 : (m : Int) * b' + b = a + u := by exact_mod_cast k2
    have h4 : (m : Int) * c' + c = P := by exact_mod_cast k3
    grind
  rw [e, Int.add_mul_emod_self_left]
  exact Int.emod_eq_of_lt (by omega) (by omega)
set_option maxRecDepth 100000 in
/-- What is left behind the first digit, word by word. -/
theorem tail_rules {U u Q y a : Nat} (hy : y = 10000000000000000000) (ha : a = 2328306436) (hu : u < 4294967296) (hU : U < 10000000000000000000) (hQ : Q = (U * 4294967296 + u) / 10000000000000000000) :
    ∃ A B C V : Nat, IntKind.u64.wrap ((U : Int) * 4294967296) = (A : Int) ∧ IntKind.u64.wrap ((A : Int) + (u : Int)) = (B : Int) ∧ IntKind.u64.wrap ((Q : Int) * (y : Int)) = (C : Int) ∧ IntKind.u64.wrap ((B : Int) - (C : Int)) = (V : Int) ∧ V = (U * 4294967296 + u) % 10000000000000000000 := by
  subst hy
  have hm := Nat.div_add_mod (U * 4294967296 + u) 10000000000000000000
  have hl := Nat.mod_lt (U * 4294967296 + u) (show 0 < 10000000000000000000 by decide)
  rw [← hQ] at hm
  clear hQ ha
  generalize (U * 4294967296 + u) % 10000000000000000000 = V at *
  refine ⟨U * 4294967296 % 18446744073709551616, (U * 4294967296 % 18446744073709551616 + u) % 18446744073709551616, Q * 10000000000000000000 % 18446744073709551616, V, ?_, ?_, ?_, ?_, rfl⟩
  · rw [u64wrap]; omega
  · rw [u64wrap]; omega
  · rw [u64wrap]; omega
  · rw [u64wrap]
    rw [Nat.mul_comm] at hm
    obtain ⟨P, hP⟩ : ∃ P, Q * 10000000000000000000 = P := ⟨_, rfl⟩
    rw [hP] at hm ⊢
    have k1 := Nat.div_add_mod (U * 4294967296) 18446744073709551616
    have k2 := Nat.div_add_mod (U * 4294967296 % 18446744073709551616 + u) 18446744073709551616
    have k3 := Nat.div_add_mod P 18446744073709551616
    have k4 : V < 18446744073709551616 := Nat.lt_of_lt_of_le hl (by decide)
    have k5 := sub_mod hm k1 k2 k3 k4
    exact k5
/-- The next guess. -/
theorem guess_rules {V a : Nat} (ha : a = 2328306436) (hV : V < 10000000000000000000) :
    ∃ Q R : Nat, (V : Int) / (a : Int) = (Q : Int) ∧ IntKind.u64.wrap (Q : Int) = (Q : Int) ∧ IntKind.u64.wrap ((V : Int) - IntKind.u64.wrap ((Q : Int) * (a : Int))) = (R : Int) ∧ Q = V / 2328306436 ∧ R = V % 2328306436 := by
  subst ha
  refine ⟨V / 2328306436, V % 2328306436, by omega, by rw [u64wrap]; omega, ?_, rfl, rfl⟩
  obtain ⟨Q, hQ⟩ : ∃ Q, V / 2328306436 = Q := ⟨_, rfl⟩
  obtain ⟨R, hR⟩ : ∃ R, V % 2328306436 = R := ⟨_, rfl⟩
  rw [hQ, hR]
  have e1 : (Q : Int) * (2328306436 : Nat) % 18446744073709551616 = (Q : Int) * (2328306436 : Nat) := Int.emod_eq_of_lt (by omega) (by omega)
  have e2 : (V : Int) - (Q : Int) * (2328306436 : Nat) = (R : Int) := by omega
  rw [u64wrap, u64wrap, e1, e2]
  exact Int.emod_eq_of_lt (by omega) (by omega)
theorem both_gen {hi u1 u0 Q1 V Q2 r K M : Nat} (hm : K * Q1 + V = hi * M + u1) (hm2 : K * Q2 + r = V * M + u0) : hi * (M * M) + (u1 * M + u0) = K * (Q1 * M + Q2) + r := by
  grind
set_option maxRecDepth 100000 in
/-- Both digits make the quotient; what is left is the remainder. -/
theorem both_digits {hi lo u1 u0 Q1 V Q2 : Nat} (hl : lo = u1 * 4294967296 + u0) (h1 : Q1 = (hi * 4294967296 + u1) / 10000000000000000000) (hV : V = (hi * 4294967296 + u1) % 10000000000000000000) (h2 : Q2 = (V * 4294967296 + u0) / 10000000000000000000) (hb : Q1 < 4294967296) (hb2 : Q2 < 4294967296) :
    ∃ D : Nat, IntKind.u64.wrap ((Q1 : Int) * 4294967296) = (D : Int) ∧ IntKind.u64.wrap ((D : Int) + (Q2 : Int)) = (((hi * 18446744073709551616 + lo) / 10000000000000000000 : Nat) : Int) ∧ (V * 4294967296 + u0) % 10000000000000000000 = (hi * 18446744073709551616 + lo) % 10000000000000000000 := by
  have hm := Nat.div_add_mod (hi * 4294967296 + u1) 10000000000000000000
  rw [← h1, ← hV] at hm
  have hm2 := Nat.div_add_mod (V * 4294967296 + u0) 10000000000000000000
  have hl2 := Nat.mod_lt (V * 4294967296 + u0) (show 0 < 10000000000000000000 by decide)
  rw [← h2] at hm2
  have e : hi * 18446744073709551616 + lo = 10000000000000000000 * (Q1 * 4294967296 + Q2) + (V * 4294967296 + u0) % 10000000000000000000 := by
    rw [hl, show (18446744073709551616 : Nat) = 4294967296 * 4294967296 from rfl]
    exact both_gen hm hm2
  have eq : (hi * 18446744073709551616 + lo) / 10000000000000000000 = Q1 * 4294967296 + Q2 := by
    rw [e, Nat.mul_add_div (by decide), Nat.div_eq_of_lt hl2, Nat.add_zero]
  refine ⟨Q1 * 4294967296, by rw [u64wrap]; omega, ?_, ?_⟩
  · rw [eq, u64wrap]; omega
  · rw [e, Nat.mul_add_mod, Nat.mod_mod]

set_option maxHeartbeats 4000000 in
set_option maxRecDepth 1000000 in
theorem div_big (hi lo y a b : Nat) (w : World) (h0 : 0 < hi) (hhi : hi < y) (hlo : lo < 18446744073709551616) (hy : y < 18446744073709551616) (HY : Hid (y = 10000000000000000000)) (HA : Hid (a = 2328306436)) (HB : Hid (b = 2313682944))
    (hz : Calls Tryz.prog 132 #[.int .u64 (y : Int)] w fun e w' => e = .returned (.int .i64 0) ∧ w = w') :
    Calls Tryz.prog 120 #[.int .u64 (hi : Int), .int .u64 (lo : Int), .int .u64 (y : Int)] w fun e w' => e = .returned (.tuple #[.int .u64 (((hi * 18446744073709551616 + lo) / y : Nat) : Int), .int .u64 (((hi * 18446744073709551616 + lo) % y : Nat) : Int)]) ∧ w = w' := by
  have hb0 : ((hi : Int) == 0) = false := by rw [beq_eq_false_iff_ne]; omega
  have hb1 : ((y : Int) == 0) = false := by rw [beq_eq_false_iff_ne]; omega
  have hb2 : ¬ (y : Int) ≤ hi := by omega
  have HU := Lib.hid (show hi < 10000000000000000000 by rw [← HY.out]; exact hhi)
  have r1 : (y : Int) / 4294967296 = (a : Int) := by have h1 := HY.out; have h2 := HA.out; omega
  have r2 : bits .and .u64 (y : Int) 4294967295 = (b : Int) := by rw [and_low hy, HY.out, HB.out]
  have r3 := or_zero' (x := hi) (by omega) lo hlo
  obtain ⟨u1, hw1⟩ : ∃ u1, lo / 4294967296 = u1 := ⟨_, rfl⟩
  obtain ⟨u0, hw0⟩ : ∃ u0, lo % 4294967296 = u0 := ⟨_, rfl⟩
  have r4 : (lo : Int) / 4294967296 = (u1 : Int) := by omega
  have r5 : bits .and .u64 (lo : Int) 4294967295 = (u0 : Int) := by rw [and_low hlo, hw0]
  have hu1' : u1 < 4294967296 := by omega
  have hu0' : u0 < 4294967296 := by omega
  have HL := Lib.hid (show lo = u1 * 4294967296 + u0 by omega)
  obtain ⟨Q0, hQ0⟩ : ∃ Q0, hi / 2328306436 = Q0 := ⟨_, rfl⟩
  obtain ⟨R0, hR0⟩ : ∃ R0, hi % 2328306436 = R0 := ⟨_, rfl⟩
  have r6 : (hi : Int) / (a : Int) = (Q0 : Int) := by rw [HA.out]; omega
  have r7 : IntKind.u64.wrap ((hi : Int) - IntKind.u64.wrap ((Q0 : Int) * (a : Int))) = (R0 : Int) := by
    have e1 : (Q0 : Int) * (2328306436 : Nat) % 18446744073709551616 = (Q0 : Int) * (2328306436 : Nat) := Int.emod_eq_of_lt (by omega) (by omega)
    have e2 : (hi : Int) - (Q0 : Int) * (2328306436 : Nat) = (R0 : Int) := by omega
    rw [HA.out, u64wrap, u64wrap, e1, e2]
    exact Int.emod_eq_of_lt (by omega) (by omega)
  have HK := Lib.hid (show KInv hi u1 Q0 R0 by rw [← hQ0, ← hR0]; exact kinv_start HU.out hu1')
  have r0 : IntKind.u64.wrap (lo : Int) = (lo : Int) := by rw [u64wrap]; omega
  have r8 : IntKind.u64.wrap (Q0 : Int) = (Q0 : Int) := by have := kinv_le HU.out HK.out; rw [u64wrap]; omega
  have ha0 : ¬ (a : Int) = 0 := by rw [HA.out]; omega
  have ha1 : (0 : Int) < a := by rw [HA.out]; omega
  have ha2 : (a : Int) < 4294967296 := by rw [HA.out]; omega
  have hu1 := Lib.hid hu1'
  have hu0 := Lib.hid hu0'
  have hlo' := Lib.hid hlo
  have hy' := Lib.hid hy
  clear hw1 hw0 hQ0 hR0 hu1' hu0' hlo hy
  obtain ⟨Q1, hQ1⟩ : ∃ Q1, (hi * 4294967296 + u1) / 10000000000000000000 = Q1 := ⟨_, rfl⟩
  have HQ1 := Lib.hid hQ1
  clear hQ1
  go_enter Tryz.func120, Tryz.ntmps120
  go_wp2_with fail
  refine hz.mono ?_
  rintro e w' ⟨rfl, rfl⟩
  go_wp2_with fail
  go_loop [15, 16] (fun q r => ∃ Q R : Nat, q = .int .u64 (Q : Int) ∧ r = .int .u64 (R : Int) ∧ KInv hi u1 Q R) (fun q _ => (intOf q).toNat)
  case atStart => exact ⟨_, _, rfl, rfl, HK.out⟩
  case round =>
    obtain ⟨Q, R, rfl, rfl, hK⟩ := hrel
    have hq := kinv_le HU.out hK
    have hr := hK.2.2
    have HK9 := Lib.hid hK
    clear hK
    obtain ⟨T, hT⟩ : ∃ T, Q * 2313682944 = T := ⟨_, rfl⟩
    obtain ⟨S, hS⟩ : ∃ S, 4294967296 * R = S := ⟨_, rfl⟩
    obtain ⟨V, hV⟩ : ∃ V, S + u1 = V := ⟨_, rfl⟩
    have hb4 := hu1.out
    have r9 : IntKind.u64.wrap ((Q : Int) * (b : Int)) = (T : Int) := by rw [HB.out, u64wrap]; omega
    have r10 : IntKind.u64.wrap (4294967296 * (R : Int)) = (S : Int) := by rw [u64wrap]; omega
    have r11 : IntKind.u64.wrap ((S : Int) + (u1 : Int)) = (V : Int) := by rw [u64wrap]; omega
    have HT := Lib.hid (show Q * 2313682944 = T ∧ 4294967296 * R + u1 = V by omega)
    clear hT hS hV hb4
    by_cases hd : Q * 10000000000000000000 ≤ hi * 4294967296 + u1
    · have hk := kinv_done HU.out hu1.out HK9.out hd
      have hk1 : ¬ (4294967296 : Int) ≤ (Q : Int) := by omega
      have hk2 : ¬ (V < T) := by have := hk.2.1; have := HT.out; omega
      have HE := Lib.hid (And.intro hk.1 hk.2.2)
      have hk3 : decide ((4294967296 : Int) ≤ (Q : Int)) = false := decide_eq_false hk1
      have hk4 : decide (V < T) = false := decide_eq_false hk2
      clear hk hd hq hr hk1 hk2 r0 r1 r2 r3 r4 r5 r6 r7 r8 hb0 hb1 hb2
      obtain ⟨A, B, C, W, s1, s2, s3, s4, hW⟩ := tail_rules (Q := Q) HY.out HA.out hu1.out HU.out HE.out.2
      have hWlt : W < 10000000000000000000 := by rw [hW]; exact Nat.mod_lt _ (by decide)
      obtain ⟨Q2, R2, s5, s6, s7, hQ2, hR2⟩ := guess_rules (V := W) HA.out hWlt
      have HW := Lib.hid hW
      have HWL := Lib.hid hWlt
      have HK3 := Lib.hid (show KInv W u0 Q2 R2 by rw [hQ2, hR2]; exact kinv_start hWlt hu0.out)
      clear hW hWlt hQ2 hR2
      go_wp2_with fail
      clear s1 s2 s3 s4 s5 s6 s7
      go_loop [16, 18] (fun r q => ∃ Q R : Nat, q = .int .u64 (Q : Int) ∧ r = .int .u64 (R : Int) ∧ KInv W u0 Q R) (fun _ q => (intOf q).toNat)
      case atStart => exact ⟨_, _, rfl, rfl, HK3.out⟩
      case round =>
        obtain ⟨Q, R, rfl, rfl, hK⟩ := hrel
        have hq := kinv_le HWL.out hK
        have hr := hK.2.2
        have HK9 := Lib.hid hK
        clear hK
        obtain ⟨T, hT⟩ : ∃ T, Q * 2313682944 = T := ⟨_, rfl⟩
        obtain ⟨S, hS⟩ : ∃ S, 4294967296 * R = S := ⟨_, rfl⟩
        obtain ⟨V, hV⟩ : ∃ V, S + u0 = V := ⟨_, rfl⟩
        have hb4 := hu0.out
        have r9 : IntKind.u64.wrap ((Q : Int) * (b : Int)) = (T : Int) := by rw [HB.out, u64wrap]; omega
        have r10 : IntKind.u64.wrap (4294967296 * (R : Int)) = (S : Int) := by rw [u64wrap]; omega
        have r11 : IntKind.u64.wrap ((S : Int) + (u0 : Int)) = (V : Int) := by rw [u64wrap]; omega
        have HT := Lib.hid (show Q * 2313682944 = T ∧ 4294967296 * R + u0 = V by omega)
        clear hT hS hV hb4
        by_cases hd : Q * 10000000000000000000 ≤ W * 4294967296 + u0
        · have hk := kinv_done HWL.out hu0.out HK9.out hd
          have hk1 : ¬ (4294967296 : Int) ≤ (Q : Int) := by omega
          have hk2 : ¬ (V < T) := by have := hk.2.1; have := HT.out; omega
          have HE2 := Lib.hid (And.intro hk.1 hk.2.2)
          have hk3 : decide ((4294967296 : Int) ≤ (Q : Int)) = false := decide_eq_false hk1
          have hk4 : decide (V < T) = false := decide_eq_false hk2
          clear hk hd hq hr hk1 hk2 ha0 ha1 ha2
          obtain ⟨A2, B2, C2, W2, z1, z2, z3, z4, hW2⟩ := tail_rules (Q := Q) HY.out HA.out hu0.out HWL.out HE2.out.2
          obtain ⟨D, z5, z6, z7⟩ := both_digits (Q2 := Q) HL.out HE.out.2 HW.out HE2.out.2 HE.out.1 HE2.out.1
          have HZ := Lib.hid (show ((hi : Int) * 18446744073709551616 + (lo : Int)) % (y : Int) = (W2 : Int) by rw [hW2, z7, HY.out]; simp)
          have HZ6 := Lib.hid z6
          obtain ⟨E, hE⟩ : ∃ E, (hi * 18446744073709551616 + lo) / 10000000000000000000 = E := ⟨_, rfl⟩
          rw [hE] at z6
          have HEE := Lib.hid (show ((hi : Int) * 18446744073709551616 + (lo : Int)) / (y : Int) = (E : Int) by rw [← hE, HY.out]; simp)
          clear z7 hW2 hE HZ6
          go_wp2_with fail
          go_ret2
          exact ⟨by rw [HEE.out, HZ.out]; rfl, rfl⟩
        · have hk := kinv_more HWL.out hu0.out HK9.out hd
          have hk2 : Q < 4294967296 → V < T := by intro h; have := hk.2.1 h; have := HT.out; omega
          obtain ⟨P, hP⟩ : ∃ P, Q - 1 = P := ⟨_, rfl⟩
          obtain ⟨R3, hR3⟩ : ∃ R3, R + 2328306436 = R3 := ⟨_, rfl⟩
          have hk1 := hk.1
          have r12 : IntKind.u64.wrap ((Q : Int) - 1) = (P : Int) := by rw [u64wrap]; omega
          have r13 : IntKind.u64.wrap ((R : Int) + (a : Int)) = (R3 : Int) := by rw [HA.out, u64wrap]; omega
          have HP := Lib.hid (show P < Q by omega)
          rcases (show decide ((4294967296 : Int) ≤ (Q : Int)) = true ∨ (decide ((4294967296 : Int) ≤ (Q : Int)) = false ∧ decide (V < T) = true) by
            by_cases h : 4294967296 ≤ Q
            · exact Or.inl (decide_eq_true (by omega))
            · exact Or.inr ⟨decide_eq_false (by omega), decide_eq_true (hk2 (by omega))⟩) with hk3 | ⟨hk3, hk4⟩
          all_goals
            by_cases hbr : 4294967296 ≤ R + 2328306436
            · have HE2 := Lib.hid (show P < 4294967296 ∧ P = (W * 4294967296 + u0) / 10000000000000000000 by rw [← hP, hk.2.2.2 hbr]; exact ⟨digit_lt HWL.out hu0.out, rfl⟩)
              have hk5 : decide ((4294967296 : Int) ≤ (R3 : Int)) = true := decide_eq_true (by omega)
              clear hk hk2 hP hR3 hk1 hbr hd hq hr ha0 ha1 ha2
              obtain ⟨A2, B2, C2, W2, z1, z2, z3, z4, hW2⟩ := tail_rules (Q := P) HY.out HA.out hu0.out HWL.out HE2.out.2
              obtain ⟨D, z5, z6, z7⟩ := both_digits (Q2 := P) HL.out HE.out.2 HW.out HE2.out.2 HE.out.1 HE2.out.1
              have HZ := Lib.hid (show ((hi : Int) * 18446744073709551616 + (lo : Int)) % (y : Int) = (W2 : Int) by rw [hW2, z7, HY.out]; simp)
              have HZ6 := Lib.hid z6
              obtain ⟨E, hE⟩ : ∃ E, (hi * 18446744073709551616 + lo) / 10000000000000000000 = E := ⟨_, rfl⟩
              rw [hE] at z6
              have HEE := Lib.hid (show ((hi : Int) * 18446744073709551616 + (lo : Int)) / (y : Int) = (E : Int) by rw [← hE, HY.out]; simp)
              clear z7 hW2 hE HZ6
              go_wp2_with fail
              go_ret2
              exact ⟨by rw [HEE.out, HZ.out]; rfl, rfl⟩
            · have HN := Lib.hid (show KInv W u0 P R3 by rw [← hP, ← hR3]; exact hk.2.2.1 (by omega))
              have hk5 : decide ((4294967296 : Int) ≤ (R3 : Int)) = false := decide_eq_false (by omega)
              clear hk hk2 hP hR3 hk1 hbr hd hq hr ha0 ha1 ha2
              go_wp2_with fail
              refine ⟨⟨P, R3, rfl, rfl, HN.out⟩, ?_⟩
              have := HP.out
              simp [intOf]; omega
    · have hk := kinv_more HU.out hu1.out HK9.out hd
      have hk2 : Q < 4294967296 → V < T := by intro h; have := hk.2.1 h; have := HT.out; omega
      obtain ⟨P, hP⟩ : ∃ P, Q - 1 = P := ⟨_, rfl⟩
      obtain ⟨R3, hR3⟩ : ∃ R3, R + 2328306436 = R3 := ⟨_, rfl⟩
      have hk1 := hk.1
      have r12 : IntKind.u64.wrap ((Q : Int) - 1) = (P : Int) := by rw [u64wrap]; omega
      have r13 : IntKind.u64.wrap ((R : Int) + (a : Int)) = (R3 : Int) := by rw [HA.out, u64wrap]; omega
      have HP := Lib.hid (show P < Q by omega)
      rcases (show decide ((4294967296 : Int) ≤ (Q : Int)) = true ∨ (decide ((4294967296 : Int) ≤ (Q : Int)) = false ∧ decide (V < T) = true) by
        by_cases h : 4294967296 ≤ Q
        · exact Or.inl (decide_eq_true (by omega))
        · exact Or.inr ⟨decide_eq_false (by omega), decide_eq_true (hk2 (by omega))⟩) with hk3 | ⟨hk3, hk4⟩
      all_goals
        by_cases hbr : 4294967296 ≤ R + 2328306436
        · have HE := Lib.hid (show P < 4294967296 ∧ P = (hi * 4294967296 + u1) / 10000000000000000000 by rw [← hP, hk.2.2.2 hbr]; exact ⟨digit_lt HU.out hu1.out, rfl⟩)
          have hk5 : decide ((4294967296 : Int) ≤ (R3 : Int)) = true := decide_eq_true (by omega)
          clear hk hk2 hP hR3 hk1 hbr hd hq hr r0 r1 r2 r3 r4 r5 r6 r7 r8 hb0 hb1 hb2
          obtain ⟨A, B, C, W, s1, s2, s3, s4, hW⟩ := tail_rules (Q := P) HY.out HA.out hu1.out HU.out HE.out.2
          have hWlt : W < 10000000000000000000 := by rw [hW]; exact Nat.mod_lt _ (by decide)
          obtain ⟨Q2, R2, s5, s6, s7, hQ2, hR2⟩ := guess_rules (V := W) HA.out hWlt
          have HW := Lib.hid hW
          have HWL := Lib.hid hWlt
          have HK3 := Lib.hid (show KInv W u0 Q2 R2 by rw [hQ2, hR2]; exact kinv_start hWlt hu0.out)
          clear hW hWlt hQ2 hR2
          go_wp2_with fail
          clear s1 s2 s3 s4 s5 s6 s7
          go_loop [16, 18] (fun r q => ∃ Q R : Nat, q = .int .u64 (Q : Int) ∧ r = .int .u64 (R : Int) ∧ KInv W u0 Q R) (fun _ q => (intOf q).toNat)
          case atStart => exact ⟨_, _, rfl, rfl, HK3.out⟩
          case round =>
            obtain ⟨Q, R, rfl, rfl, hK⟩ := hrel
            have hq := kinv_le HWL.out hK
            have hr := hK.2.2
            have HK9 := Lib.hid hK
            clear hK
            obtain ⟨T, hT⟩ : ∃ T, Q * 2313682944 = T := ⟨_, rfl⟩
            obtain ⟨S, hS⟩ : ∃ S, 4294967296 * R = S := ⟨_, rfl⟩
            obtain ⟨V, hV⟩ : ∃ V, S + u0 = V := ⟨_, rfl⟩
            have hb4 := hu0.out
            have r9 : IntKind.u64.wrap ((Q : Int) * (b : Int)) = (T : Int) := by rw [HB.out, u64wrap]; omega
            have r10 : IntKind.u64.wrap (4294967296 * (R : Int)) = (S : Int) := by rw [u64wrap]; omega
            have r11 : IntKind.u64.wrap ((S : Int) + (u0 : Int)) = (V : Int) := by rw [u64wrap]; omega
            have HT := Lib.hid (show Q * 2313682944 = T ∧ 4294967296 * R + u0 = V by omega)
            clear hT hS hV hb4
            by_cases hd : Q * 10000000000000000000 ≤ W * 4294967296 + u0
            · have hk := kinv_done HWL.out hu0.out HK9.out hd
              have hk1 : ¬ (4294967296 : Int) ≤ (Q : Int) := by omega
              have hk2 : ¬ (V < T) := by have := hk.2.1; have := HT.out; omega
              have HE2 := Lib.hid (And.intro hk.1 hk.2.2)
              have hk3 : decide ((4294967296 : Int) ≤ (Q : Int)) = false := decide_eq_false hk1
              have hk4 : decide (V < T) = false := decide_eq_false hk2
              clear hk hd hq hr hk1 hk2 ha0 ha1 ha2
              obtain ⟨A2, B2, C2, W2, z1, z2, z3, z4, hW2⟩ := tail_rules (Q := Q) HY.out HA.out hu0.out HWL.out HE2.out.2
              obtain ⟨D, z5, z6, z7⟩ := both_digits (Q2 := Q) HL.out HE.out.2 HW.out HE2.out.2 HE.out.1 HE2.out.1
              have HZ := Lib.hid (show ((hi : Int) * 18446744073709551616 + (lo : Int)) % (y : Int) = (W2 : Int) by rw [hW2, z7, HY.out]; simp)
              have HZ6 := Lib.hid z6
              obtain ⟨E, hE⟩ : ∃ E, (hi * 18446744073709551616 + lo) / 10000000000000000000 = E := ⟨_, rfl⟩
              rw [hE] at z6
              have HEE := Lib.hid (show ((hi : Int) * 18446744073709551616 + (lo : Int)) / (y : Int) = (E : Int) by rw [← hE, HY.out]; simp)
              clear z7 hW2 hE HZ6
              go_wp2_with fail
              go_ret2
              exact ⟨by rw [HEE.out, HZ.out]; rfl, rfl⟩
            · have hk := kinv_more HWL.out hu0.out HK9.out hd
              have hk2 : Q < 4294967296 → V < T := by intro h; have := hk.2.1 h; have := HT.out; omega
              obtain ⟨P, hP⟩ : ∃ P, Q - 1 = P := ⟨_, rfl⟩
              obtain ⟨R3, hR3⟩ : ∃ R3, R + 2328306436 = R3 := ⟨_, rfl⟩
              have hk1 := hk.1
              have r12 : IntKind.u64.wrap ((Q : Int) - 1) = (P : Int) := by rw [u64wrap]; omega
              have r13 : IntKind.u64.wrap ((R : Int) + (a : Int)) = (R3 : Int) := by rw [HA.out, u64wrap]; omega
              have HP := Lib.hid (show P < Q by omega)
              rcases (show decide ((4294967296 : Int) ≤ (Q : Int)) = true ∨ (decide ((4294967296 : Int) ≤ (Q : Int)) = false ∧ decide (V < T) = true) by
                by_cases h : 4294967296 ≤ Q
                · exact Or.inl (decide_eq_true (by omega))
                · exact Or.inr ⟨decide_eq_false (by omega), decide_eq_true (hk2 (by omega))⟩) with hk3 | ⟨hk3, hk4⟩
              all_goals
                by_cases hbr : 4294967296 ≤ R + 2328306436
                · have HE2 := Lib.hid (show P < 4294967296 ∧ P = (W * 4294967296 + u0) / 10000000000000000000 by rw [← hP, hk.2.2.2 hbr]; exact ⟨digit_lt HWL.out hu0.out, rfl⟩)
                  have hk5 : decide ((4294967296 : Int) ≤ (R3 : Int)) = true := decide_eq_true (by omega)
                  clear hk hk2 hP hR3 hk1 hbr hd hq hr ha0 ha1 ha2
                  obtain ⟨A2, B2, C2, W2, z1, z2, z3, z4, hW2⟩ := tail_rules (Q := P) HY.out HA.out hu0.out HWL.out HE2.out.2
                  obtain ⟨D, z5, z6, z7⟩ := both_digits (Q2 := P) HL.out HE.out.2 HW.out HE2.out.2 HE.out.1 HE2.out.1
                  have HZ := Lib.hid (show ((hi : Int) * 18446744073709551616 + (lo : Int)) % (y : Int) = (W2 : Int) by rw [hW2, z7, HY.out]; simp)
                  have HZ6 := Lib.hid z6
                  obtain ⟨E, hE⟩ : ∃ E, (hi * 18446744073709551616 + lo) / 10000000000000000000 = E := ⟨_, rfl⟩
                  rw [hE] at z6
                  have HEE := Lib.hid (show ((hi : Int) * 18446744073709551616 + (lo : Int)) / (y : Int) = (E : Int) by rw [← hE, HY.out]; simp)
                  clear z7 hW2 hE HZ6
                  go_wp2_with fail
                  go_ret2
                  exact ⟨by rw [HEE.out, HZ.out]; rfl, rfl⟩
                · have HN := Lib.hid (show KInv W u0 P R3 by rw [← hP, ← hR3]; exact hk.2.2.1 (by omega))
                  have hk5 : decide ((4294967296 : Int) ≤ (R3 : Int)) = false := decide_eq_false (by omega)
                  clear hk hk2 hP hR3 hk1 hbr hd hq hr ha0 ha1 ha2
                  go_wp2_with fail
                  refine ⟨⟨P, R3, rfl, rfl, HN.out⟩, ?_⟩
                  have := HP.out
                  simp [intOf]; omega
        · have HN := Lib.hid (show KInv hi u1 P R3 by rw [← hP, ← hR3]; exact hk.2.2.1 (by omega))
          have hk5 : decide ((4294967296 : Int) ≤ (R3 : Int)) = false := decide_eq_false (by omega)
          clear hk hk2 hP hR3 hk1 hbr hd hq hr r0 r1 r2 r3 r4 r5 r6 r7 r8 hb0 hb1 hb2
          go_wp2_with fail
          refine ⟨⟨P, R3, rfl, rfl, HN.out⟩, ?_⟩
          have := HP.out
          simp [intOf]; omega
/-- Quotient and remainder of two words by 10^19. -/
theorem div64_any (hi lo : Nat) (w : World) (hhi : hi < 10000000000000000000) (hlo : lo < 18446744073709551616) :
    Calls Tryz.prog 120 #[.int .u64 (hi : Int), .int .u64 (lo : Int), .int .u64 10000000000000000000] w fun e w' => e = .returned (.tuple #[.int .u64 (((hi * 18446744073709551616 + lo) / 10000000000000000000 : Nat) : Int), .int .u64 (((hi * 18446744073709551616 + lo) % 10000000000000000000 : Nat) : Int)]) ∧ Grew w w' := by
  rcases Nat.eq_zero_or_pos hi with rfl | h0
  · simpa using div_small lo w hlo
  · exact (div_big hi lo 10000000000000000000 2328306436 2313682944 w h0 hhi hlo (by decide) (Lib.hid rfl) (Lib.hid rfl) (Lib.hid rfl) (lz_scale w)).mono fun e w' ⟨he, hw⟩ => ⟨he, hw ▸ Grew.refl _⟩
end Go.Proofs.YthcahpgandappaaGreatDoor
