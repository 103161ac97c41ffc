/- Package deci: fractionBits, Part, Whole, writeFraction, Text: each returns what the plain functions say; of what lay in memory nothing has changed. Conditions: the arguments are within their bounds; the table of powers of ten holds its numbers. -/
import Derived.Test.YthcahpgandappaaGreatDoorYb
import Derived.Deep.LoopGhost
namespace Go.Proofs.YthcahpgandappaaGreatDoor
open Go.RowKit

theorem pow_dvd64 {q : Nat} (hq : q ≤ 64) : (2 : Int) ^ q ∣ 18446744073709551616 := ⟨2 ^ (64 - q), by rw [Int.mul_comm]; exact pow_split hq⟩
theorem mod_pow {x y : Int} {q : Nat} (hq : q ≤ 64) (h : x % 18446744073709551616 = y % 18446744073709551616) : x % 2 ^ q = y % 2 ^ q := by
  rw [← Int.emod_emod_of_dvd x (pow_dvd64 hq), h, Int.emod_emod_of_dvd y (pow_dvd64 hq)]
theorem wrap64_mod' (x : Int) : wrap64 x % 18446744073709551616 = x % 18446744073709551616 := by unfold wrap64; omega
theorem and_mask {x : Int} {q : Nat} (hq : q ≤ 62) : bits .and .u64 (IntKind.u64.wrap x) (2 ^ q - 1) = x % 2 ^ q := by
  rw [u64wrap]
  obtain ⟨n, hn⟩ := Int.eq_ofNat_of_zero_le (Int.emod_nonneg x (show (18446744073709551616 : Int) ≠ 0 by omega))
  have hlt := Int.emod_lt_of_pos x (show (0 : Int) < 18446744073709551616 by omega)
  have h2 := pow_lt (n := q) hq
  have h3 := pow_pos' q
  have hm : ((2 ^ q - 1 : Nat) : Int) = 2 ^ q - 1 := by
    have h4 : 1 ≤ 2 ^ q := Nat.one_le_pow _ _ (by omega)
    have e : ((2 ^ q : Nat) : Int) = 2 ^ q := by simp
    rw [← e]; omega
  have hlt2 : 2 ^ q - 1 < 18446744073709551616 := by have := two_le hq; omega
  have h := bits_and_u64_nat n (2 ^ q - 1) (by omega) hlt2
  rw [Nat.and_two_pow_sub_one_eq_mod] at h
  rw [← Int.emod_emod_of_dvd x (pow_dvd64 (show q ≤ 64 by omega)), hn, ← hm, h]
  simp

theorem dfb_yes (q : Nat) (w : World) (h : q ≤ 62) : Calls Tryz.prog 80 #[.int .i64 (q : Int)] w fun e w' => e = .returned (.bool true) ∧ w = w' := by
  have hne : ((2 : Int) ^ q != 0) = true := by rw [bne_iff_ne]; exact Int.ne_of_gt (pow_pos' q)
  have HV := Lib.hid (oneV_yes (q := (q : Int)) (by omega) (by omega))
  go_enter Tryz.func80, Tryz.ntmps80
  go_wp2_with fail
  refine (one_any q _).mono ?_
  rintro e w' ⟨rfl, rfl⟩
  rw [HV.out, Int.toNat_natCast]
  go_wp2_with fail
  go_ret
  exact ⟨rfl, rfl⟩
theorem dfb_no (q : Int) (w : World) (h : ¬ (0 ≤ q ∧ q ≤ 62)) : Calls Tryz.prog 80 #[.int .i64 q] w fun e w' => e = .returned (.bool false) ∧ w = w' := by
  have HV := Lib.hid (oneV_no h)
  go_enter Tryz.func80, Tryz.ntmps80
  go_wp2_with fail
  refine (one_any q _).mono ?_
  rintro e w' ⟨rfl, rfl⟩
  rw [HV.out]
  go_wp2_with fail
  go_ret
  exact ⟨rfl, rfl⟩

theorem part_yes (x : Int) (q : Nat) (w : World) (h : q ≤ 62) :
    Calls Tryz.prog 84 #[.int .i64 x, .int .i64 (q : Int)] w fun e w' => e = .returned (.int .u64 (x % 2 ^ q)) ∧ w = w' := by
  have HV := Lib.hid (oneV_yes (q := (q : Int)) (by omega) (by omega))
  have h2 := pow_lt (n := q) h
  have h3 := pow_pos' q
  have HM := Lib.hid (and_mask (x := x) h)
  go_enter Tryz.func84, Tryz.ntmps84
  go_wp2_with fail
  refine (dfb_yes q _ h).mono ?_
  rintro e w' ⟨rfl, rfl⟩
  go_wp2_with fail
  refine (one_any q _).mono ?_
  rintro e w' ⟨rfl, rfl⟩
  rw [HV.out, Int.toNat_natCast]
  go_wp2_with fail
  go_ret
  exact ⟨ret_int HM.out, rfl⟩
theorem part_no (x q : Int) (w : World) (h : ¬ (0 ≤ q ∧ q ≤ 62)) :
    Calls Tryz.prog 84 #[.int .i64 x, .int .i64 q] w fun e w' => e = .returned (.int .u64 0) ∧ w = w' := by
  go_enter Tryz.func84, Tryz.ntmps84
  go_wp2_with fail
  refine (dfb_no q _ h).mono ?_
  rintro e w' ⟨rfl, rfl⟩
  go_wp2_with fail
  go_ret
  exact ⟨rfl, rfl⟩
/-! ### The digits behind the point -/
theorem mul_digit {p q : Nat} (hq : q ≤ 62) (hp : p < 2 ^ q) : mulV (p : Int) 10 (q : Int) = ((p * 10 / 2 ^ q : Nat) : Int) ∧ p * 10 / 2 ^ q < 10 := by
  have h2 := two_le hq
  have hlt : p * 10 / 2 ^ q < 10 := by rw [Nat.div_lt_iff_lt_mul (two_pos q)]; omega
  refine ⟨?_, hlt⟩
  rw [mulV_yes (by omega) (by omega), Int.toNat_natCast]
  have e : ((p : Int) * 10 / 2 ^ q) = ((p * 10 / 2 ^ q : Nat) : Int) := by simp
  rw [e]
  generalize p * 10 / 2 ^ q = d at *
  exact wrap64_id (by omega) (by omega)
theorem next_part {p q : Nat} (hq : q ≤ 62) : wrap64 (IntKind.u64.wrap ((p : Int) * 10)) % 2 ^ q = ((p * 10 % 2 ^ q : Nat) : Int) := by
  rw [mod_pow (y := (p : Int) * 10) (by omega) (by rw [wrap64_mod', u64wrap]; omega)]
  simp

theorem dvd_step {M p k : Nat} (hd : M ∣ p * 10 ^ (k + 1)) : M ∣ p * 10 % M * 10 ^ k := by
  have h1 : M ∣ p * 10 * 10 ^ k := by rw [Nat.pow_succ] at hd; rw [Nat.mul_assoc, Nat.mul_comm 10]; exact hd
  have h2 := Nat.div_add_mod (p * 10) M
  have h3 : p * 10 * 10 ^ k = M * (p * 10 / M * 10 ^ k) + p * 10 % M * 10 ^ k := by
    conv => lhs; rw [← h2]
    rw [Nat.add_mul, Nat.mul_assoc]
  rw [h3] at h1
  exact (Nat.dvd_add_right (Nat.dvd_mul_right _ _)).1 h1
theorem cells_snoc (l : List UInt8) (d : Nat) (h : d < 10) : Lib.byteCells l ++ [Value.int .u8 (48 + (d : Int))] = Lib.byteCells (l ++ [ch d]) := by
  simp [Lib.byteCells, ch_toNat h]
theorem cells_str (l : List UInt8) (s : ByteArray) : Lib.byteCells l ++ Lib.strCells s = Lib.byteCells (l ++ s.data.toList) := by
  simp [Lib.byteCells, Lib.strCells]

/-- A builder stays one while new blocks are made. -/
theorem builder_below {T e : TypeId} {B b : Nat} {bs : List Value} {w w' : World} (h : Lib.IsBuilderF T e B b bs w) (g : Grew w w') : Lib.IsBuilderF T e B b bs w' := by
  have one : ∀ p, Lib.BuilderAtF T e B b p bs w → Lib.BuilderAtF T e B b p bs w' := by
    rintro p h
    have hlt := h.lt
    obtain ⟨hB, v, hb, hown, hne⟩ := h
    exact ⟨hB, v, by rw [g.block b hlt]; exact hb, hown.kept (row := none) ⟨g.os, g.tape, g.output, g.size, fun k hk _ => g.block k hk⟩ (by cases hv : v.ownBlock <;> simp), hne⟩
  exact h.elim (fun x => .inl (one _ x)) (fun x => .inr (one _ x))

set_option maxHeartbeats 4000000 in
set_option maxRecDepth 100000 in
/-- writeFraction behind a text: a point and the digits. -/
theorem write_fraction (b B : Nat) (l : List UInt8) (p q : Nat) (w : World) (hq : q ≤ 62) (hp : p < 2 ^ q) (h : Lib.IsBuilderF 70 5 B b (Lib.byteCells l) w) (hl : l.length ≤ 100) (hBw : B ≤ w.heap.size) :
    Calls Tryz.prog 83 #[.pointer (some ⟨b, 0, none⟩), .int .u64 (p : Int), .int .i64 (q : Int)] w fun e w' => e = .returned (.tuple #[]) ∧ Lib.IsBuilderF 70 5 B b (Lib.byteCells (l ++ fracL q p)) w' ∧ Below B w w' := by
  have h2 := two_le hq
  by_cases hp0 : p = 0
  · have hb0 : ((p : Int) == 0) = true := by simp [hp0]
    have e : l ++ fracL q p = l := by simp [fracL, hp0]
    rw [e]
    clear hp0 e
    go_enter Tryz.func83, Tryz.ntmps83
    go_wp2_with fail
    exact bodyPost_ret (v := .tuple #[]) (by simp [results, Tryz.results83, go_sem]) rfl ⟨rfl, h, Below.refl _ _⟩
  · have hb0 : ((p : Int) == 0) = false := by simpa using hp0
    have E46 := Lib.hid (show Lib.byteCells l ++ [Value.int .u8 46] = Lib.byteCells (l ++ [46]) by simp [Lib.byteCells])
    have hfr : l ++ fracL q p = (l ++ [46]) ++ (run (2 ^ q) q p).map ch := by simp [fracL, hp0]
    rw [hfr]
    have hrl := run_len (2 ^ q) q p
    clear hfr
    go_enter Tryz.func83, Tryz.ntmps83
    go_wp2_with fail
    refine (write_rune B b _ 46 (by omega) (by omega) _ h (by simp [Lib.byteCells]; omega) hBw).mono ?_
    rintro e w1 ⟨rfl, h1, b1⟩
    rw [E46.out] at h1
    go_wp2_with fail
    go_loopg [1] q (fun k pv wr => ∃ (p' : Nat) (acc : List UInt8), k ≤ q ∧ p' < 2 ^ q ∧ 2 ^ q ∣ p' * 10 ^ k ∧ pv = .int .u64 (p' : Int) ∧ Lib.IsBuilderF 70 5 B b (Lib.byteCells acc) wr ∧ acc ++ (run (2 ^ q) k p').map ch = (l ++ [46]) ++ (run (2 ^ q) q p).map ch ∧ acc.length + k ≤ 163 ∧ Below B w wr)
    case atStart => exact ⟨p, l ++ [46], Nat.le_refl _, hp, pow_dvd, rfl, h1, rfl, by simp; omega, b1⟩
    case round =>
      obtain ⟨p', acc, hk, hp', hd, rfl, hI, hacc, hal, hbw⟩ := hrel
      have HA := Lib.hid hacc
      have HD := Lib.hid hd
      clear hacc hd
      by_cases hz : p' = 0
      · have hb : ((p' : Int) != 0) = false := by simp [hz]
        have HE := Lib.hid (show acc = (l ++ [46]) ++ (run (2 ^ q) q p).map ch by rw [← HA.out, hz, run_zero]; simp)
        clear hz
        go_wp2_with fail
        go_end0
        exact ⟨rfl, by rw [← HE.out]; exact hI, hbw⟩
      · have hb : ((p' : Int) != 0) = true := by simpa using hz
        obtain ⟨k, rfl⟩ : ∃ k, gk = k + 1 := by
          refine ⟨gk - 1, ?_⟩
          rcases Nat.eq_zero_or_pos gk with rfl | h
          · have := HD.out
            rw [Nat.pow_zero, Nat.mul_one] at this
            exact absurd (Nat.eq_zero_of_dvd_of_lt this hp') hz
          · omega
        obtain ⟨m1, m2⟩ := mul_digit hq hp'
        have HM := Lib.hid m1
        have HN := Lib.hid (next_part (p := p') hq)
        obtain ⟨d, hd⟩ : ∃ d, p' * 10 / 2 ^ q = d := ⟨_, rfl⟩
        have HC := Lib.hid (cells_snoc acc d (by omega))
        have HDD := Lib.hid hd
        have hd10 : d < 10 := by omega
        clear m1 m2 hd hz
        have hsz : B ≤ wr.heap.size := Nat.le_trans hBw hbw.size
        go_wp2_with fail
        refine (mul_any p' 10 q _ (by omega) (by omega) (by omega) (by omega)).mono ?_
        rintro e w2 ⟨rfl, g2⟩
        rw [HM.out, HDD.out]
        go_wp2_with fail
        refine (write_rune B b _ (48 + (d : Int)) (by omega) (by omega) _ (builder_below hI g2) (by rw [Lib.byteCells_length]; omega) (Nat.le_trans hsz g2.size)).mono ?_
        rintro e w3 ⟨rfl, h3, b3⟩
        rw [HC.out] at h3
        go_wp2_with fail
        refine (part_yes _ q _ hq).mono ?_
        rintro e w4 ⟨rfl, rfl⟩
        rw [HN.out]
        go_wp2_with fail
        go_roundg k
        case measure => omega
        case rel =>
          have hz : p' ≠ 0 := by simpa using hb
          refine ⟨p' * 10 % 2 ^ q, acc ++ [ch d], by omega, Nat.mod_lt _ (two_pos q), dvd_step HD.out, rfl, h3, ?_, by simp; omega, (hbw.trans (Below.mono g2 hsz)).trans b3⟩
          rw [← HA.out, show run (2 ^ q) (k + 1) p' = (p' * 10 / 2 ^ q) :: run (2 ^ q) k (p' * 10 % 2 ^ q) by rw [run, if_neg hz], HDD.out]
          simp

/-- What Text returns. -/
def textV (x q : Int) : List UInt8 := if 0 ≤ q ∧ q ≤ 62 then textL x q.toNat else []
theorem textV_yes {x : Int} {q : Nat} (h : q ≤ 62) : textV x (q : Int) = textL x q := by unfold textV; rw [if_pos ⟨by omega, by omega⟩, Int.toNat_natCast]
theorem textV_no {x q : Int} (h : ¬ (0 ≤ q ∧ q ≤ 62)) : textV x q = [] := by unfold textV; rw [if_neg h]
theorem mag_pos {x : Int} (h0 : ¬ x < 0) (h1 : x ≤ 9223372036854775807) : IntKind.u64.wrap x = (x.natAbs : Int) := by rw [u64wrap]; omega
theorem mag_neg {x : Int} (h0 : x < 0) (h1 : -9223372036854775808 ≤ x) : IntKind.u64.wrap (-IntKind.u64.wrap x) = (x.natAbs : Int) := by rw [u64wrap, u64wrap]; omega

theorem tab_below {P : Program} {w w' : World} {B : Nat} {name : String} {k : IntKind} {zs : List Int} (h : Lib.TabIs P w name k zs) (hB : w.heap.size ≤ B) (g : Below B w w') : Lib.TabIs P w' name k zs := by
  unfold Lib.TabIs World.var? at *
  cases hg : P.globalNamed name with
  | none => simp [hg] at h
  | some i =>
    simp only [hg, Option.bind_some] at h ⊢
    have hlt : i < w.heap.size := by
      rcases Nat.lt_or_ge i w.heap.size with h' | h'
      · exact h'
      · rw [Array.getElem?_eq_none h'] at h; simp at h
    rw [g.block i (by omega)]
    exact h
theorem dec_short (u : Nat) (h : u < 18446744073709551616) : (Lib.decDigits u).length ≤ 20 := dec_len (by omega) (by omega)

set_option maxHeartbeats 4000000 in
set_option maxRecDepth 100000 in
theorem text_yes (x : Int) (q : Nat) (w : World) (hq : q ≤ 62) (x0 : -9223372036854775808 ≤ x) (x1 : x ≤ 9223372036854775807) (hT : Lib.TabIs Tryz.prog w "internal/strconv.uint64pow10" .u64 Lib.pow10Tab) :
    Calls Tryz.prog 66 #[.int .i64 x, .int .i64 (q : Int)] w fun e w' => e = .returned (.string ⟨(textL x q).toArray⟩) ∧ Grew w w' := by
  obtain ⟨n, hn⟩ : ∃ n, x.natAbs = n := ⟨_, rfl⟩
  have hle : n / 2 ^ q ≤ n := Nat.div_le_self _ _
  have hsh := dec_short (n / 2 ^ q) (by omega)
  have HS := Lib.hid (show ((n : Int) / 2 ^ q) = ((n / 2 ^ q : Nat) : Int) by simp)
  have HP := Lib.hid (show wrap64 (n : Int) % 2 ^ q = ((n % 2 ^ q : Nat) : Int) by rw [mod_pow (y := (n : Int)) (by omega) (wrap64_mod' _)]; simp)
  have HP2 := Lib.hid (show (n : Int) % 2 ^ q = ((n % 2 ^ q : Nat) : Int) by simp)
  have hfresh : Lib.IsBuilderF 70 5 w.heap.size w.heap.size (Lib.byteCells []) (w.alloc (.cells #[.pointer none, .slice none 0 0] 70)) := Lib.IsBuilderF.of (Lib.fresh_isBuilder 70 5 w)
  by_cases hx : x < 0
  · have hm : IntKind.u64.wrap (-IntKind.u64.wrap x) = (n : Int) := by rw [mag_neg hx x0, hn]
    have HR := Lib.hid (show textL x q = [45] ++ (Lib.decDigits (n / 2 ^ q) ++ fracL q (n % 2 ^ q)) by unfold textL; rw [if_pos hx, hn])
    have E1 := Lib.hid (show Lib.byteCells [] ++ [Value.int .u8 45] = Lib.byteCells [45] by simp [Lib.byteCells])
    go_enter Tryz.func66, Tryz.ntmps66
    go_wp2_with fail
    refine (dfb_yes q _ hq).mono ?_
    rintro e w' ⟨rfl, rfl⟩
    go_wp2_with fail
    refine (write_rune w.heap.size w.heap.size _ 45 (by omega) (by omega) _ hfresh (by simp [Lib.byteCells]) (by simp)).mono ?_
    rintro e w1 ⟨rfl, h1, b1⟩
    have b1 : Below w.heap.size w w1 := ((Below.refl _ w).alloc (Nat.le_refl _) _).trans b1
    rw [E1.out] at h1
    have hT1 := tab_below hT (Nat.le_refl _) b1
    go_wp2_with fail
    rw [HS.out]
    refine (format_uint (n / 2 ^ q) (by omega) _ hT1).mono ?_
    rintro e w2 ⟨rfl, g2⟩
    go_wp2_with fail
    refine (write_string w.heap.size w.heap.size _ _ _ (builder_below h1 g2) (by rw [Lib.byteCells_length]; have := Lib.size_eq ⟨(Lib.decDigits (n / 2 ^ q)).toArray⟩; simp at this ⊢; omega) (Nat.le_trans b1.size g2.size)).mono ?_
    rintro e w3 ⟨rfl, h3, b3⟩
    rw [cells_str] at h3
    go_wp2_with fail
    refine (part_yes _ q _ hq).mono ?_
    rintro e w4 ⟨rfl, rfl⟩
    rw [HP.out]
    go_wp2_with fail
    refine (write_fraction w.heap.size w.heap.size _ (n % 2 ^ q) q _ hq (Nat.mod_lt _ (two_pos q)) h3 (by rw [List.length_append]; simp; omega) (Nat.le_trans (Nat.le_trans b1.size g2.size) b3.size)).mono ?_
    rintro e w5 ⟨rfl, h5, b5⟩
    go_wp2_with fail
    refine (Tryz.Builder_String_any_f _ _ _ _ h5 (Nat.le_trans (Nat.le_trans (Nat.le_trans b1.size g2.size) b3.size) b5.size)).mono ?_
    rintro e w6 ⟨rfl, h6, b6⟩
    go_wp2_with fail
    go_ret
    refine ⟨?_, ((b1.trans (Below.mono g2 b1.size)).trans b3).trans (b5.trans b6)⟩
    rw [HR.out]
    simp
  · have hm : IntKind.u64.wrap x = (n : Int) := by rw [mag_pos hx x1, hn]
    have HR := Lib.hid (show textL x q = Lib.decDigits (n / 2 ^ q) ++ fracL q (n % 2 ^ q) by unfold textL; rw [if_neg hx, hn]; rfl)
    go_enter Tryz.func66, Tryz.ntmps66
    go_wp2_with fail
    refine (dfb_yes q _ hq).mono ?_
    rintro e w' ⟨rfl, rfl⟩
    obtain ⟨w1, hw1⟩ : ∃ w1, w.alloc (.cells #[.pointer none, .slice none 0 0] 70) = w1 := ⟨_, rfl⟩
    have h1 : Lib.IsBuilderF 70 5 w.heap.size w.heap.size (Lib.byteCells []) w1 := by rw [← hw1]; exact hfresh
    have b1 : Below w.heap.size w w1 := by rw [← hw1]; exact (Below.refl _ w).alloc (Nat.le_refl _) _
    clear hfresh
    have hT1 := tab_below hT (Nat.le_refl _) b1
    go_wp2_with fail
    rw [HS.out]
    refine (format_uint (n / 2 ^ q) (by omega) _ hT1).mono ?_
    rintro e w2 ⟨rfl, g2⟩
    go_wp2_with fail
    refine (write_string w.heap.size w.heap.size _ _ _ (builder_below h1 g2) (by rw [Lib.byteCells_length]; have := Lib.size_eq ⟨(Lib.decDigits (n / 2 ^ q)).toArray⟩; simp at this ⊢; omega) (Nat.le_trans b1.size g2.size)).mono ?_
    rintro e w3 ⟨rfl, h3, b3⟩
    rw [cells_str] at h3
    go_wp2_with fail
    refine (part_yes _ q _ hq).mono ?_
    rintro e w4 ⟨rfl, rfl⟩
    rw [HP2.out]
    go_wp2_with fail
    refine (write_fraction w.heap.size w.heap.size _ (n % 2 ^ q) q _ hq (Nat.mod_lt _ (two_pos q)) h3 (by rw [List.length_append]; simp; omega) (Nat.le_trans (Nat.le_trans b1.size g2.size) b3.size)).mono ?_
    rintro e w5 ⟨rfl, h5, b5⟩
    go_wp2_with fail
    refine (Tryz.Builder_String_any_f _ _ _ _ h5 (Nat.le_trans (Nat.le_trans (Nat.le_trans b1.size g2.size) b3.size) b5.size)).mono ?_
    rintro e w6 ⟨rfl, h6, b6⟩
    go_wp2_with fail
    go_ret
    refine ⟨?_, ((b1.trans (Below.mono g2 b1.size)).trans b3).trans (b5.trans b6)⟩
    rw [HR.out]
    simp
theorem text_no (x q : Int) (w : World) (hq : ¬ (0 ≤ q ∧ q ≤ 62)) :
    Calls Tryz.prog 66 #[.int .i64 x, .int .i64 q] w fun e w' => e = .returned (.string ⟨#[]⟩) ∧ w = w' := by
  go_enter Tryz.func66, Tryz.ntmps66
  go_wp2_with fail
  refine (dfb_no q _ hq).mono ?_
  rintro e w' ⟨rfl, rfl⟩
  go_wp2_with fail
  go_ret
  exact ⟨rfl, rfl⟩
theorem text_any (x q : Int) (w : World) (x0 : -9223372036854775808 ≤ x) (x1 : x ≤ 9223372036854775807) (hT : Lib.TabIs Tryz.prog w "internal/strconv.uint64pow10" .u64 Lib.pow10Tab) :
    Calls Tryz.prog 66 #[.int .i64 x, .int .i64 q] w fun e w' => e = .returned (.string ⟨(textV x q).toArray⟩) ∧ Grew w w' := by
  by_cases h : 0 ≤ q ∧ q ≤ 62
  · obtain ⟨n, rfl⟩ := Int.eq_ofNat_of_zero_le h.1
    rw [show textV x ((n : Nat) : Int) = textL x n from textV_yes (by omega)]
    exact text_yes x n w (by omega) x0 x1 hT
  · rw [textV_no h]
    exact (text_no x q w h).mono fun e w' ⟨he, hw⟩ => ⟨he, hw ▸ Grew.refl _⟩
end Go.Proofs.YthcahpgandappaaGreatDoor
