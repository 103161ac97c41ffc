/- Package sampler: New. -/
import Derived.Test.YtdcpankbolfmiaaQf
namespace Go.Proofs.Ytdcpankbolfmiaa
open Go.RowKit
set_option linter.unusedVariables false

theorem outK_take {zs : List Int} {k N : Nat} (bs : List Int) (j : Nat) (h : k + j ≤ N) : outK (zs.take N) k bs j = outK zs k bs j := by
  unfold outK
  refine List.map_congr_left (fun i hi => ?_)
  have hi := List.mem_range.1 hi
  have : el (zs.take N) (k + i) = el zs (k + i) := by unfold el; rw [List.getElem?_take_of_lt (by omega)]
  rw [this]
theorem ordL_take {n E : Nat} (zs : List Int) : ordL n (zs.take (E * (n - 1))) E = ordL n zs E := by
  unfold ordL
  refine List.map_congr_left (fun e he => ?_)
  have he := List.mem_range.1 he
  have h1 := Nat.mul_le_mul_right (n - 1) (show e + 1 ≤ E from he)
  rw [Nat.add_mul, Nat.one_mul] at h1
  unfold ordE drawsB
  rw [outK_take _ _ (by omega)]
theorem U64.take {zs : List Int} (h : U64 zs) (N : Nat) : U64 (zs.take N) := by
  intro j hj
  rw [List.length_take] at hj
  have : el (zs.take N) j = el zs j := by unfold el; rw [List.getElem?_take_of_lt (by omega)]
  rw [this]
  exact h j (by omega)
theorem RdK.first {q : IntKind} {B k : Nat} {W : World} {a : Option Addr} {zs : List Int} (h : RdK q B W a zs) : RdK q B W a (zs.take k) := by
  rcases h with h | ⟨b, off, e, hb, hx⟩
  · subst h; rw [List.take_nil]; exact .inl rfl
  · refine .inr ⟨b, off, e, hb, fun j hj => ?_⟩
    rw [List.length_take] at hj
    have h1 : el (zs.take k) j = el zs j := by unfold el; rw [List.getElem?_take_of_lt (by omega)]
    rw [h1]
    exact hx j (by omega)

theorem count12_any (st ea : Nat) (w : World) (h1 : st ≤ 60) (h2 : 0 < ea) (h3 : ea ≤ 60) : Calls Try.prog 20 #[.int .i64 st, .int .i64 ea] w fun e w' => e = .returned (.int .i64 (epoN st ea : Nat)) ∧ w = w' := by
  unfold epoN
  by_cases h : st = 0
  · subst h
    rw [if_pos rfl]
    exact count_none _ _ w (.inl (by omega))
  · rw [if_neg h]
    exact count_some st ea w (by omega) (by omega) h2 (by omega)

theorem new_range (n sz st : Int) (a : Option Addr) (m c : Nat) (w : World) (h2 : n ≤ 60) (h3 : st ≤ 60) (h : n < 1 ∨ st < 0) :
    Calls Try.prog 8 #[.int .i64 n, .int .i64 sz, .int .i64 st, .slice a m c] w fun e w' => e = .returned (.tuple #[.pointer none, .int .i64 2]) ∧ w = w' := by
  have hn2 : decide (n ≤ 1048576) = true := decide_eq_true (by omega)
  have hs2 : decide (st ≤ 1048576) = true := decide_eq_true (by omega)
  have HW1 := Lib.hid (within_any n 1 1048576 w)
  have HW2 := Lib.hid (within_any st 0 1048576 w)
  rw [hn2, Bool.and_true] at HW1
  rw [hs2, Bool.and_true] at HW2
  by_cases h0 : n < 1
  · rw [decide_eq_false (show ¬ (1 : Int) ≤ n by omega)] at HW1
    clear h hn2 hs2
    go_enter Try.func8, Try.ntmps8
    go_wp2_with fail
    refine HW1.out.mono ?_
    rintro e w1 ⟨rfl, rfl⟩
    go_wp2
    go_ret2
    exact ⟨rfl, rfl⟩
  · rw [decide_eq_true (show (1 : Int) ≤ n by omega)] at HW1
    rw [decide_eq_false (show ¬ (0 : Int) ≤ st by omega)] at HW2
    clear h hn2 hs2
    go_enter Try.func8, Try.ntmps8
    go_wp2_with fail
    refine HW1.out.mono ?_
    rintro e w1 ⟨rfl, rfl⟩
    go_wp2_with fail
    refine HW2.out.mono ?_
    rintro e w1 ⟨rfl, rfl⟩
    go_wp2
    go_ret2
    exact ⟨rfl, rfl⟩

theorem new_batch (n sz st : Int) (a : Option Addr) (m c : Nat) (w : World) (h0 : 1 ≤ n) (h1 : 0 ≤ st) (h2 : n ≤ 60) (h3 : st ≤ 60) (h : sz < 1 ∨ n < sz) :
    Calls Try.prog 8 #[.int .i64 n, .int .i64 sz, .int .i64 st, .slice a m c] w fun e w' => e = .returned (.tuple #[.pointer none, .int .i64 7]) ∧ w = w' := by
  have HW1 := Lib.hid (within_any n 1 1048576 w)
  have HW2 := Lib.hid (within_any st 0 1048576 w)
  have HW3 := Lib.hid (within_any sz 1 n w)
  rw [decide_eq_true (show n ≤ 1048576 by omega), Bool.and_true, decide_eq_true h0] at HW1
  rw [decide_eq_true (show st ≤ 1048576 by omega), Bool.and_true, decide_eq_true h1] at HW2
  have h4 : (decide (1 ≤ sz) && decide (sz ≤ n)) = false := by
    rcases h with h | h
    · rw [decide_eq_false (show ¬ 1 ≤ sz by omega), Bool.false_and]
    · rw [decide_eq_false (show ¬ sz ≤ n by omega), Bool.and_false]
  rw [h4] at HW3
  clear h h4
  go_enter Try.func8, Try.ntmps8
  go_wp2_with fail
  refine HW1.out.mono ?_
  rintro e w1 ⟨rfl, rfl⟩
  go_wp2_with fail
  refine HW2.out.mono ?_
  rintro e w1 ⟨rfl, rfl⟩
  go_wp2_with fail
  refine HW3.out.mono ?_
  rintro e w1 ⟨rfl, rfl⟩
  go_wp2
  go_ret2
  exact ⟨rfl, rfl⟩

theorem new_draws {n sz st : Nat} (a : Option Addr) (m c : Nat) (w : World) (hS : Small n sz st) (hm : m < epoN st (n / sz) * (n - 1)) (hmm : m ≤ 4000) :
    Calls Try.prog 8 #[.int .i64 n, .int .i64 sz, .int .i64 st, .slice a m c] w fun e w' => e = .returned (.tuple #[.pointer none, .int .i64 8]) ∧ w = w' := by
  obtain ⟨k1, k2, k3, k4⟩ := hS
  have HW1 := Lib.hid (within_any n 1 1048576 w)
  have HW2 := Lib.hid (within_any st 0 1048576 w)
  have HW3 := Lib.hid (within_any sz 1 n w)
  rw [decide_eq_true (show (n : Int) ≤ 1048576 by omega), Bool.and_true, decide_eq_true (show (1 : Int) ≤ n by omega)] at HW1
  rw [decide_eq_true (show (st : Int) ≤ 1048576 by omega), Bool.and_true, decide_eq_true (show (0 : Int) ≤ st by omega)] at HW2
  rw [decide_eq_true (show (sz : Int) ≤ n by omega), Bool.and_true, decide_eq_true (show (1 : Int) ≤ sz by omega)] at HW3
  have he : 0 < n / sz := Nat.div_pos k2 k1
  have hen : n / sz ≤ n := Nat.div_le_self n sz
  have hq : ((n : Int) / (sz : Int)) = ((n / sz : Nat) : Int) := by simp
  generalize n / sz = ea at *
  have HC := Lib.hid (count12_any st ea w k4 he (by omega))
  have HNd := Lib.hid (need_any n w (by omega))
  have hE := epoN_le st ea
  generalize epoN st ea = E at *
  have hq1 : n - 1 ≤ n := by omega
  generalize n - 1 = q at *
  have hmul : (E : Int) * (q : Int) = ((E * q : Nat) : Int) := by push_cast; rfl
  have hb : E * q ≤ 60 * 60 := Nat.mul_le_mul (by omega) (by omega)
  generalize E * q = N at *
  go_enter Try.func8, Try.ntmps8
  go_wp2_with fail
  refine HW1.out.mono ?_
  rintro e w1 ⟨rfl, rfl⟩
  go_wp2_with fail
  refine HW2.out.mono ?_
  rintro e w1 ⟨rfl, rfl⟩
  go_wp2_with fail
  refine HW3.out.mono ?_
  rintro e w1 ⟨rfl, rfl⟩
  go_wp2_with fail
  refine HC.out.mono ?_
  rintro e w1 ⟨rfl, rfl⟩
  go_wp2_with fail
  refine HNd.out.mono ?_
  rintro e w1 ⟨rfl, rfl⟩
  go_wp2
  go_ret2
  exact ⟨rfl, rfl⟩

set_option maxHeartbeats 1000000 in
theorem new_yes {n sz st : Nat} (a : Option Addr) (m c : Nat) (zs : List Int) (w : World) (hz : zs.length = m) (hS : Small n sz st) (hm : epoN st (n / sz) * (n - 1) ≤ m) (hmm : m ≤ 4000) (hc : m ≤ c) (hcm : c ≤ 9223372036854775807) (hu : U64 zs) (h : RdK .u64 w.heap.size w a zs) :
    Calls Try.prog 8 #[.int .i64 n, .int .i64 sz, .int .i64 st, .slice a m c] w fun e w' => (∃ b, e = .returned (.tuple #[.pointer (some ⟨b, 0, none⟩), .int .i64 0]) ∧ Smp w.heap.size w' b n sz st zs) ∧ Grew w w' := by
  have HSm := Lib.hid hS
  obtain ⟨k1, k2, k3, k4⟩ := hS
  have HW1 := Lib.hid (within_any n 1 1048576 w)
  have HW2 := Lib.hid (within_any st 0 1048576 w)
  have HW3 := Lib.hid (within_any sz 1 n w)
  rw [decide_eq_true (show (n : Int) ≤ 1048576 by omega), Bool.and_true, decide_eq_true (show (1 : Int) ≤ n by omega)] at HW1
  rw [decide_eq_true (show (st : Int) ≤ 1048576 by omega), Bool.and_true, decide_eq_true (show (0 : Int) ≤ st by omega)] at HW2
  rw [decide_eq_true (show (sz : Int) ≤ n by omega), Bool.and_true, decide_eq_true (show (1 : Int) ≤ sz by omega)] at HW3
  have he : 0 < n / sz := Nat.div_pos k2 k1
  have hen : n / sz ≤ n := Nat.div_le_self n sz
  have hq : ((n : Int) / (sz : Int)) = ((n / sz : Nat) : Int) := by simp
  have HSmp := Lib.hid (fun (W : World) (b : Nat) (v : Value) (h1 : w.heap.size ≤ b) (h2 : Four W b 57 v (.int .i64 sz) (.int .i64 (n / sz : Nat)) (.int .i64 st)) (h3 : Ords w.heap.size W v (ordL n zs (epoN st (n / sz)))) => (show Smp w.heap.size W b n sz st zs from ⟨h1, HSm.out, v, h2, h3⟩))
  generalize n / sz = ea at *
  have HC := Lib.hid (count12_any st ea w k4 he (by omega))
  have HNd := Lib.hid (need_any n w (by omega))
  have hE := epoN_le st ea
  generalize epoN st ea = E at *
  have HT := Lib.hid (ordL_take (n := n) (E := E) zs)
  have HO := Lib.hid (fun (W : World) (g : Grew w W) => orders_any (n := n) (E := E) a c (E * (n - 1)) (zs.take (E * (n - 1))) W (by rw [List.length_take]; omega) k3 (by omega) (by omega) (hu.take _) (Nat.le_refl _) (h.grow g).first)
  rw [HT.out] at HO
  have hq1 : n - 1 ≤ n := by omega
  clear h HT
  generalize n - 1 = q at *
  have hmul : (E : Int) * (q : Int) = ((E * q : Nat) : Int) := by push_cast; rfl
  have hb : E * q ≤ 60 * 60 := Nat.mul_le_mul (by omega) (by omega)
  generalize E * q = N at *
  go_enter Try.func8, Try.ntmps8
  go_wp2_with fail
  refine HW1.out.mono ?_
  rintro e w1 ⟨rfl, rfl⟩
  go_wp2_with fail
  refine HW2.out.mono ?_
  rintro e w1 ⟨rfl, rfl⟩
  go_wp2_with fail
  refine HW3.out.mono ?_
  rintro e w1 ⟨rfl, rfl⟩
  go_wp2_with fail
  refine HC.out.mono ?_
  rintro e w1 ⟨rfl, rfl⟩
  go_wp2_with fail
  refine HNd.out.mono ?_
  rintro e w1 ⟨rfl, rfl⟩
  go_wp2_with fail
  refine (HO.out _ (Grew.refl _)).mono ?_
  rintro e w1 ⟨⟨a1, c1, rfl, ho⟩, g1⟩
  have HF := Lib.hid (HSmp.out _ _ _ g1.size (Four.new w1 57 (.slice a1 E c1) (.int .i64 sz) (.int .i64 ea) (.int .i64 st)) (ho.grow ((Grew.refl w1).alloc _)))
  have HG := Lib.hid (g1.alloc (.cells #[.slice a1 E c1, .int .i64 sz, .int .i64 ea, .int .i64 st] 57))
  clear ho g1
  go_wp2
  go_ret2
  exact ⟨⟨_, rfl, HF.out⟩, HG.out⟩
end Go.Proofs.Ytdcpankbolfmiaa
