/- The reference's Index; the statements' own example. Conditions: the sizes are right; the table of powers of ten is laid. -/
import Derived.Test.YtfgadjpdpocdbaaDoorHn
import Derived.Test.YtfgadjpdpocdbaaDoorHl
namespace Go.Proofs.YtfgadjpdpocdbaaDoor
open Go.RowKit Go.Shelf

set_option maxHeartbeats 4000000 in
theorem rindex_any {n : Nat} (a : Option Addr) (c : Nat) (zs : List Int) (s : ByteArray) (w : World) (hn : zs.length = n) (hR : Right zs) (h : RdK .i64 w.heap.size w a zs) :
    Calls Tryd.prog 27 #[.slice a n c, .string s] w fun e w' => ((∃ i k r x, At zs i k r x ∧ nmL k r x = s.data.toList ∧ e = .returned (.tuple #[.int .i64 i, .bool true])) ∨ (Noname zs s.data.toList ∧ e = .returned (.tuple #[.int .i64 0, .bool false]))) ∧ Grew w w' := by
  have HX := Lib.hid h
  have HR := Lib.hid hR
  clear h
  go_enter Tryd.func27, Tryd.ntmps27
  go_wp2_with fail
  refine (rplaces_any a c zs _ hn HR.out HX.out).mono ?_
  rintro e w1 ⟨⟨N, pa, pc, hN, rfl, hrd, hpc, hpm⟩, g1⟩
  have HN := Lib.hid hN
  have HP := Lib.hid hrd
  have HG1 := Lib.hid g1
  have hN20 : N ≤ 1048576 := by have := hR.2.2.2; omega
  clear hN hrd g1 hR hn
  go_wp2
  go_loopw [7] (fun x wr => ∃ j : Nat, j ≤ N ∧ x = .int .i64 j ∧ Hid (∀ q : Nat, q < j → ∀ k r x, At zs (q : Int) k r x → nmL k r x ≠ s.data.toList) ∧ Hid (Grew w1 wr)) (fun x _ => N - (intOf x).toNat)
  case atStart => exact ⟨0, Nat.zero_le _, rfl, Lib.hid (fun q hq => absurd hq (Nat.not_lt_zero _)), Lib.hid (Grew.refl _)⟩
  case round =>
    obtain ⟨j, hj, rfl, HM, HG⟩ := hrel
    by_cases hlt : j < N
    · obtain ⟨b, off, rfl, hb, hc0, hc1, hc2⟩ := (HP.out.grow HG.out).at (k := j) (by rw [pls_len]; exact hlt)
      obtain ⟨k, r, x, ha⟩ := at_ex (i := (j : Int)) HR.out.2.2.1 (by omega) (by have := HN.out; omega)
      rw [pls_at hlt, at_plT HR.out.2.2.1 ha] at hc0 hc1 hc2
      have hlim := at_lim HR.out ha
      have hlo := at_low ha
      have HA := Lib.hid ha
      clear ha
      by_cases hq : nmL k r x = s.data.toList
      · have hs : (nmL k r x == s.toList) = true := by rw [Lib.toList_data, hq]; simp
        have HQ := Lib.hid hq
        clear hq
        go_wp2_with fail
        refine (rname_at (k := k) (r := r) (c := x) (by omega) (by omega) hlo (by omega) _).mono ?_
        rintro e w2 ⟨rfl, g2⟩
        go_wp2
        go_ret2
        exact ⟨.inl ⟨_, k, r, x, HA.out, HQ.out, rfl⟩, (HG1.out.trans HG.out).trans g2⟩
      · have hs : (nmL k r x == s.toList) = false := by rw [Lib.toList_data, beq_eq_false_iff_ne]; exact hq
        have HM' : Hid (∀ q : Nat, q < j + 1 → ∀ k r x, At zs (q : Int) k r x → nmL k r x ≠ s.data.toList) := Lib.hid (fun q hqj k' r' x' ha' => by
          by_cases e : q = j
          · subst e
            obtain ⟨rfl, rfl, rfl⟩ := at_uniq HR.out.2.2.1 ha' HA.out
            exact hq
          · exact HM.out q (by omega) k' r' x' ha')
        clear hq
        go_wp2_with fail
        refine (rname_at (k := k) (r := r) (c := x) (by omega) (by omega) hlo (by omega) _).mono ?_
        rintro e w2 ⟨rfl, g2⟩
        have HG2 := Lib.hid (HG.out.trans g2)
        clear g2
        go_wp2
        go_roundw
        case rel => exact ⟨j + 1, by omega, by go_num, HM', HG2⟩
        case measure => simp [intOf]; omega
    · have HE : Hid (Noname zs s.data.toList) := Lib.hid (fun i k r x ha => by
        have hr := ha.range HR.out.2.2.1
        obtain ⟨q, rfl⟩ := Int.eq_ofNat_of_zero_le hr.1
        exact HM.out q (by have := HN.out; omega) k r x ha)
      go_wp2
      go_ret2
      exact ⟨.inr ⟨HE.out, rfl⟩, HG1.out.trans HG.out⟩

theorem ex_code : codeV [2, 3, 1] = 0 := by decide +kernel
theorem ex_cnt : cnt [2, 3, 1] = 13 := by decide +kernel
theorem ex_at : At [2, 3, 1] 7 0 1 (-1) := ⟨by decide, by decide, .inr ⟨rfl, by decide +kernel⟩⟩
theorem ex_name : nmL 0 1 (-1) = [98, 48, 46, 49] := by
  rw [nmL_b, Lib.decDigits_one (by omega), Lib.decDigits_one (by omega)]
  decide
set_option maxHeartbeats 1000000 in
theorem alive_any (w : World) (hT : Lib.TabIs Tryd.prog w "internal/strconv.uint64pow10" .u64 Lib.pow10Tab) : Calls Tryd.prog 8 #[] w fun e w' => e = .returned (.bool true) ∧ Grew w w' := by
  have HR := Lib.hid (codeV_zero ex_code)
  have HC := Lib.hid ex_cnt
  have HN := Lib.hid ex_name
  have HG0 : Hid (Grew w (w.alloc (.cells #[.int .i64 2, .int .i64 3, .int .i64 1] 3))) := Lib.hid ((Grew.refl w).alloc _)
  go_enter Tryd.func8, Tryd.ntmps8
  go_wp2_with fail
  refine (new_ok (n := 3) _ 3 [2, 3, 1] _ rfl (Nat.le_refl _) (by unfold maxLen; omega) ex_code (rdK_lit3 w 2 3 1 _)).mono ?_
  rintro e w1 ⟨⟨b, rfl, hS⟩, g1⟩
  have HS := Lib.hid hS
  have HG1 := Lib.hid (HG0.out.trans g1)
  clear hS g1
  go_wp2_with fail
  refine (count_any HR.out HS.out).mono ?_
  rintro e w2 ⟨rfl, g2⟩
  rw [HC.out]
  have HG2 := Lib.hid (HG1.out.trans g2)
  have HS2 := Lib.hid (HS.out.grow g2)
  clear g2
  go_wp2_with fail
  refine (name_at HR.out HS2.out ex_at (tab_below hT (Nat.le_refl _) HG2.out)).mono ?_
  rintro e w3 ⟨rfl, g3⟩
  rw [HN.out]
  have HG3 := Lib.hid (HG2.out.trans g3)
  clear g3
  go_wp2
  go_ret
  exact ⟨ret_bool (by decide), HG3.out⟩
end Go.Proofs.YtfgadjpdpocdbaaDoor
