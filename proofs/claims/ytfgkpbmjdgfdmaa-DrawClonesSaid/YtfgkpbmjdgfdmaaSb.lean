/- Next of package draw and of the reference; same of the statement. Condition: at most 2^44 draws. -/
import Derived.Test.YtfgkpbmjdgfdmaaSa
namespace Go.Proofs.Ytfgkpbmjdgfdmaa
open Go.RowKit

/-- Storing how many draws are used. -/
theorem Stm.put {D b k m : Nat} {W : World} {zs : List Int} (h : Stm D W b zs k) (hm : m ≤ zs.length) : Stm D (W.setCell ⟨b, 1, none⟩ (.int .i64 m)) b zs m := by
  obtain ⟨h0, _, a, c, hc, hl, h2, h3⟩ := h
  exact ⟨h0, hm, a, c, hc, hl, h2.set1 _, h3.below ((Below.refl _ _).setCell h0 _)⟩

theorem next_nil (n : Int) (w : World) : Calls Try.prog 10 #[.pointer none, .int .i64 n] w fun e w' => e = .returned (.tuple #[.int .i64 0, .bool false]) ∧ w = w' := by
  by_cases hn : n < 1
  · go_enter Try.func10, Try.ntmps10
    go_wp2_with fail
    refine (outside_any n _).mono ?_
    rintro e w1 ⟨rfl, rfl⟩
    rw [decide_eq_true hn]
    go_wp2
    go_ret2
    exact ⟨rfl, rfl⟩
  · go_enter Try.func10, Try.ntmps10
    go_wp2_with fail
    refine (outside_any n _).mono ?_
    rintro e w1 ⟨rfl, rfl⟩
    rw [decide_eq_false (show ¬ n < 1 by omega)]
    go_wp2_with fail
    refine (left_nil _).mono ?_
    rintro e w1 ⟨rfl, rfl⟩
    go_wp2
    go_ret2
    exact ⟨rfl, rfl⟩

theorem next_any {D b k : Nat} {zs : List Int} (n : Int) {w : World} (hl : zs.length ≤ 17592186044416) (hu : U64 zs) (hn : n ≤ 9223372036854775807) (h : Stm D w b zs k) :
    Calls Try.prog 10 #[.pointer (some ⟨b, 0, none⟩), .int .i64 n] w fun e w' => e = .returned (.tuple #[.int .i64 (outN zs k n), .bool (okN zs k n)]) ∧ Stm D w' b zs (nxN zs k n) ∧ w.grownBy w' (some b) := by
  by_cases h1 : n < 1
  · have HO := Lib.hid (okN_low (zs := zs) (k := k) h1)
    go_enter Try.func10, Try.ntmps10
    go_wp2_with fail
    refine (outside_any n _).mono ?_
    rintro e w1 ⟨rfl, rfl⟩
    rw [decide_eq_true h1]
    go_wp2
    go_ret2
    exact ⟨by rw [outN, HO.out]; rfl, by rw [nxN, HO.out]; exact h, (Grew.refl _).by' _⟩
  · by_cases h2 : k < zs.length
    · have HL := Lib.hid (left_any hl h)
      have HO := Lib.hid (okN_yes (zs := zs) (k := k) (n := n) (by omega) h2)
      have hz := hu k h2
      have HS := Lib.hid h
      have hlt := h.lt
      clear h
      go_enter Try.func10, Try.ntmps10
      go_wp2_with fail
      refine (outside_any n _).mono ?_
      rintro e w1 ⟨rfl, rfl⟩
      rw [decide_eq_false (show ¬ n < 1 by omega)]
      go_wp2_with fail
      refine HL.out.mono ?_
      rintro e w1 ⟨rfl, m1, rfl⟩
      have g1 : Grew w (w.drewN m1) := (Grew.refl _).drewN _
      obtain ⟨hD, hk, a, c, hc, hm, ht, hr⟩ := HS.out
      obtain ⟨g, off, rfl, hg, hcell⟩ := hr.at h2
      have c0 := ht.c0
      have c1 := ht.c1
      have f1 := ht.f1
      have HT := Lib.hid ht
      have HR := Lib.hid hr
      have HG := Lib.hid g1
      have HV : Hid (el zs k % n = outN zs k n) := Lib.hid (by rw [outN, HO.out]; rfl)
      have HN : Hid (nxN zs k n = k + 1) := Lib.hid (by rw [nxN, HO.out]; rfl)
      generalize el zs k = z at hcell hz HV
      clear ht hr g1
      go_wp2
      go_quiet (fail)
      go_wp2_with fail
      refine (below_any z n _ hz.1 (by omega) hn).mono ?_
      rintro e w2 ⟨rfl, rfl⟩
      go_wp2
      go_ret2
      refine ⟨by rw [HV.out, HO.out]; rfl, ?_, ?_⟩
      · rw [HN.out]; exact (HS.out.drew (m1 + nq)).put h2
      · exact grownBy_trans (((Grew.refl w).drewN (m1 + nq)).by' _) (grownBy_setCell1 _ _ _)
    · have HL := Lib.hid (left_any hl h)
      have HO := Lib.hid (okN_out (zs := zs) (k := k) (n := n) (by omega))
      have HS := Lib.hid h
      have hkz : ((zs.length : Nat) : Int) - (k : Int) = 0 := by have := h.le; omega
      rw [hkz] at HL
      clear h hkz
      go_enter Try.func10, Try.ntmps10
      go_wp2_with fail
      refine (outside_any n _).mono ?_
      rintro e w1 ⟨rfl, rfl⟩
      rw [decide_eq_false (show ¬ n < 1 by omega)]
      go_wp2_with fail
      refine HL.out.mono ?_
      rintro e w1 ⟨rfl, m1, rfl⟩
      have g1 : Grew w (w.drewN m1) := (Grew.refl _).drewN _
      have HG := Lib.hid g1
      clear g1
      go_wp2
      go_ret2
      exact ⟨by rw [outN, HO.out]; rfl, by rw [nxN, HO.out]; exact HS.out.grow HG.out, HG.out.by' _⟩

/-- The reference's stream is a value: its draws and how many are used. -/
theorem rnext_any (a : Option Addr) (c k : Nat) (zs : List Int) (n : Int) (w : World) (hl : zs.length ≤ 17592186044416) (hk : k ≤ zs.length) (hu : U64 zs) (hn : n ≤ 9223372036854775807) (h : RdK .u64 w.heap.size w a zs) :
    Calls Try.prog 11 #[.agg #[.slice a zs.length c, .int .i64 k], .int .i64 n] w fun e w' => e = .returned (.tuple #[.agg #[.slice a zs.length c, .int .i64 (nxN zs k n : Nat)], .int .i64 (outN zs k n), .bool (okN zs k n)]) ∧ Grew w w' := by
  by_cases h1 : n < 1
  · have HO := Lib.hid (okN_low (zs := zs) (k := k) h1)
    have HX : Hid (outN zs k n = 0 ∧ nxN zs k n = k) := Lib.hid ⟨by rw [outN, HO.out]; rfl, by rw [nxN, HO.out]; rfl⟩
    clear h
    rw [HO.out, HX.out.1, HX.out.2]
    go_enter Try.func11, Try.ntmps11
    go_wp2
    exact bodyPost_ret (v := .tuple #[.agg #[.slice a zs.length c, .int .i64 k], .int .i64 0, .bool false]) (by simp [results, Try.results11, go_sem]) rfl ⟨rfl, ((Grew.refl _).alloc _).alloc _⟩
  · by_cases h2 : k < zs.length
    · obtain ⟨g, off, rfl, hg, hcell⟩ := h.at h2
      have HO := Lib.hid (okN_yes (zs := zs) (k := k) (n := n) (by omega) h2)
      have HX : Hid (outN zs k n = el zs k % n ∧ nxN zs k n = k + 1) := Lib.hid ⟨by rw [outN, HO.out]; rfl, by rw [nxN, HO.out]; rfl⟩
      have hz := hu k h2
      rw [HO.out, HX.out.1, HX.out.2]
      clear h
      generalize el zs k = z at hcell hz HX ⊢
      have hw : IntKind.u64.wrap n = n := by unfold IntKind.wrap; simp [IntKind.signed, IntKind.bits]; omega
      have ht : z.tmod n = z % n := Int.tmod_eq_emod_of_nonneg hz.1
      have hm0 := Int.emod_nonneg z (show n ≠ 0 by omega)
      have hm1 := Int.emod_lt_of_pos z (show 0 < n by omega)
      go_enter Try.func11, Try.ntmps11
      go_wp2
      go_region
      go_wp2
      exact bodyPost_ret (v := .tuple #[.agg #[.slice (some ⟨g, off, none⟩) zs.length c, .int .i64 (k + 1 : Nat)], .int .i64 (z % n), .bool true]) (by simp [results, Try.results11, go_sem]) rfl ⟨rfl, (((Grew.refl _).alloc _).alloc _).drew⟩
    · have HO := Lib.hid (okN_out (zs := zs) (k := k) (n := n) (by omega))
      have HX : Hid (outN zs k n = 0 ∧ nxN zs k n = k) := Lib.hid ⟨by rw [outN, HO.out]; rfl, by rw [nxN, HO.out]; rfl⟩
      clear h
      rw [HO.out, HX.out.1, HX.out.2]
      go_enter Try.func11, Try.ntmps11
      go_wp2
      exact bodyPost_ret (v := .tuple #[.agg #[.slice a zs.length c, .int .i64 k], .int .i64 0, .bool false]) (by simp [results, Try.results11, go_sem]) rfl ⟨rfl, ((Grew.refl _).alloc _).alloc _⟩

theorem same_any {D b k : Nat} {zs : List Int} (a : Option Addr) (c : Nat) (w : World) (hl : zs.length ≤ 17592186044416) (h : Stm D w b zs k) :
    Calls Try.prog 12 #[.pointer (some ⟨b, 0, none⟩), .agg #[.slice a zs.length c, .int .i64 k]] w fun e w' => e = .returned (.bool true) ∧ Grew w w' := by
  have hk := h.le
  have HS : Hid (Stm D (w.alloc (.cells #[.slice a zs.length c, .int .i64 k] 28)) b zs k) := Lib.hid (h.grow ((Grew.refl _).alloc _))
  have HG : Hid (Grew w (w.alloc (.cells #[.slice a zs.length c, .int .i64 k] 28))) := Lib.hid ((Grew.refl _).alloc _)
  clear h
  go_enter Try.func12, Try.ntmps12
  go_wp2_with fail
  go_quiet (first
    | (go_at_call 18; refine Calls.quiet_of (left_any hl (HS.out.drew _)))
    | (go_at_call 19; refine Calls.quiet_of_same ((used_any (HS.out.drew _)).mono fun e w' ⟨he, hw⟩ => ⟨he, hw.symm⟩)))
  go_wp2
  go_ret
  exact ⟨rfl, HG.out.drewN _⟩
end Go.Proofs.Ytfgkpbmjdgfdmaa
