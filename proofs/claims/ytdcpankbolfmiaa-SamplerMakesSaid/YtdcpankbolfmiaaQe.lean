/- Package sampler: divide, the part of a division, Shard, Micro. -/
import Derived.Test.YtdcpankbolfmiaaQd
namespace Go.Proofs.Ytdcpankbolfmiaa
open Go.RowKit
set_option linter.unusedVariables false

theorem even_one (n k : Nat) (w : World) (hn : n ≤ 3000) (hk : k ≤ 3000) :
    Calls Try.prog 37 #[.int .i64 n, .int .i64 k] w fun e w' => (∃ ra rc, e = .returned (.slice ra k rc) ∧ BufR 81 w.heap.size w' ra k rc (evenV n k)) ∧ Grew w w' := by
  by_cases h0 : k = 0
  · subst h0
    refine (even_none (n : Int) 0 w (.inr (by omega))).mono ?_
    rintro e w' ⟨rfl, rfl⟩
    exact ⟨⟨none, 0, rfl, World.ownsRow_nil _ _ _ _⟩, Grew.refl _⟩
  · refine (even_some n k w hn (by omega) hk).mono ?_
    rintro e w' ⟨rfl, hb, g⟩
    exact ⟨⟨_, _, rfl, hb⟩, g⟩

theorem BufR.aside2 {e : TypeId} {B n cap r : Nat} {W : World} {a : Option Addr} {rs : List Rg} (h : BufR e B W a n cap rs) (hr : r < B) (x y : Value) : BufR e B ((W.setCell ⟨r, 0, none⟩ x).setCell ⟨r, 1, none⟩ y) a n cap rs :=
  ownsRow_setCell_below (a := ⟨r, 1, none⟩) (ownsRow_setCell_below (a := ⟨r, 0, none⟩) h hr x) hr y
theorem results_cell {P : Program} {fn : Func} {tmps : Array Value} {x : Tmp} {t : TypeId} {b : Addr} {v : Value} {W : World} (hr : fn.results = #[.cell x t]) (hx : tmps.getD x undef = .pointer (some b)) (hl : (loadVar t b).run P W = .ok v W) : (results fn tmps).run P W = .ok v W := by
  have hx' : tmps[x]?.getD undef = .pointer (some b) := by simpa using hx
  simp [results, hr, hx', asAddr, hl]
/-- What divide returns: the list and its ranges. -/
theorem divide_any (a : Option Addr) (c k n : Nat) (w : World) (hl : n ≤ 3000) (hk : k ≤ 3000) :
    Calls Try.prog 29 #[.slice a n c, .int .i64 k] w fun e w' => (∃ ra rc, e = .returned (.agg #[.slice a n c, .slice ra (min k n : Nat) rc]) ∧ RdR w'.heap.size w' ra (evenV n (min k n))) ∧ Grew w w' := by
  rcases Nat.lt_or_ge n k with h | h
  · have h' : ¬ (k : Int) ≤ (n : Int) := by omega
    have h'' : (n : Int) < (k : Int) := by omega
    have HE := Lib.hid (fun w => even_one n n w hl hl)
    have HT := Lib.hid (Two.new w 68 (.slice none 0 0) (.slice none 0 0))
    have HG0 := Lib.hid ((Grew.refl w).alloc (.cells #[.slice none 0 0, .slice none 0 0] 68))
    rw [Nat.min_eq_right (by omega)]
    go_enter Try.func29, Try.ntmps29
    go_wp2_with fail
    refine (HE.out _).mono ?_
    rintro e w1 ⟨⟨ra, rc, rfl, hr⟩, g1⟩
    have HR := Lib.hid (BufR.aside2 hr (show w.heap.size < (w.alloc (.cells #[.slice none 0 0, .slice none 0 0] 68)).heap.size by simp) (.slice a n c) (.slice ra n rc))
    have HG1 := Lib.hid (HG0.out.trans g1)
    have HT1 := Lib.hid (HT.out.grow g1)
    have C0 := HT1.out.c0
    have C1 := HT1.out.c1
    have F0 := HT1.out.f0
    have F1 := HT1.out.f1
    have hlt := HT1.out.lt
    clear hr g1
    go_wp2
    have HF := (HT1.out.set0 (.slice a n c)).set1 (.slice ra n rc)
    have hld := run_loadVar_row (P := Try.prog) _ w.heap.size 68 68 _ (0, 0) _ HF Try.underlying68 rfl (by kernel_rfl)
    refine bodyPost_ret (v := .agg #[.slice a n c, .slice ra n rc]) ?hv rfl ?hp
    case hv => exact results_cell Try.results29 rfl hld
    case hp => exact ⟨⟨_, _, rfl, HR.out.rd⟩, (HG1.out.setCell (Nat.le_refl _) _).setCell (Nat.le_refl _) _⟩
  · have h' : (k : Int) ≤ (n : Int) := by omega
    have h'' : ¬ (n : Int) < (k : Int) := by omega
    have HE := Lib.hid (fun w => even_one n k w hl hk)
    have HT := Lib.hid (Two.new w 68 (.slice none 0 0) (.slice none 0 0))
    have HG0 := Lib.hid ((Grew.refl w).alloc (.cells #[.slice none 0 0, .slice none 0 0] 68))
    rw [Nat.min_eq_left (by omega)]
    go_enter Try.func29, Try.ntmps29
    go_wp2_with fail
    refine (HE.out _).mono ?_
    rintro e w1 ⟨⟨ra, rc, rfl, hr⟩, g1⟩
    have HR := Lib.hid (BufR.aside2 hr (show w.heap.size < (w.alloc (.cells #[.slice none 0 0, .slice none 0 0] 68)).heap.size by simp) (.slice a n c) (.slice ra k rc))
    have HG1 := Lib.hid (HG0.out.trans g1)
    have HT1 := Lib.hid (HT.out.grow g1)
    have C0 := HT1.out.c0
    have C1 := HT1.out.c1
    have F0 := HT1.out.f0
    have F1 := HT1.out.f1
    have hlt := HT1.out.lt
    clear hr g1
    go_wp2
    have HF := (HT1.out.set0 (.slice a n c)).set1 (.slice ra k rc)
    have hld := run_loadVar_row (P := Try.prog) _ w.heap.size 68 68 _ (0, 0) _ HF Try.underlying68 rfl (by kernel_rfl)
    refine bodyPost_ret (v := .agg #[.slice a n c, .slice ra k rc]) ?hv rfl ?hp
    case hv => exact results_cell Try.results29 rfl hld
    case hp => exact ⟨⟨_, _, rfl, HR.out.rd⟩, (HG1.out.setCell (Nat.le_refl _) _).setCell (Nat.le_refl _) _⟩

theorem stV_gt {n k j : Nat} (h : j < k) (hk : k ≤ n) : stV n k j < stV n k (j + 1) := by
  have h1 : 1 ≤ n / k := Nat.div_pos hk (by omega)
  by_cases h2 : j < n % k
  · rw [stV_succ_lt h2]; omega
  · rw [stV_succ_ge h2]; omega

set_option maxHeartbeats 1000000 in
theorem at_any {n k : Nat} (a : Option Addr) (c : Nat) (ra : Option Addr) (rc : Nat) (l : List Int) (i : Int) (w : World) (hn : l.length = n) (hl : n ≤ 3000) (hk : k ≤ n) (hc : n ≤ c) (hcm : c ≤ 9223372036854775807) (hX : RdK .i64 w.heap.size w a l) (hR : RdR w.heap.size w ra (evenV n k)) :
    Calls Try.prog 30 #[.agg #[.slice a n c, .slice ra k rc], .int .i64 i] w fun e w' => (∃ a' c', e = .returned (.slice a' (pieceL l i k).length c') ∧ (pieceL l i k).length ≤ c' ∧ c' ≤ 9223372036854775807 ∧ RdK .i64 w'.heap.size w' a' (pieceL l i k)) ∧ Grew w w' := by
  have HG0 := Lib.hid ((Grew.refl w).alloc (.cells #[.slice a n c, .slice ra k rc] 68))
  have HG00 := Lib.hid (HG0.out.alloc (.cells #[.int .i64 0, .int .i64 0] 81))
  by_cases hin : 0 ≤ i ∧ i < k
  · obtain ⟨h0, h1⟩ := hin
    obtain ⟨j, rfl⟩ := Int.eq_ofNat_of_zero_le h0
    have h1 : j < k := by omega
    have hst := stV_in (n := n) h1
    have hgt := stV_gt (n := n) h1 hk
    have HB := Lib.hid (pieceL_yes (l := l) h1)
    have HL := Lib.hid (pieceL_len (l := l) h1)
    rw [hn] at HB HL
    rw [HL.out, HB.out]
    obtain ⟨b, off, rfl, hb, hc1, hc2⟩ := hR.at (k := j) (by rw [evenV_len]; exact h1)
    rw [evenV_at h1] at hc1 hc2
    simp only at hc1 hc2
    obtain ⟨gb, go, ea⟩ : ∃ gb go, a = some ⟨gb, go, none⟩ := by
      rcases hX with h | ⟨gb, go, e, _⟩
      · subst h; simp at hn; omega
      · exact ⟨gb, go, e⟩
    subst ea
    generalize stV n k (j + 1) = hi at *
    generalize stV n k j = lo at *
    have hne : ¬ hi = lo := by omega
    have HC : Hid (∀ W, Grew w W → RdK .i64 W.heap.size W (some ⟨gb, go + lo, none⟩) ((l.drop lo).take (hi - lo))) := Lib.hid (fun W g => (hX.grow g).cut_some (f := lo) (m := hi - lo) (by omega))
    have C0 := (Below.cell HG0.out hb).trans hc1
    have C1 := (Below.cell HG0.out hb).trans hc2
    clear hc1 hc2 hX hR HB HL h0
    go_enter Try.func30, Try.ntmps30
    have HC1 := Lib.hid (HC.out _ (HG0.out.alloc (.cells #[.int .i64 lo, .int .i64 hi] 81)))
    clear HC
    go_wp2
    go_ret
    exact ⟨⟨_, _, rfl, by omega, by omega, HC1.out⟩, HG0.out.alloc _⟩
  · have HB := Lib.hid (pieceL_no (l := l) (i := i) (k := k) (by omega))
    rw [HB.out]
    clear hX hR
    by_cases h0 : i < 0
    · go_enter Try.func30, Try.ntmps30
      go_wp2_with fail
      go_ret
      exact ⟨⟨_, _, rfl, Nat.le_refl _, by decide, .inl rfl⟩, HG0.out⟩
    · have h1 : (k : Int) ≤ i := by omega
      go_enter Try.func30, Try.ntmps30
      go_wp2
      go_ret
      exact ⟨⟨_, _, rfl, by decide, .inl rfl⟩, HG0.out⟩

section
variable {D b n sz st : Nat} {zs : List Int} {w : World}
set_option maxHeartbeats 1000000 in
theorem shard_any (t i : Int) (k : Nat) (hk : k ≤ 3000) (h : Smp D w b n sz st zs) :
    Calls Try.prog 15 #[.pointer (some ⟨b, 0, none⟩), .int .i64 t, .int .i64 i, .int .i64 k] w fun e w' => (∃ a c, e = .returned (.slice a (pieceL (batL n sz st zs t) i k).length c) ∧ BufK .i64 3 0 w' a (pieceL (batL n sz st zs t) i k).length c (pieceL (batL n sz st zs t) i k)) ∧ Grew w w' := by
  have HE := Lib.hid (pbatch_any t h)
  have hle := batL_le n sz st zs t
  obtain ⟨hD, ⟨k1, k2, k3, k4⟩, v, h2, h3⟩ := h
  clear h2 h3
  generalize batL n sz st zs t = l at *
  have HM := Lib.hid (pieceL_min l i k)
  have hpl := pieceL_le l i k
  obtain ⟨m, hm⟩ : ∃ m, m = l.length := ⟨_, rfl⟩
  have HL := Lib.hid hm
  rw [← hm] at HM hle HE hpl
  clear hm
  generalize pieceL l i k = l3 at *
  go_enter Try.func15, Try.ntmps15
  go_wp2_with fail
  refine HE.out.mono ?_
  rintro e w1 ⟨⟨a, c, rfl, hc1, hc2, hr⟩, g1⟩
  have HR := Lib.hid hr
  have HG := Lib.hid g1
  clear hr g1
  go_wp2_with fail
  refine (divide_any a c k m w1 (by omega) (by omega)).mono ?_
  rintro e w2 ⟨⟨ra, rc, rfl, hr⟩, g⟩
  have HD1 := Lib.hid hr
  have HX1 := Lib.hid (HR.out.grow g)
  have HG2 := Lib.hid (HG.out.trans g)
  clear hr g
  go_wp2_with fail
  refine (at_any (k := min k m) a c ra rc l i w2 HL.out.symm (by omega) (Nat.min_le_right k m) hc1 hc2 HX1.out HD1.out).mono ?_
  rintro e w3 ⟨⟨a3, c3, rfl, hc3, hc4, hr⟩, g⟩
  rw [HM.out] at hc3 hr ⊢
  have HR3 := Lib.hid hr
  have HG3 := Lib.hid (HG2.out.trans g)
  clear hr g
  go_wp2_with fail
  refine (iclone_any a3 c3 l3 w3 (by omega) HR3.out).mono ?_
  rintro e w4 ⟨⟨a4, c4, rfl, hb⟩, g⟩
  have HB := Lib.hid (hb.mono (Nat.zero_le _))
  have HG4 := Lib.hid (HG3.out.trans g)
  clear hb g
  go_wp2
  go_ret
  exact ⟨⟨_, _, rfl, HB.out⟩, HG4.out⟩

set_option maxHeartbeats 1000000 in
theorem micro_any (t i j : Int) (k k2 : Nat) (hk : k ≤ 3000) (hk2 : k2 ≤ 3000) (h : Smp D w b n sz st zs) :
    Calls Try.prog 17 #[.pointer (some ⟨b, 0, none⟩), .int .i64 t, .int .i64 i, .int .i64 k, .int .i64 j, .int .i64 k2] w fun e w' => (∃ a c, e = .returned (.slice a (pieceL (pieceL (batL n sz st zs t) i k) j k2).length c) ∧ BufK .i64 3 0 w' a (pieceL (pieceL (batL n sz st zs t) i k) j k2).length c (pieceL (pieceL (batL n sz st zs t) i k) j k2)) ∧ Grew w w' := by
  have HE := Lib.hid (pbatch_any t h)
  have hle := batL_le n sz st zs t
  obtain ⟨hD, ⟨q1, q2, q3, q4⟩, v, h2, h3⟩ := h
  clear h2 h3
  generalize batL n sz st zs t = l at *
  have HM := Lib.hid (pieceL_min l i k)
  have hpl := pieceL_le l i k
  obtain ⟨m, hm⟩ : ∃ m, m = l.length := ⟨_, rfl⟩
  have HL := Lib.hid hm
  rw [← hm] at HM hle HE hpl
  clear hm
  generalize pieceL l i k = l3 at *
  have HM3 := Lib.hid (pieceL_min l3 j k2)
  have hpl3 := pieceL_le l3 j k2
  obtain ⟨m3, hm3⟩ : ∃ m, m = l3.length := ⟨_, rfl⟩
  have HL3 := Lib.hid hm3
  rw [← hm3] at HM3 hpl  hpl3
  clear hm3
  generalize pieceL l3 j k2 = l5 at *
  go_enter Try.func17, Try.ntmps17
  go_wp2_with fail
  refine HE.out.mono ?_
  rintro e w1 ⟨⟨a, c, rfl, hc1, hc2, hr⟩, g1⟩
  have HR := Lib.hid hr
  have HG := Lib.hid g1
  clear hr g1
  go_wp2_with fail
  refine (divide_any a c k m w1 (by omega) (by omega)).mono ?_
  rintro e w2 ⟨⟨ra, rc, rfl, hr⟩, g⟩
  have HD1 := Lib.hid hr
  have HX1 := Lib.hid (HR.out.grow g)
  have HG2 := Lib.hid (HG.out.trans g)
  clear hr g
  go_wp2_with fail
  refine (at_any (k := min k m) a c ra rc l i w2 HL.out.symm (by omega) (Nat.min_le_right k m) hc1 hc2 HX1.out HD1.out).mono ?_
  rintro e w3 ⟨⟨a3, c3, rfl, hc3, hc4, hr⟩, g⟩
  rw [HM.out] at hc3 hr ⊢
  rw [← HL3.out] at hc3 ⊢
  have HR3 := Lib.hid hr
  have HG3 := Lib.hid (HG2.out.trans g)
  clear hr g
  go_wp2_with fail
  refine (divide_any a3 c3 k2 m3 w3 (by omega) (by omega)).mono ?_
  rintro e w4 ⟨⟨ra, rc, rfl, hr⟩, g⟩
  have HD3 := Lib.hid hr
  have HX3 := Lib.hid (HR3.out.grow g)
  have HG4 := Lib.hid (HG3.out.trans g)
  clear hr g
  go_wp2_with fail
  refine (at_any (k := min k2 m3) a3 c3 ra rc l3 j w4 HL3.out.symm (by omega) (Nat.min_le_right k2 m3) hc3 hc4 HX3.out HD3.out).mono ?_
  rintro e w5 ⟨⟨a5, c5, rfl, hc5, hc6, hr⟩, g⟩
  rw [HM3.out] at hc5 hr ⊢
  have HR5 := Lib.hid hr
  have HG5 := Lib.hid (HG4.out.trans g)
  clear hr g
  go_wp2_with fail
  refine (iclone_any a5 c5 l5 w5 (by omega) HR5.out).mono ?_
  rintro e w6 ⟨⟨a6, c6, rfl, hb⟩, g⟩
  have HB := Lib.hid (hb.mono (Nat.zero_le _))
  have HG6 := Lib.hid (HG5.out.trans g)
  clear hb g
  go_wp2
  go_ret
  exact ⟨⟨_, _, rfl, HB.out⟩, HG6.out⟩
end
end Go.Proofs.Ytdcpankbolfmiaa
