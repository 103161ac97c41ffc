/- The reference's New. -/
import Derived.Test.YtdcpankbolfmiaaQh
namespace Go.Proofs.Ytdcpankbolfmiaa
open Go.RowKit
set_option linter.unusedVariables false

theorem results_cell2 {P : Program} {fn : Func} {tmps : Array Value} {x y : Tmp} {t : TypeId} {b : Addr} {v u : Value} {W : World} (hr : fn.results = #[.cell x t, .tmp y]) (hx : tmps.getD x undef = .pointer (some b)) (hl : (loadVar t b).run P W = .ok v W) (hy : tmps.getD y undef = u) : (results fn tmps).run P W = .ok (.tuple #[v, u]) W := by
  have hx' : tmps[x]?.getD undef = .pointer (some b) := by simpa using hx
  have hy' : tmps[y]?.getD undef = u := by simpa using hy
  simp [results, hr, hx', hy', asAddr, hl]
theorem Four.below {B b : Nat} {W W' : World} {t : TypeId} {x y z u : Value} (h : Four W b t x y z u) (g : Below B W W') (hB : b < B) : Four W' b t x y z u := (Below.block g b hB).trans h
theorem Two.below {B b : Nat} {W W' : World} {t : TypeId} {x y : Value} (h : Two W b t x y) (g : Below B W W') (hB : b < B) : Two W' b t x y := (Below.block g b hB).trans h
theorem Four.other {b : Nat} {W : World} {t : TypeId} {x y z u : Value} (h : Four W b t x y z u) (p : Addr) (v : Value) (hne : b ≠ p.block) : Four (W.setCell p v) b t x y z u := (heap_setCell_other W p b v hne).trans h

set_option maxRecDepth 100000 in
set_option maxHeartbeats 1000000 in
theorem rnew_range (n sz st : Int) (a : Option Addr) (m c : Nat) (w : World) (h2 : n ≤ 60) (h3 : st ≤ 60) (h : n < 1 ∨ st < 0) :
    Calls Try.prog 9 #[.int .i64 n, .int .i64 sz, .int .i64 st, .slice a m c] w fun e w' => e = .returned (.tuple #[.agg #[.int .i64 0, .int .i64 0, .int .i64 0, .slice none 0 0], .int .i64 2]) ∧ Grew w w' := by
  by_cases h0 : n < 1
  · clear h
    go_enter Try.func9, Try.ntmps9
    go_wp2
    have HF := Four.new w 33 (.int .i64 0) (.int .i64 0) (.int .i64 0) (.slice none 0 0)
    have hld := run_loadVar_row (P := Try.prog) _ w.heap.size 33 33 _ (0, 0) _ HF Try.underlying33 rfl (by kernel_rfl)
    refine bodyPost_ret (v := .tuple #[.agg #[.int .i64 0, .int .i64 0, .int .i64 0, .slice none 0 0], .int .i64 2]) ?hv rfl ?hp
    case hv => exact results_cell2 Try.results9 rfl hld rfl
    case hp => exact ⟨rfl, (Grew.refl w).alloc _⟩
  · have h1 : st < 0 := by omega
    have h4 : ¬ (1048576 : Int) < n := by omega
    clear h
    go_enter Try.func9, Try.ntmps9
    go_wp2
    have HF := Four.new w 33 (.int .i64 0) (.int .i64 0) (.int .i64 0) (.slice none 0 0)
    have hld := run_loadVar_row (P := Try.prog) _ w.heap.size 33 33 _ (0, 0) _ HF Try.underlying33 rfl (by kernel_rfl)
    refine bodyPost_ret (v := .tuple #[.agg #[.int .i64 0, .int .i64 0, .int .i64 0, .slice none 0 0], .int .i64 2]) ?hv rfl ?hp
    case hv => exact results_cell2 Try.results9 rfl hld rfl
    case hp => exact ⟨rfl, (Grew.refl w).alloc _⟩

set_option maxRecDepth 100000 in
set_option maxHeartbeats 1000000 in
theorem rnew_batch (n sz st : Int) (a : Option Addr) (m c : Nat) (w : World) (h0 : 1 ≤ n) (h1 : 0 ≤ st) (h2 : n ≤ 60) (h3 : st ≤ 60) (h : sz < 1 ∨ n < sz) :
    Calls Try.prog 9 #[.int .i64 n, .int .i64 sz, .int .i64 st, .slice a m c] w fun e w' => e = .returned (.tuple #[.agg #[.int .i64 0, .int .i64 0, .int .i64 0, .slice none 0 0], .int .i64 7]) ∧ Grew w w' := by
  have d0 : ¬ n < 1 := by omega
  have d1 : ¬ st < 0 := by omega
  have d2 : ¬ (1048576 : Int) < n := by omega
  have d3 : ¬ (1048576 : Int) < st := by omega
  by_cases h4 : sz < 1
  · clear h
    go_enter Try.func9, Try.ntmps9
    go_wp2
    have HF := Four.new w 33 (.int .i64 0) (.int .i64 0) (.int .i64 0) (.slice none 0 0)
    have hld := run_loadVar_row (P := Try.prog) _ w.heap.size 33 33 _ (0, 0) _ HF Try.underlying33 rfl (by kernel_rfl)
    refine bodyPost_ret (v := .tuple #[.agg #[.int .i64 0, .int .i64 0, .int .i64 0, .slice none 0 0], .int .i64 7]) ?hv rfl ?hp
    case hv => exact results_cell2 Try.results9 rfl hld rfl
    case hp => exact ⟨rfl, (Grew.refl w).alloc _⟩
  · have h5 : n < sz := by omega
    clear h
    go_enter Try.func9, Try.ntmps9
    go_wp2
    have HF := Four.new w 33 (.int .i64 0) (.int .i64 0) (.int .i64 0) (.slice none 0 0)
    have hld := run_loadVar_row (P := Try.prog) _ w.heap.size 33 33 _ (0, 0) _ HF Try.underlying33 rfl (by kernel_rfl)
    refine bodyPost_ret (v := .tuple #[.agg #[.int .i64 0, .int .i64 0, .int .i64 0, .slice none 0 0], .int .i64 7]) ?hv rfl ?hp
    case hv => exact results_cell2 Try.results9 rfl hld rfl
    case hp => exact ⟨rfl, (Grew.refl w).alloc _⟩

set_option maxRecDepth 100000 in
set_option maxHeartbeats 2000000 in
theorem rnew_draws {n sz st : Nat} (a : Option Addr) (m c : Nat) (w : World) (hS : Small n sz st) (hm : m < epoN st (n / sz) * (n - 1)) (hmm : m ≤ 4000) :
    Calls Try.prog 9 #[.int .i64 n, .int .i64 sz, .int .i64 st, .slice a m c] w fun e w' => e = .returned (.tuple #[.agg #[.int .i64 0, .int .i64 0, .int .i64 0, .slice none 0 0], .int .i64 8]) ∧ Grew w w' := by
  obtain ⟨k1, k2, k3, k4⟩ := hS
  have HEp := Lib.hid (fun w => repochs_any n sz st w k1 k2 k3 k4)
  have hE := epoN_le st (n / sz)
  obtain ⟨E, hEq⟩ : ∃ E, E = epoN st (n / sz) := ⟨_, rfl⟩
  rw [← hEq] at HEp hE hm
  clear hEq
  have HNd := Lib.hid (fun w => rneed_any n w (by omega) (by omega))
  have hq1 : n - 1 ≤ n := by omega
  generalize n - 1 = q at *
  have hmul : (E : Int) * (q : Int) = ((E * q : Nat) : Int) := by push_cast; rfl
  have hb : E * q ≤ 60 * 60 := Nat.mul_le_mul (by omega) (by omega)
  generalize E * q = N at *
  have HG0 := Lib.hid (((Grew.refl w).alloc (.cells #[.int .i64 0, .int .i64 0, .int .i64 0, .slice none 0 0] 33)).alloc (.cells #[.int .i64 n, .int .i64 sz, .int .i64 st, .slice none 0 0] 33))
  have HR0 := Lib.hid ((Four.new w 33 (.int .i64 0) (.int .i64 0) (.int .i64 0) (.slice none 0 0)).alloc (.cells #[.int .i64 n, .int .i64 sz, .int .i64 st, .slice none 0 0] 33))
  go_enter Try.func9, Try.ntmps9
  go_wp2_with fail
  refine (HEp.out _).mono ?_
  rintro e w1 ⟨rfl, rfl⟩
  go_wp2_with fail
  refine (HNd.out _).mono ?_
  rintro e w1 ⟨rfl, rfl⟩
  go_wp2_with fail
  have HF := HR0.out
  have hld := run_loadVar_row (P := Try.prog) _ w.heap.size 33 33 _ (0, 0) _ HF Try.underlying33 rfl (by kernel_rfl)
  refine bodyPost_ret (v := .tuple #[.agg #[.int .i64 0, .int .i64 0, .int .i64 0, .slice none 0 0], .int .i64 8]) ?hv rfl ?hp
  case hv => exact results_cell2 Try.results9 rfl hld rfl
  case hp => exact ⟨rfl, HG0.out⟩

set_option maxRecDepth 100000 in
set_option maxHeartbeats 4000000 in
theorem rnew_yes {n sz st : Nat} (a : Option Addr) (m c : Nat) (zs : List Int) (w : World) (hz : zs.length = m) (hS : Small n sz st) (hm : epoN st (n / sz) * (n - 1) ≤ m) (hmm : m ≤ 4000) (hu : U64 zs) (h : RdK .u64 w.heap.size w a zs) :
    Calls Try.prog 9 #[.int .i64 n, .int .i64 sz, .int .i64 st, .slice a m c] w fun e w' => (∃ a' c', e = .returned (.tuple #[.agg #[.int .i64 n, .int .i64 sz, .int .i64 st, .slice a' (epoN st (n / sz)) c'], .int .i64 0]) ∧ Ords w.heap.size w' (.slice a' (epoN st (n / sz)) c') (ordL n zs (epoN st (n / sz)))) ∧ Grew w w' := by
  obtain ⟨k1, k2, k3, k4⟩ := hS
  have HEp := Lib.hid (fun w => repochs_any n sz st w k1 k2 k3 k4)
  have hE := epoN_le st (n / sz)
  obtain ⟨E, hEq⟩ : ∃ E, E = epoN st (n / sz) := ⟨_, rfl⟩
  rw [← hEq] at HEp hE hm ⊢
  clear hEq
  have HNd := Lib.hid (fun w => rneed_any n w (by omega) (by omega))
  have HSh := Lib.hid (fun (k : Nat) (W : World) (hk : k + (n - 1) ≤ m) (g : Grew w W) => rshuffle_any a c m zs W hz (by omega) k3 hmm hu hk (h.grow g))
  have hq1 : (n - 1) + 1 = n := by omega
  obtain ⟨q, hq⟩ : ∃ q, q = n - 1 := ⟨_, rfl⟩
  rw [← hq] at HNd HSh hq1 hm
  have HQ := Lib.hid hq
  clear hq h
  have hmul : (E : Int) * (q : Int) = ((E * q : Nat) : Int) := by push_cast; rfl
  have hb : E * q ≤ 60 * 60 := Nat.mul_le_mul (by omega) (by omega)
  have HM := Lib.hid hm
  have HG0 := Lib.hid ((((Grew.refl w).alloc (.cells #[.int .i64 0, .int .i64 0, .int .i64 0, .slice none 0 0] 33)).alloc (.cells #[.int .i64 n, .int .i64 sz, .int .i64 st, .slice none 0 0] 33)).alloc (.cells #[.slice a m c, .int .i64 0] 60))
  have HR0 := Lib.hid (((Four.new w 33 (.int .i64 0) (.int .i64 0) (.int .i64 0) (.slice none 0 0)).alloc (.cells #[.int .i64 n, .int .i64 sz, .int .i64 st, .slice none 0 0] 33)).alloc (.cells #[.slice a m c, .int .i64 0] 60))
  have HS0 := Lib.hid ((Four.new (w.alloc (.cells #[.int .i64 0, .int .i64 0, .int .i64 0, .slice none 0 0] 33)) 33 (.int .i64 n) (.int .i64 sz) (.int .i64 st) (.slice none 0 0)).alloc (.cells #[.slice a m c, .int .i64 0] 60))
  have HT0 := Lib.hid (Two.new ((w.alloc (.cells #[.int .i64 0, .int .i64 0, .int .i64 0, .slice none 0 0] 33)).alloc (.cells #[.int .i64 n, .int .i64 sz, .int .i64 st, .slice none 0 0] 33)) 60 (.slice a m c) (.int .i64 0))
  rw [World.size_alloc] at HS0
  rw [World.size_alloc, World.size_alloc] at HT0
  go_enter Try.func9, Try.ntmps9
  go_wp2_with fail
  refine (HEp.out _).mono ?_
  rintro e w1 ⟨rfl, rfl⟩
  go_wp2_with fail
  refine (HNd.out _).mono ?_
  rintro e w1 ⟨rfl, rfl⟩
  have hmN : decide (m < E * q) = false := decide_eq_false (by omega)
  generalize E * q = N at hmul hb hmN
  go_wp2_with fail
  clear hmul hb hmN
  generalize ((w.alloc (.cells #[.int .i64 0, .int .i64 0, .int .i64 0, .slice none 0 0] 33)).alloc (.cells #[.int .i64 n, .int .i64 sz, .int .i64 st, .slice none 0 0] 33)).alloc (.cells #[.slice a m c, .int .i64 0] 60) = U at *
  have hU := HT0.out.lt
  obtain ⟨i0, hi, hz0, hz1, hz2⟩ := info_parts info_rows
  go_loopw [13] (fun x wr => ∃ i : Nat, i ≤ E ∧ x = .int .i64 i ∧ Hid (Two wr (w.heap.size + 1 + 1) 60 (.slice a m c) (.int .i64 (i * q : Nat))) ∧ ∃ v, Hid (Four wr (w.heap.size + 1) 33 (.int .i64 n) (.int .i64 sz) (.int .i64 st) v) ∧ Hid (Four wr w.heap.size 33 (.int .i64 0) (.int .i64 0) (.int .i64 0) (.slice none 0 0)) ∧ Hid (Ords U.heap.size wr v (ordL n zs i)) ∧ Hid (Grew w wr) ∧ Hid (U.heap.size ≤ wr.heap.size)) (fun x _ => E - (intOf x).toNat)
  case atStart => exact ⟨0, Nat.zero_le _, rfl, Lib.hid (by rw [Nat.zero_mul]; exact HT0.out), _, HS0, HR0, Lib.hid (Ords.nil _ _), HG0, Lib.hid (Nat.le_refl _)⟩
  case round =>
    obtain ⟨i, hi2, rfl, HT, v, HS, HR, HO, HG, HUs⟩ := hrel
    obtain ⟨av, cv, rfl⟩ := HO.out.slice
    rw [ordL_len] at HS HO
    by_cases hlt : i < E
    · have hk1 : i * q + q ≤ m := by
        have h1 := Nat.mul_le_mul_right q (show i + 1 ≤ E from hlt)
        rw [Nat.add_mul, Nat.one_mul] at h1
        have := HM.out
        omega
      have hnx : i * q + q = (i + 1) * q := by rw [Nat.add_mul, Nat.one_mul]
      have HC := Lib.hid (HSh.out (i * q) wr hk1 HG.out)
      have hord : shufK n (drawsB zs (i * q) n) q = ordE n zs i := by rw [HQ.out]; rfl
      rw [hnx, hord] at HC
      obtain ⟨u0, hu0⟩ : ∃ u, u = i * q := ⟨_, rfl⟩
      obtain ⟨u1, hu1⟩ : ∃ u, u = (i + 1) * q := ⟨_, rfl⟩
      rw [← hu0] at HC HT
      rw [← hu1] at HC
      have HU1 := Lib.hid hu1
      have C0 := HT.out.c0
      have C1 := HT.out.c1
      have hlT := HT.out.lt
      clear hk1 hnx hord hu0 hu1
      go_wp2_with fail
      refine HC.out.mono ?_
      rintro e w3 ⟨⟨a5, c5, rfl, hb5⟩, g3⟩
      have HB3 := Lib.hid hb5
      have HU3 := HUs
      have HU4 := Lib.hid (Nat.le_trans HUs.out g3.size)
      have HT3 := Lib.hid (HT.out.grow g3)
      have HS3 := Lib.hid (HS.out.grow g3)
      have HR3 := Lib.hid (HR.out.grow g3)
      have HO3 := Lib.hid (HO.out.grow g3)
      have HG3 := Lib.hid (HG.out.trans g3)
      clear hb5 g3 C0 C1 hlT
      have C0 := HT3.out.c0
      have C1 := HT3.out.c1
      have F0 := HT3.out.f0
      have F1 := HT3.out.f1
      have hlT := HT3.out.lt
      have C3 := HS3.out.c3
      have F3 := HS3.out.f3
      have hlS := HS3.out.lt
      have HV1 := Lib.hid ((grownBy_trans (grownBy_setCell1 w3 ⟨w.heap.size + 1 + 1, 0, none⟩ (.slice a m c)) (grownBy_setCell1 _ ⟨w.heap.size + 1 + 1, 1, none⟩ (.int .i64 u1))))
      have HOA := Lib.hid ((HO3.out.aside HV1.out (by simp only; omega)).grow ((Grew.refl _).alloc (.cells #[.slice a m c, .int .i64 u1] 60)))
      have HBA := Lib.hid (((HB3.out.mono HU3.out).aside (r := w.heap.size + 1 + 1) (by omega) (.slice a m c) (.int .i64 u1)).grow ((Grew.refl _).alloc (.cells #[.slice a m c, .int .i64 u1] 60)))
      have HTA := Lib.hid ((HT3.out.both (.slice a m c) (.int .i64 u1)).grow ((Grew.refl _).alloc (.cells #[.slice a m c, .int .i64 u1] 60)))
      have HSA := Lib.hid (((HS3.out.other ⟨w.heap.size + 1 + 1, 0, none⟩ (.slice a m c) (by simp only; omega)).other ⟨w.heap.size + 1 + 1, 1, none⟩ (.int .i64 u1) (by simp only; omega)).grow ((Grew.refl _).alloc (.cells #[.slice a m c, .int .i64 u1] 60)))
      have HRA := Lib.hid (((HR3.out.other ⟨w.heap.size + 1 + 1, 0, none⟩ (.slice a m c) (by simp only; omega)).other ⟨w.heap.size + 1 + 1, 1, none⟩ (.int .i64 u1) (by simp only; omega)).grow ((Grew.refl _).alloc (.cells #[.slice a m c, .int .i64 u1] 60)))
      have HGA := Lib.hid (((HG3.out.setCell (p := ⟨w.heap.size + 1 + 1, 0, none⟩) (by simp only; omega) (.slice a m c)).setCell (p := ⟨w.heap.size + 1 + 1, 1, none⟩) (by simp only; omega) (.int .i64 u1)))
      have HGB := Lib.hid (HGA.out.alloc HGA.out.size (.cells #[.slice a m c, .int .i64 u1] 60))
      obtain ⟨A, C, q1, q2⟩ := HOA.out
      have Q1 := Lib.hid q1
      have Q2 := Lib.hid q2
      clear q1 q2
      rw [ordL_len] at Q1
      go_wp2_with (at_builtin; refine wpList_append_own _ rfl _ _ 31 rfl U.heap.size 38 i0 (.slice none 0 0) 1 24 Try.underlying31 hi hz0 hz1 hz2 rfl (by decide) _ i _ rfl (own_grow Q1.out ((Grew.refl _).alloc (.cells #[.slice a5 n c5] 38))) ⟨w3.heap.size + 1, 0, none⟩ 1 1 [.slice a5 n c5] rfl ?qc1 ?qc2 ?qc3 ?qc4 ?qc5 ?qc6 ?_)
      case qc1 => rfl
      case qc2 =>
        intro j u hu
        have hq := cell_one_at (((w3.setCell ⟨w.heap.size + 1 + 1, 0, none⟩ (.slice a m c)).setCell ⟨w.heap.size + 1 + 1, 1, none⟩ (.int .i64 u1)).alloc (.cells #[.slice a m c, .int .i64 u1] 60)) (.slice a5 n c5) 38 j u hu
        simpa using hq
      case qc3 => intro u hu; simp only [List.mem_singleton] at hu; subst hu; rfl
      case qc4 => unfold maxLen; omega
      case qc5 => omega
      case qc6 => have := HU4.out; simp; omega
      intro v' w7 hown hgrow hnil
      have hb7 := Below.grown ((Below.refl U.heap.size (((w3.setCell ⟨w.heap.size + 1 + 1, 0, none⟩ (.slice a m c)).setCell ⟨w.heap.size + 1 + 1, 1, none⟩ (.int .i64 u1)).alloc (.cells #[.slice a m c, .int .i64 u1] 60))).alloc (by have := HU4.out; simp; omega) (.cells #[.slice a5 n c5] 38)) hgrow (by have := HU4.out; simp; omega) (fun b hb => (World.ownsRow.lt Q1.out b hb).1)
      have hl5 := ordE_len n zs i
      have HO7 := Lib.hid (Ords.snoc (zs := ordE n zs i) (a := a5) (c := c5) (by rw [ordL_len]; exact Q1.out) Q2.out (by rw [hl5]; exact HBA.out) ((Grew.refl _).alloc (.cells #[.slice a5 n c5] 38)) hgrow (by rw [hl5, ordL_len]; exact hown))
      rw [← ordL_snoc] at HO7
      obtain ⟨a7, c7, e7⟩ := HO7.out.slice
      rw [ordL_len] at e7
      subst e7
      have HT7 := Lib.hid (HTA.out.below hb7 (by omega))
      have HS7 := Lib.hid (HSA.out.below hb7 (by omega))
      have HR7 := Lib.hid (HRA.out.below hb7 (by omega))
      have HU7 := Lib.hid (Nat.le_trans (Nat.le_trans HU4.out (by simp)) hb7.size)
      have HG7 := Lib.hid (Grew.trans_below HGB.out hb7 (by omega))
      have HW := Lib.hid (show Two (w7.setCell ⟨w.heap.size + 1, 3, none⟩ (.slice a7 (i + 1) c7)) (w.heap.size + 1 + 1) 60 (.slice a m c) (.int .i64 u1) ∧ Four (w7.setCell ⟨w.heap.size + 1, 3, none⟩ (.slice a7 (i + 1) c7)) (w.heap.size + 1) 33 (.int .i64 n) (.int .i64 sz) (.int .i64 st) (.slice a7 (i + 1) c7) ∧ Four (w7.setCell ⟨w.heap.size + 1, 3, none⟩ (.slice a7 (i + 1) c7)) w.heap.size 33 (.int .i64 0) (.int .i64 0) (.int .i64 0) (.slice none 0 0) ∧ Ords U.heap.size (w7.setCell ⟨w.heap.size + 1, 3, none⟩ (.slice a7 (i + 1) c7)) (.slice a7 (i + 1) c7) (ordL n zs (i + 1)) ∧ Grew w (w7.setCell ⟨w.heap.size + 1, 3, none⟩ (.slice a7 (i + 1) c7)) ∧ U.heap.size ≤ (w7.setCell ⟨w.heap.size + 1, 3, none⟩ (.slice a7 (i + 1) c7)).heap.size from
        ⟨HT7.out.other _ _ (by simp only; omega), HS7.out.set3 _, HR7.out.other _ _ (by simp only; omega), HO7.out.aside (grownBy_setCell1 w7 ⟨w.heap.size + 1, 3, none⟩ (.slice a7 (i + 1) c7)) (by simp only; omega), HG7.out.setCell (by simp only; omega) _, by simp; exact HU7.out⟩)
      have C3' := HS7.out.c3
      have F3' := HS7.out.f3
      have hlS' := HS7.out.lt
      clear hb7 hl5 hown hgrow hnil HT7 HS7 HR7 HU7 HG7 HO7 HGA HGB HRA HSA HTA HBA HOA HV1 Q1 Q2 C3 F3 hlS C0 C1 F0 F1 hlT HT3 HS3 HR3 HO3 HG3 HB3 HT HS HR HO HG HC HUs HU3 HU4
      go_wp2
      go_roundw
      case rel => exact ⟨i + 1, by omega, by go_num, Lib.hid (by rw [← HU1.out]; exact HW.out.1), _, Lib.hid HW.out.2.1, Lib.hid HW.out.2.2.1, Lib.hid HW.out.2.2.2.1, Lib.hid HW.out.2.2.2.2.1, Lib.hid HW.out.2.2.2.2.2⟩
      case measure => simp [intOf]; omega
    · obtain rfl : i = E := by omega
      have C0 := HS.out.c0
      have C1 := HS.out.c1
      have C2 := HS.out.c2
      have C3 := HS.out.c3
      have hlS := HS.out.lt
      have D0 := HR.out.c0
      have D1 := HR.out.c1
      have D2 := HR.out.c2
      have D3 := HR.out.c3
      have G0 := HR.out.f0
      have G1 := HR.out.f1
      have G2 := HR.out.f2
      have G3 := HR.out.f3
      have hlR := HR.out.lt
      go_wp2
      have HF := (((HR.out.set0 (.int .i64 n)).set1 (.int .i64 sz)).set2 (.int .i64 st)).set3 (.slice av i cv)
      have hld := run_loadVar_row (P := Try.prog) _ w.heap.size 33 33 _ (0, 0) _ HF Try.underlying33 rfl (by kernel_rfl)
      refine bodyPost_ret (v := .tuple #[.agg #[.int .i64 n, .int .i64 sz, .int .i64 st, .slice av i cv], .int .i64 0]) ?hv rfl ?hp
      case hv => exact results_cell2 Try.results9 rfl hld rfl
      case hp =>
        refine ⟨⟨_, _, rfl, ?_⟩, (((HG.out.setCell (p := ⟨w.heap.size, 0, none⟩) (Nat.le_refl _) _).setCell (p := ⟨w.heap.size, 1, none⟩) (Nat.le_refl _) _).setCell (p := ⟨w.heap.size, 2, none⟩) (Nat.le_refl _) _).setCell (p := ⟨w.heap.size, 3, none⟩) (Nat.le_refl _) _⟩
        exact (((((HO.out.aside (grownBy_setCell1 _ ⟨w.heap.size, 0, none⟩ _) (by simp only; omega)).aside (grownBy_setCell1 _ ⟨w.heap.size, 1, none⟩ _) (by simp only; omega)).aside (grownBy_setCell1 _ ⟨w.heap.size, 2, none⟩ _) (by simp only; omega)).aside (grownBy_setCell1 _ ⟨w.heap.size, 3, none⟩ _) (by simp only; omega))).mono (by omega)
end Go.Proofs.Ytdcpankbolfmiaa
