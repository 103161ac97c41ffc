/- What the statements of layer 12 take: a run that came in, few, the chapter's example, start. -/
import Derived.Test.YtdcpankbolfmiaaQj
namespace Go.Proofs.Ytdcpankbolfmiaa
open Go.RowKit
set_option linter.unusedVariables false

/-- The run is right, and there are enough draws. -/
def Ok12 (N B S : Int) (m n sz st : Nat) : Prop := N = n ∧ B = sz ∧ S = st ∧ Small n sz st ∧ epoN st (n / sz) * (n - 1) ≤ m
def codeV (N B S : Int) : Int := if N < 1 ∨ S < 0 then 2 else if B < 1 ∨ N < B then 7 else 8
theorem codeV_ne (N B S : Int) : codeV N B S ≠ 0 ∧ 0 ≤ codeV N B S ∧ codeV N B S ≤ 8 := by
  unfold codeV
  split
  · decide
  · split <;> decide

theorem pnew_bad (N B S : Int) (a : Option Addr) (m c : Nat) (w : World) (h1 : N ≤ 60) (h2 : S ≤ 60) (h3 : m ≤ 4000) (h : ¬ ∃ n sz st, Ok12 N B S m n sz st) :
    Calls Try.prog 8 #[.int .i64 N, .int .i64 B, .int .i64 S, .slice a m c] w fun e w' => e = .returned (.tuple #[.pointer none, .int .i64 (codeV N B S)]) ∧ w = w' := by
  unfold codeV
  by_cases k1 : N < 1 ∨ S < 0
  · rw [if_pos k1]
    exact new_range N B S a m c w h1 h2 k1
  · rw [if_neg k1]
    by_cases k2 : B < 1 ∨ N < B
    · rw [if_pos k2]
      exact new_batch N B S a m c w (by omega) (by omega) h1 h2 k2
    · rw [if_neg k2]
      obtain ⟨n, rfl⟩ := Int.eq_ofNat_of_zero_le (show 0 ≤ N by omega)
      obtain ⟨sz, rfl⟩ := Int.eq_ofNat_of_zero_le (show 0 ≤ B by omega)
      obtain ⟨st, rfl⟩ := Int.eq_ofNat_of_zero_le (show 0 ≤ S by omega)
      have hS : Small n sz st := ⟨by omega, by omega, by omega, by omega⟩
      exact new_draws a m c w hS (Nat.lt_of_not_le fun h4 => h ⟨n, sz, st, rfl, rfl, rfl, hS, h4⟩) h3
theorem rnew_bad (N B S : Int) (a : Option Addr) (m c : Nat) (w : World) (h1 : N ≤ 60) (h2 : S ≤ 60) (h3 : m ≤ 4000) (h : ¬ ∃ n sz st, Ok12 N B S m n sz st) :
    Calls Try.prog 9 #[.int .i64 N, .int .i64 B, .int .i64 S, .slice a m c] w fun e w' => e = .returned (.tuple #[.agg #[.int .i64 0, .int .i64 0, .int .i64 0, .slice none 0 0], .int .i64 (codeV N B S)]) ∧ Grew w w' := by
  unfold codeV
  by_cases k1 : N < 1 ∨ S < 0
  · rw [if_pos k1]
    exact rnew_range N B S a m c w h1 h2 k1
  · rw [if_neg k1]
    by_cases k2 : B < 1 ∨ N < B
    · rw [if_pos k2]
      exact rnew_batch N B S a m c w (by omega) (by omega) h1 h2 k2
    · rw [if_neg k2]
      obtain ⟨n, rfl⟩ := Int.eq_ofNat_of_zero_le (show 0 ≤ N by omega)
      obtain ⟨sz, rfl⟩ := Int.eq_ofNat_of_zero_le (show 0 ≤ B by omega)
      obtain ⟨st, rfl⟩ := Int.eq_ofNat_of_zero_le (show 0 ≤ S by omega)
      have hS : Small n sz st := ⟨by omega, by omega, by omega, by omega⟩
      exact rnew_draws a m c w hS (Nat.lt_of_not_le fun h4 => h ⟨n, sz, st, rfl, rfl, rfl, hS, h4⟩) h3

/-- A run that came in. -/
def CameRun (w : World) (N B S : Int) (a : Option Addr) (len cap : Nat) (zs : List Int) : Prop :=
  zs.length = len ∧ len ≤ cap ∧ cap ≤ 9223372036854775807 ∧ RdK .u64 w.heap.size w a zs ∧ (a = none → cap = 0) ∧ U64 zs
theorem cameRun_none (w : World) (N B S : Int) : CameRun w N B S none 0 0 [] := ⟨rfl, Nat.le_refl _, by decide, .inl rfl, fun _ => rfl, fun j hj => by simp at hj⟩
theorem cameRun_some {w : World} {N B S : Int} {a : Addr} {len cap : Nat} {zs : List Int} (hl : len ≤ cap) (hm : cap ≤ maxLen) (hz : zs.length = cap)
    (hc : ∀ i, i < zs.length → w.cell? (a.add i) = some (.int .u64 (zs.getD i 0))) (hw : ∀ n ∈ zs, (Lit.int .u64 n).wf = true) : CameRun w N B S (some a) len cap (zs.take len) := by
  have hlen : (zs.take len).length = len := by rw [List.length_take]; omega
  have hel : ∀ j, j < len → el (zs.take len) j = zs.getD j 0 := fun j hj => by unfold el; rw [List.getElem?_take_of_lt hj, List.getD_eq_getElem?_getD]
  refine ⟨hlen, hl, by unfold maxLen at hm; omega, ?_, (fun h => nomatch h), fun j hj => ?_⟩
  · by_cases h0 : len = 0
    · exact .inl (List.eq_nil_of_length_eq_zero (hlen.trans h0))
    · obtain ⟨b, off, spot⟩ := a
      have h1 := hc 0 (by omega)
      have hspot : spot = none := by simpa [Addr.add] using World.cell?_spot h1
      subst hspot
      rw [Addr.add_lit] at h1
      refine .inr ⟨b, off, rfl, block_in h1, fun j hj => ?_⟩
      rw [hlen] at hj
      have h2 := hc j (by omega)
      rw [Addr.add_lit] at h2
      rw [h2, hel j hj]
  · rw [hlen] at hj
    rw [hel j hj]
    refine u64_wf (hw _ ?_)
    rw [List.getD_eq_getElem?_getD, List.getElem?_eq_getElem (by omega)]
    exact List.getElem_mem _

theorem salive_any (w : World) : Calls Try.prog 7 #[] w fun e w' => e = .returned (.bool true) ∧ Grew w w' := by
  have HR := Lib.hid (rd_three .u64 w 3 2 1 36)
  have HG := Lib.hid ((Grew.refl w).alloc (.cells #[.int .u64 3, .int .u64 2, .int .u64 1] 36))
  have HL : Hid (batL 4 2 2 [3, 2, 1] 1 = [2, 3]) := Lib.hid (by decide +kernel)
  go_enter Try.func7, Try.ntmps7
  go_wp2_with fail
  refine (new_yes (n := 4) (sz := 2) (st := 2) _ 3 3 [3, 2, 1] _ rfl ⟨by decide, by decide, by decide, by decide⟩ (by decide) (by decide) (by decide) (by decide) (fun j hj => ?_) HR.out).mono ?_
  · match j, hj with
    | 0, _ => decide
    | 1, _ => decide
    | 2, _ => decide
  rintro e w1 ⟨⟨b, rfl, hs⟩, g1⟩
  have HS := Lib.hid hs
  have HG1 := Lib.hid (HG.out.trans g1)
  clear hs g1
  go_wp2_with fail
  refine (steps_any HS.out).mono ?_
  rintro e w2 ⟨rfl, rfl⟩
  go_wp2_with fail
  refine (batch_any 1 HS.out).mono ?_
  rw [HL.out]
  rintro e w2 ⟨⟨a, c, rfl, hr⟩, g2⟩
  have HB := Lib.hid (hr.grow ((Grew.refl w2).alloc (.cells #[.int .i64 2, .int .i64 3] 3)))
  have HC := Lib.hid (rd_two .i64 w2 2 3 3)
  have HG2 := Lib.hid ((HG1.out.trans g2).alloc (.cells #[.int .i64 2, .int .i64 3] 3))
  clear hr g2
  go_wp2_with fail
  refine (iequal_n (n := 2) (m := 2) _ _ _ _ [2, 3] [2, 3] _ rfl rfl (by decide) (by decide) HB.out HC.out).mono ?_
  rintro e w3 ⟨rfl, g3⟩
  rw [decide_eq_true rfl]
  have HG3 := Lib.hid (HG2.out.trans g3)
  clear g3
  go_wp2
  go_ret
  exact ⟨rfl, HG3.out⟩

def fewB (N S : Int) (n : Nat) : Bool := decide (N ≤ 60) && decide (S ≤ 60) && decide (n ≤ 4000)
theorem few_any (N B S : Int) (a : Option Addr) (n c : Nat) (w : World) :
    Calls Try.prog 6 #[.agg #[.int .i64 N, .int .i64 B, .int .i64 S, .slice a n c]] w fun e w' => e = .returned (.bool (fewB N S n)) ∧ Grew w w' := by
  have HG := Lib.hid ((Grew.refl w).alloc (.cells #[.int .i64 N, .int .i64 B, .int .i64 S, .slice a n c] 24))
  have HF := Lib.hid (Four.new w 24 (.int .i64 N) (.int .i64 B) (.int .i64 S) (.slice a n c))
  have g0 := HF.out
  by_cases hN : N ≤ 60
  · by_cases hS : S ≤ 60
    · by_cases hn : n ≤ 4000
      · have HB : Hid (fewB N S n = true) := Lib.hid (by unfold fewB; rw [decide_eq_true hN, decide_eq_true hS, decide_eq_true hn]; rfl)
        have hn' : (n : Int) ≤ 4000 := by omega
        clear g0
        go_enter Try.func6, Try.ntmps6
        go_wp2
        go_ret
        exact ⟨ret_bool HB.out.symm, HG.out⟩
      · have HB : Hid (fewB N S n = false) := Lib.hid (by unfold fewB; rw [decide_eq_true hN, decide_eq_true hS, decide_eq_false hn]; rfl)
        have hn' : ¬ (n : Int) ≤ 4000 := by omega
        clear g0
        go_enter Try.func6, Try.ntmps6
        go_wp2
        go_ret
        exact ⟨ret_bool HB.out.symm, HG.out⟩
    · have HB : Hid (fewB N S n = false) := Lib.hid (by unfold fewB; rw [decide_eq_true hN, decide_eq_false hS]; rfl)
      clear g0
      go_enter Try.func6, Try.ntmps6
      go_wp2
      go_ret
      exact ⟨ret_bool HB.out.symm, HG.out⟩
  · have HB : Hid (fewB N S n = false) := Lib.hid (by unfold fewB; rw [decide_eq_false hN]; rfl)
    clear g0
    go_enter Try.func6, Try.ntmps6
    go_wp2
    go_ret
    exact ⟨ret_bool HB.out.symm, HG.out⟩

theorem results_cellM {P : Program} {fn : Func} {tmps : Array Value} {x y z : Tmp} {t : TypeId} {b : Addr} {v u s : Value} {W : World} (hr : fn.results = #[.tmp y, .cell x t, .tmp z]) (hx : tmps.getD x undef = .pointer (some b)) (hy : tmps.getD y undef = u) (hl : (loadVar t b).run P W = .ok v W) (hz : tmps.getD z undef = s) : (results fn tmps).run P W = .ok (.tuple #[u, v, s]) W := by
  have hx' : tmps[x]?.getD undef = .pointer (some b) := by simpa using hx
  have hy' : tmps[y]?.getD undef = u := by simpa using hy
  have hz' : tmps[z]?.getD undef = s := by simpa using hz
  simp [results, hr, hx', hy', hz', asAddr, hl]
theorem stay4 {W : World} {b r i : Nat} {x : Value} (h : W.cell? ⟨b, i, none⟩ = some x) (hne : b ≠ r) (a0 a1 a2 a3 : Value) : ((((W.setCell ⟨r, 0, none⟩ a0).setCell ⟨r, 1, none⟩ a1).setCell ⟨r, 2, none⟩ a2).setCell ⟨r, 3, none⟩ a3).cell? ⟨b, i, none⟩ = some x := by
  rw [World.cell?_setCell_other _ _ _ _ (by intro e; injection e with e; exact hne e.symm), World.cell?_setCell_other _ _ _ _ (by intro e; injection e with e; exact hne e.symm), World.cell?_setCell_other _ _ _ _ (by intro e; injection e with e; exact hne e.symm), World.cell?_setCell_other _ _ _ _ (by intro e; injection e with e; exact hne e.symm)]
  exact h
theorem keep4c {W : World} {b r : Nat} {x0 x1 x2 x3 : Value} (h : W.cell? ⟨b, 0, none⟩ = some x0 ∧ W.cell? ⟨b, 1, none⟩ = some x1 ∧ W.cell? ⟨b, 2, none⟩ = some x2 ∧ W.cell? ⟨b, 3, none⟩ = some x3) (hne : b ≠ r) (a0 a1 a2 a3 : Value) :
    ((((W.setCell ⟨r, 0, none⟩ a0).setCell ⟨r, 1, none⟩ a1).setCell ⟨r, 2, none⟩ a2).setCell ⟨r, 3, none⟩ a3).cell? ⟨b, 0, none⟩ = some x0 ∧ ((((W.setCell ⟨r, 0, none⟩ a0).setCell ⟨r, 1, none⟩ a1).setCell ⟨r, 2, none⟩ a2).setCell ⟨r, 3, none⟩ a3).cell? ⟨b, 1, none⟩ = some x1 ∧ ((((W.setCell ⟨r, 0, none⟩ a0).setCell ⟨r, 1, none⟩ a1).setCell ⟨r, 2, none⟩ a2).setCell ⟨r, 3, none⟩ a3).cell? ⟨b, 2, none⟩ = some x2 ∧ ((((W.setCell ⟨r, 0, none⟩ a0).setCell ⟨r, 1, none⟩ a1).setCell ⟨r, 2, none⟩ a2).setCell ⟨r, 3, none⟩ a3).cell? ⟨b, 3, none⟩ = some x3 :=
  ⟨stay4 h.1 hne _ _ _ _, stay4 h.2.1 hne _ _ _ _, stay4 h.2.2.1 hne _ _ _ _, stay4 h.2.2.2 hne _ _ _ _⟩

set_option maxHeartbeats 1000000 in
theorem start_bad (N B S : Int) (a : Option Addr) (m c : Nat) (w : World) (h1 : N ≤ 60) (h2 : S ≤ 60) (h3 : m ≤ 4000) (h : ¬ ∃ n sz st, Ok12 N B S m n sz st) :
    Calls Try.prog 14 #[.agg #[.int .i64 N, .int .i64 B, .int .i64 S, .slice a m c]] w fun e w' => e = .returned (.tuple #[.pointer none, .agg #[.int .i64 0, .int .i64 0, .int .i64 0, .slice none 0 0], .bool false]) ∧ Grew w w' := by
  have HP := Lib.hid (fun w => pnew_bad N B S a m c w h1 h2 h3 h)
  have HR := Lib.hid (fun w => rnew_bad N B S a m c w h1 h2 h3 h)
  obtain ⟨hc, hc0, hc8⟩ := codeV_ne N B S
  have hcb : (codeV N B S == 0) = false := by simpa using hc
  have HX0 := Lib.hid ((Four.new w 24 (.int .i64 N) (.int .i64 B) (.int .i64 S) (.slice a m c)).alloc (.cells #[.int .i64 0, .int .i64 0, .int .i64 0, .slice none 0 0] 33))
  have HR0 := Lib.hid (Four.new (w.alloc (.cells #[.int .i64 N, .int .i64 B, .int .i64 S, .slice a m c] 24)) 33 (.int .i64 0) (.int .i64 0) (.int .i64 0) (.slice none 0 0))
  rw [World.size_alloc] at HR0
  have HG0 := Lib.hid (((Grew.refl w).alloc (.cells #[.int .i64 N, .int .i64 B, .int .i64 S, .slice a m c] 24)).alloc (.cells #[.int .i64 0, .int .i64 0, .int .i64 0, .slice none 0 0] 33))
  generalize codeV N B S = cd at *
  clear h
  go_enter Try.func14, Try.ntmps14
  go_wp2_with fail
  generalize (w.alloc (.cells #[.int .i64 N, .int .i64 B, .int .i64 S, .slice a m c] 24)).alloc (.cells #[.int .i64 0, .int .i64 0, .int .i64 0, .slice none 0 0] 33) = V at *
  refine (HP.out _).mono ?_
  rintro e w1 ⟨rfl, rfl⟩
  have X0 := HX0.out.c0
  have X1 := HX0.out.c1
  have X2 := HX0.out.c2
  have X3 := HX0.out.c3
  have hlX := HX0.out.lt
  go_wp2_with fail
  refine (HR.out _).mono ?_
  rintro e w2 ⟨rfl, g2⟩
  have HR2 := Lib.hid (HR0.out.grow g2)
  have HG2 := Lib.hid (HG0.out.trans g2)
  clear g2
  clear X0 X1 X2 X3 hlX
  go_wp2_with fail
  have HL2 := Lib.hid (Four.new w2 33 (.int .i64 0) (.int .i64 0) (.int .i64 0) (.slice none 0 0))
  have HRV := Lib.hid ((HR2.out.alloc (.cells #[.int .i64 0, .int .i64 0, .int .i64 0, .slice none 0 0] 33)))
  have HGV := Lib.hid (HG2.out.alloc (.cells #[.int .i64 0, .int .i64 0, .int .i64 0, .slice none 0 0] 33))
  have hlw : w.heap.size + 1 ≠ w2.heap.size := by have := HR2.out.lt; omega
  generalize hV2 : w2.alloc (.cells #[.int .i64 0, .int .i64 0, .int .i64 0, .slice none 0 0] 33) = V2 at *
  generalize w2.heap.size = lw at *
  have L0 := HL2.out.c0
  have L1 := HL2.out.c1
  have L2 := HL2.out.c2
  have L3 := HL2.out.c3
  have hlL := HL2.out.lt
  have R0 := HRV.out.c0
  have R1 := HRV.out.c1
  have R2 := HRV.out.c2
  have R3 := HRV.out.c3
  have FR0 := HRV.out.f0
  have FR1 := HRV.out.f1
  have FR2 := HRV.out.f2
  have FR3 := HRV.out.f3
  have hlR := HRV.out.lt
  have hlw' : lw ≠ w.heap.size + 1 := fun e => hlw e.symm
  refine wp_region_held_drew (S := (fun W' => W'.cell? ⟨lw, 0, none⟩ = some (.int .i64 0) ∧ W'.cell? ⟨lw, 1, none⟩ = some (.int .i64 0) ∧ W'.cell? ⟨lw, 2, none⟩ = some (.int .i64 0) ∧ W'.cell? ⟨lw, 3, none⟩ = some (.slice none 0 0))) (by kernel_rfl) ⟨L0, L1, L2, L3⟩ (fun hHeld => ?_)
  refine wpAnyH_take (i := 0) (oi := { dst := some 33, op := Go.Op.move (Go.Operand.tmp 5), type := 27, pos := _, after := #[], guard := none }) (v := ?v1) rfl (by kernel_rfl) (by kernel_rfl) (by kernel_rfl) (fun _ _ _ h => h) (Or.inl ⟨by kernel_rfl, ?hy1⟩) (by assumption) ?_
  case hy1 => intro w hSw; (try dsimp only at hSw); first | (go_simp; done) | (go_simp; with_reducible rfl)
  (try simp only [Act.put, List.setIfInBounds_toArray, List.set_cons_zero, List.set_cons_succ])
  refine wpAnyH_take (i := 1) (oi := { dst := some 34, op := Go.Op.load 33 (Go.Operand.tmp 7), type := 33, pos := _, after := #[{ on := 13, ground := Go.Ground.gcOnly Go.Departure.lateStores }], guard := none }) (v := ?v2) rfl (by kernel_rfl) (by kernel_rfl) (by kernel_rfl) (fun _ _ _ h => h) (Or.inl ⟨by kernel_rfl, ?hy2⟩) (by assumption) ?_
  case hy2 => intro w hSw; (try dsimp only at hSw); first | (go_simp; done) | (go_simp; with_reducible rfl)
  (try simp only [Act.put, List.setIfInBounds_toArray, List.set_cons_zero, List.set_cons_succ])
  refine wpAnyH_take (i := 2) (oi := { dst := some 35, op := Go.Op.move (Go.Operand.tmp 8), type := 3, pos := _, after := #[], guard := none }) (v := ?v3) rfl (by kernel_rfl) (by kernel_rfl) (by kernel_rfl) (fun _ _ _ h => h) (Or.inl ⟨by kernel_rfl, ?hy3⟩) (by assumption) ?_
  case hy3 => intro w hSw; (try dsimp only at hSw); first | (go_simp; done) | (go_simp; with_reducible rfl)
  (try simp only [Act.put, List.setIfInBounds_toArray, List.set_cons_zero, List.set_cons_succ])
  refine wpAnyH_take (i := 3) (oi := { dst := some 36, op := Go.Op.binOp Go.BinOp.eql 3 (Go.Operand.tmp 35) (Go.Operand.const (Go.Value.int Go.IntKind.i64 0)) 3, type := 4, pos := _, after := #[{ on := 2, ground := Go.Ground.data }], guard := none }) (v := ?v4) rfl (by kernel_rfl) (by kernel_rfl) (by kernel_rfl) (fun _ _ _ h => h) (Or.inl ⟨by kernel_rfl, ?hy4⟩) (by assumption) ?_
  case hy4 => intro w hSw; (try dsimp only at hSw); first | (go_simp; done) | (go_simp; with_reducible rfl)
  (try simp only [Act.put, List.setIfInBounds_toArray, List.set_cons_zero, List.set_cons_succ])
  refine wpAnyH_take (i := 4) (oi := { dst := some 37, op := Go.Op.move (Go.Operand.tmp 36), type := 4, pos := _, after := #[{ on := 3, ground := Go.Ground.data }], guard := none }) (v := ?v5) rfl (by kernel_rfl) (by kernel_rfl) (by kernel_rfl) (fun _ _ _ h => h) (Or.inl ⟨by kernel_rfl, ?hy5⟩) (by assumption) ?_
  case hy5 => intro w hSw; (try dsimp only at hSw); first | (go_simp; done) | (go_simp; with_reducible rfl)
  (try simp only [Act.put, List.setIfInBounds_toArray, List.set_cons_zero, List.set_cons_succ])
  refine wpAnyH_take (i := 5) (oi := { dst := some 38, op := Go.Op.move (Go.Operand.tmp 6), type := 28, pos := _, after := #[{ on := 4, ground := Go.Ground.guard }], guard := some (4, true) }) (v := undef) rfl (by kernel_rfl) (by kernel_rfl) (by kernel_rfl) (fun _ _ _ h => h) (Or.inr ⟨by kernel_rfl, rfl⟩) (by assumption) ?_
  (try simp only [Act.put, List.setIfInBounds_toArray, List.set_cons_zero, List.set_cons_succ])
  refine wpAnyH_take (i := 6) (oi := { dst := some 39, op := Go.Op.move (Go.Operand.tmp 8), type := 3, pos := _, after := #[{ on := 4, ground := Go.Ground.guard }], guard := some (4, true) }) (v := undef) rfl (by kernel_rfl) (by kernel_rfl) (by kernel_rfl) (fun _ _ _ h => h) (Or.inr ⟨by kernel_rfl, rfl⟩) (by assumption) ?_
  (try simp only [Act.put, List.setIfInBounds_toArray, List.set_cons_zero, List.set_cons_succ])
  refine wpAnyH_take (i := 7) (oi := { dst := some 40, op := Go.Op.binOp Go.BinOp.eql 3 (Go.Operand.tmp 38) (Go.Operand.tmp 39) 3, type := 4, pos := _, after := #[{ on := 5, ground := Go.Ground.data }, { on := 6, ground := Go.Ground.data }, { on := 4, ground := Go.Ground.guard }], guard := some (4, true) }) (v := undef) rfl (by kernel_rfl) (by kernel_rfl) (by kernel_rfl) (fun _ _ _ h => h) (Or.inr ⟨by kernel_rfl, rfl⟩) (by assumption) ?_
  (try simp only [Act.put, List.setIfInBounds_toArray, List.set_cons_zero, List.set_cons_succ])
  refine wpAnyH_take (i := 8) (oi := { dst := some 41, op := Go.Op.pick (Go.Operand.tmp 37) (Go.Operand.tmp 40) (Go.Operand.const (Go.Value.bool false)), type := 4, pos := _, after := #[{ on := 4, ground := Go.Ground.data }, { on := 7, ground := Go.Ground.data }], guard := none }) (v := ?v9) rfl (by kernel_rfl) (by kernel_rfl) (by kernel_rfl) (fun _ _ _ h => h) (Or.inl ⟨by kernel_rfl, ?hy9⟩) (by assumption) ?_
  case hy9 => intro w hSw; (try dsimp only at hSw); first | (go_simp; done) | (go_simp; with_reducible rfl)
  (try simp only [Act.put, List.setIfInBounds_toArray, List.set_cons_zero, List.set_cons_succ])
  refine wpAnyH_take (i := 9) (oi := { dst := some 42, op := Go.Op.move (Go.Operand.tmp 41), type := 4, pos := _, after := #[{ on := 8, ground := Go.Ground.data }, { on := 4, ground := Go.Ground.chain }], guard := none }) (v := ?v10) rfl (by kernel_rfl) (by kernel_rfl) (by kernel_rfl) (fun _ _ _ h => h) (Or.inl ⟨by kernel_rfl, ?hy10⟩) (by assumption) ?_
  case hy10 => intro w hSw; (try dsimp only at hSw); first | (go_simp; done) | (go_simp; with_reducible rfl)
  (try simp only [Act.put, List.setIfInBounds_toArray, List.set_cons_zero, List.set_cons_succ])
  refine wpAnyH_take (i := 10) (oi := { dst := some 43, op := Go.Op.move (Go.Operand.tmp 5), type := 27, pos := _, after := #[{ on := 9, ground := Go.Ground.guard }, { on := 14, ground := Go.Ground.gcOnly Go.Departure.lateStores }], guard := some (9, true) }) (v := undef) rfl (by kernel_rfl) (by kernel_rfl) (by kernel_rfl) (fun _ _ _ h => h) (Or.inr ⟨by kernel_rfl, rfl⟩) (by assumption) ?_
  (try simp only [Act.put, List.setIfInBounds_toArray, List.set_cons_zero, List.set_cons_succ])
  refine wpAnyH_take (i := 11) (oi := { dst := some 44, op := Go.Op.binOp Go.BinOp.neq 27 (Go.Operand.tmp 43) (Go.Operand.const (Go.Value.pointer none)) 27, type := 4, pos := _, after := #[{ on := 10, ground := Go.Ground.data }, { on := 9, ground := Go.Ground.guard }, { on := 14, ground := Go.Ground.gcOnly Go.Departure.lateStores }], guard := some (9, true) }) (v := undef) rfl (by kernel_rfl) (by kernel_rfl) (by kernel_rfl) (fun _ _ _ h => h) (Or.inr ⟨by kernel_rfl, rfl⟩) (by assumption) ?_
  (try simp only [Act.put, List.setIfInBounds_toArray, List.set_cons_zero, List.set_cons_succ])
  refine wpAnyH_take (i := 12) (oi := { dst := some 45, op := Go.Op.pick (Go.Operand.tmp 42) (Go.Operand.tmp 44) (Go.Operand.const (Go.Value.bool false)), type := 4, pos := _, after := #[{ on := 9, ground := Go.Ground.data }, { on := 11, ground := Go.Ground.data }, { on := 14, ground := Go.Ground.gcOnly Go.Departure.lateStores }], guard := none }) (v := ?v13) rfl (by kernel_rfl) (by kernel_rfl) (by kernel_rfl) (fun _ _ _ h => h) (Or.inl ⟨by kernel_rfl, ?hy13⟩) (by assumption) ?_
  case hy13 => intro w hSw; (try dsimp only at hSw); first | (go_simp; done) | (go_simp; with_reducible rfl)
  (try simp only [Act.put, List.setIfInBounds_toArray, List.set_cons_zero, List.set_cons_succ])
  refine wpAnyH_take (i := 13) (oi := { dst := some 2, op := Go.Op.assign (Go.Operand.tmp 33), type := 27, pos := _, after := #[{ on := 0, ground := Go.Ground.data }, { on := 9, ground := Go.Ground.chain }, { on := 0, ground := Go.Ground.phase }, { on := 1, ground := Go.Ground.textOnly Go.Departure.lateStores }, { on := 2, ground := Go.Ground.textOnly Go.Departure.lateStores }, { on := 3, ground := Go.Ground.textOnly Go.Departure.lateStores }, { on := 4, ground := Go.Ground.textOnly Go.Departure.lateStores }, { on := 5, ground := Go.Ground.textOnly Go.Departure.lateStores }, { on := 6, ground := Go.Ground.textOnly Go.Departure.lateStores }, { on := 7, ground := Go.Ground.textOnly Go.Departure.lateStores }, { on := 8, ground := Go.Ground.textOnly Go.Departure.lateStores }, { on := 9, ground := Go.Ground.textOnly Go.Departure.lateStores }, { on := 10, ground := Go.Ground.textOnly Go.Departure.lateStores }, { on := 11, ground := Go.Ground.textOnly Go.Departure.lateStores }, { on := 12, ground := Go.Ground.textOnly Go.Departure.lateStores }], guard := none }) (v := ?v14) rfl (by kernel_rfl) (by kernel_rfl) (by kernel_rfl) (fun _ _ _ h => h) (Or.inl ⟨by kernel_rfl, ?hy14⟩) (by assumption) ?_
  case hy14 => intro w hSw; (try dsimp only at hSw); first | (go_simp; done) | (go_simp; with_reducible rfl)
  (try simp only [Act.put, List.setIfInBounds_toArray, List.set_cons_zero, List.set_cons_succ])
  refine wpAnyH_ready (rs := [14]) (by kernel_rfl) (by simp) ?_
  refine AllReadyH.cons (o := { dst := none, op := Go.Op.store 33 (Go.Operand.tmp 3) (Go.Operand.tmp 34), type := 0, pos := _, after := #[{ on := 1, ground := Go.Ground.data }, { on := 13, ground := Go.Ground.chain }, { on := 0, ground := Go.Ground.phase }, { on := 1, ground := Go.Ground.phase }, { on := 2, ground := Go.Ground.textOnly Go.Departure.lateStores }, { on := 3, ground := Go.Ground.textOnly Go.Departure.lateStores }, { on := 4, ground := Go.Ground.textOnly Go.Departure.lateStores }, { on := 5, ground := Go.Ground.textOnly Go.Departure.lateStores }, { on := 6, ground := Go.Ground.textOnly Go.Departure.lateStores }, { on := 7, ground := Go.Ground.textOnly Go.Departure.lateStores }, { on := 8, ground := Go.Ground.textOnly Go.Departure.lateStores }, { on := 9, ground := Go.Ground.textOnly Go.Departure.lateStores }, { on := 10, ground := Go.Ground.textOnly Go.Departure.lateStores }, { on := 11, ground := Go.Ground.textOnly Go.Departure.lateStores }, { on := 12, ground := Go.Ground.textOnly Go.Departure.lateStores }, { on := 13, ground := Go.Ground.phase }], guard := none }) rfl (fun K hK => ?_) AllReadyH.nil
  go_simp
  skip
  (try go_wp2_with fail)
  refine hK.out _ _ ?hS16 (fun hHeld => ?_)
  case hS16 => (try dsimp only); exact keep4c (by assumption) hlw' _ _ _ _
  clear hK K
  (try simp only [Act.put, List.setIfInBounds_toArray, List.set_cons_zero, List.set_cons_succ])
  refine wpAnyH_take (i := 15) (oi := { dst := some 4, op := Go.Op.assign (Go.Operand.tmp 45), type := 4, pos := _, after := #[{ on := 12, ground := Go.Ground.data }, { on := 14, ground := Go.Ground.chain }, { on := 0, ground := Go.Ground.phase }, { on := 1, ground := Go.Ground.phase }, { on := 2, ground := Go.Ground.phase }, { on := 3, ground := Go.Ground.phase }, { on := 4, ground := Go.Ground.phase }, { on := 5, ground := Go.Ground.phase }, { on := 6, ground := Go.Ground.phase }, { on := 7, ground := Go.Ground.phase }, { on := 8, ground := Go.Ground.phase }, { on := 9, ground := Go.Ground.phase }, { on := 10, ground := Go.Ground.phase }, { on := 11, ground := Go.Ground.phase }, { on := 12, ground := Go.Ground.phase }, { on := 13, ground := Go.Ground.phase }, { on := 14, ground := Go.Ground.phase }], guard := none }) (v := ?v17) rfl (by kernel_rfl) (by kernel_rfl) (by kernel_rfl) (fun _ _ _ h => h) (Or.inl ⟨by kernel_rfl, ?hy17⟩) (by assumption) ?_
  case hy17 => intro w hSw; (try dsimp only at hSw); first | (go_simp; done) | (go_simp; with_reducible rfl)
  (try simp only [Act.put, List.setIfInBounds_toArray, List.set_cons_zero, List.set_cons_succ])
  refine wpAnyH_done (by kernel_rfl) ?_ _
  go_wp2
  have HF := ((((HRV.out.set0 (.int .i64 0)).set1 (.int .i64 0)).set2 (.int .i64 0)).set3 (.slice none 0 0)).grow (Grew.drew' (Grew.refl _))
  have hld := run_loadVar_row (P := Try.prog) _ (w.heap.size + 1) 33 33 _ (0, 0) _ HF Try.underlying33 rfl (by kernel_rfl)
  refine bodyPost_ret (v := .tuple #[.pointer none, .agg #[.int .i64 0, .int .i64 0, .int .i64 0, .slice none 0 0], .bool false]) ?hv rfl ?hp
  case hv => exact results_cellM Try.results14 rfl rfl hld rfl
  case hp => exact ⟨rfl, Grew.drew' ((((HGV.out.setCell (p := ⟨w.heap.size + 1, 0, none⟩) (by simp only; omega) _).setCell (p := ⟨w.heap.size + 1, 1, none⟩) (by simp only; omega) _).setCell (p := ⟨w.heap.size + 1, 2, none⟩) (by simp only; omega) _).setCell (p := ⟨w.heap.size + 1, 3, none⟩) (by simp only; omega) _)⟩

set_option maxHeartbeats 1000000 in
theorem start_good {n sz st : Nat} (a : Option Addr) (m c : Nat) (zs : List Int) (w : World) (hz : zs.length = m) (hS : Small n sz st) (hm : epoN st (n / sz) * (n - 1) ≤ m) (hmm : m ≤ 4000) (hc : m ≤ c) (hcm : c ≤ 9223372036854775807) (hu : U64 zs) (h : RdK .u64 w.heap.size w a zs) :
    Calls Try.prog 14 #[.agg #[.int .i64 n, .int .i64 sz, .int .i64 st, .slice a m c]] w fun e w' => (∃ b oa oc, e = .returned (.tuple #[.pointer (some ⟨b, 0, none⟩), .agg #[.int .i64 n, .int .i64 sz, .int .i64 st, .slice oa (epoN st (n / sz)) oc], .bool true]) ∧ Smp (w.heap.size + 1 + 1) w' b n sz st zs ∧ Ords (w.heap.size + 1 + 1) w' (.slice oa (epoN st (n / sz)) oc) (ordL n zs (epoN st (n / sz)))) ∧ Grew w w' := by
  have HP := Lib.hid (fun W (g : Grew w W) => new_yes a m c zs W hz hS hm hmm hc hcm hu (h.grow g))
  have HR := Lib.hid (fun W (g : Grew w W) => rnew_yes a m c zs W hz hS hm hmm hu (h.grow g))
  generalize ordL n zs (epoN st (n / sz)) = os at *
  generalize epoN st (n / sz) = E at *
  have HX0 := Lib.hid ((Four.new w 24 (.int .i64 n) (.int .i64 sz) (.int .i64 st) (.slice a m c)).alloc (.cells #[.int .i64 0, .int .i64 0, .int .i64 0, .slice none 0 0] 33))
  have HR0 := Lib.hid (Four.new (w.alloc (.cells #[.int .i64 n, .int .i64 sz, .int .i64 st, .slice a m c] 24)) 33 (.int .i64 0) (.int .i64 0) (.int .i64 0) (.slice none 0 0))
  rw [World.size_alloc] at HR0
  have HG0 := Lib.hid (((Grew.refl w).alloc (.cells #[.int .i64 n, .int .i64 sz, .int .i64 st, .slice a m c] 24)).alloc (.cells #[.int .i64 0, .int .i64 0, .int .i64 0, .slice none 0 0] 33))
  have hV0 : ((w.alloc (.cells #[.int .i64 n, .int .i64 sz, .int .i64 st, .slice a m c] 24)).alloc (.cells #[.int .i64 0, .int .i64 0, .int .i64 0, .slice none 0 0] 33)).heap.size = w.heap.size + 1 + 1 := by simp
  clear h hm
  go_enter Try.func14, Try.ntmps14
  go_wp2_with fail
  generalize (w.alloc (.cells #[.int .i64 n, .int .i64 sz, .int .i64 st, .slice a m c] 24)).alloc (.cells #[.int .i64 0, .int .i64 0, .int .i64 0, .slice none 0 0] 33) = V at *
  have HV0 := Lib.hid hV0
  clear hV0
  refine (HP.out _ HG0.out).mono ?_
  rintro e w1 ⟨⟨b, rfl, hs⟩, g1⟩
  rw [HV0.out] at hs
  have HSm := Lib.hid hs
  have HX1 := Lib.hid (HX0.out.grow g1)
  have HR1 := Lib.hid (HR0.out.grow g1)
  have HG1 := Lib.hid (HG0.out.trans g1)
  have HV1 := Lib.hid (show w.heap.size + 1 + 1 ≤ w1.heap.size from by rw [← HV0.out]; exact g1.size)
  clear hs g1
  have X0 := HX1.out.c0
  have X1 := HX1.out.c1
  have X2 := HX1.out.c2
  have X3 := HX1.out.c3
  have hlX := HX1.out.lt
  go_wp2_with fail
  refine (HR.out _ HG1.out).mono ?_
  rintro e w2 ⟨⟨a5, c5, rfl, ho⟩, g2⟩
  have HO2 := Lib.hid (ho.mono HV1.out)
  have HS2 := Lib.hid (HSm.out.grow g2)
  have HR2 := Lib.hid (HR1.out.grow g2)
  have HG2 := Lib.hid (HG1.out.trans g2)
  have HOV := Lib.hid (HO2.out.grow ((Grew.refl w2).alloc (.cells #[.int .i64 n, .int .i64 sz, .int .i64 st, .slice a5 E c5] 33)))
  have HSV := Lib.hid (HS2.out.grow ((Grew.refl w2).alloc (.cells #[.int .i64 n, .int .i64 sz, .int .i64 st, .slice a5 E c5] 33)))
  clear g2 ho
  clear X0 X1 X2 X3 hlX
  go_wp2_with fail
  have HL2 := Lib.hid (Four.new w2 33 (.int .i64 n) (.int .i64 sz) (.int .i64 st) (.slice a5 E c5))
  have HRV := Lib.hid ((HR2.out.alloc (.cells #[.int .i64 n, .int .i64 sz, .int .i64 st, .slice a5 E c5] 33)))
  have HGV := Lib.hid (HG2.out.alloc (.cells #[.int .i64 n, .int .i64 sz, .int .i64 st, .slice a5 E c5] 33))
  have hlw : w.heap.size + 1 ≠ w2.heap.size := by have := HR2.out.lt; omega
  generalize hV2 : w2.alloc (.cells #[.int .i64 n, .int .i64 sz, .int .i64 st, .slice a5 E c5] 33) = V2 at *
  generalize w2.heap.size = lw at *
  have L0 := HL2.out.c0
  have L1 := HL2.out.c1
  have L2 := HL2.out.c2
  have L3 := HL2.out.c3
  have hlL := HL2.out.lt
  have R0 := HRV.out.c0
  have R1 := HRV.out.c1
  have R2 := HRV.out.c2
  have R3 := HRV.out.c3
  have FR0 := HRV.out.f0
  have FR1 := HRV.out.f1
  have FR2 := HRV.out.f2
  have FR3 := HRV.out.f3
  have hlR := HRV.out.lt
  have hlw' : lw ≠ w.heap.size + 1 := fun e => hlw e.symm
  refine wp_region_held_drew (S := (fun W' => W'.cell? ⟨lw, 0, none⟩ = some (.int .i64 n) ∧ W'.cell? ⟨lw, 1, none⟩ = some (.int .i64 sz) ∧ W'.cell? ⟨lw, 2, none⟩ = some (.int .i64 st) ∧ W'.cell? ⟨lw, 3, none⟩ = some (.slice a5 E c5))) (by kernel_rfl) ⟨L0, L1, L2, L3⟩ (fun hHeld => ?_)
  refine wpAnyH_take (i := 0) (oi := { dst := some 33, op := Go.Op.move (Go.Operand.tmp 5), type := 27, pos := _, after := #[], guard := none }) (v := ?v18) rfl (by kernel_rfl) (by kernel_rfl) (by kernel_rfl) (fun _ _ _ h => h) (Or.inl ⟨by kernel_rfl, ?hy18⟩) (by assumption) ?_
  case hy18 => intro w hSw; (try dsimp only at hSw); first | (go_simp; done) | (go_simp; with_reducible rfl)
  (try simp only [Act.put, List.setIfInBounds_toArray, List.set_cons_zero, List.set_cons_succ])
  refine wpAnyH_take (i := 1) (oi := { dst := some 34, op := Go.Op.load 33 (Go.Operand.tmp 7), type := 33, pos := _, after := #[{ on := 13, ground := Go.Ground.gcOnly Go.Departure.lateStores }], guard := none }) (v := ?v19) rfl (by kernel_rfl) (by kernel_rfl) (by kernel_rfl) (fun _ _ _ h => h) (Or.inl ⟨by kernel_rfl, ?hy19⟩) (by assumption) ?_
  case hy19 => intro w hSw; (try dsimp only at hSw); first | (go_simp; done) | (go_simp; with_reducible rfl)
  (try simp only [Act.put, List.setIfInBounds_toArray, List.set_cons_zero, List.set_cons_succ])
  refine wpAnyH_take (i := 2) (oi := { dst := some 35, op := Go.Op.move (Go.Operand.tmp 8), type := 3, pos := _, after := #[], guard := none }) (v := ?v20) rfl (by kernel_rfl) (by kernel_rfl) (by kernel_rfl) (fun _ _ _ h => h) (Or.inl ⟨by kernel_rfl, ?hy20⟩) (by assumption) ?_
  case hy20 => intro w hSw; (try dsimp only at hSw); first | (go_simp; done) | (go_simp; with_reducible rfl)
  (try simp only [Act.put, List.setIfInBounds_toArray, List.set_cons_zero, List.set_cons_succ])
  refine wpAnyH_take (i := 3) (oi := { dst := some 36, op := Go.Op.binOp Go.BinOp.eql 3 (Go.Operand.tmp 35) (Go.Operand.const (Go.Value.int Go.IntKind.i64 0)) 3, type := 4, pos := _, after := #[{ on := 2, ground := Go.Ground.data }], guard := none }) (v := ?v21) rfl (by kernel_rfl) (by kernel_rfl) (by kernel_rfl) (fun _ _ _ h => h) (Or.inl ⟨by kernel_rfl, ?hy21⟩) (by assumption) ?_
  case hy21 => intro w hSw; (try dsimp only at hSw); first | (go_simp; done) | (go_simp; with_reducible rfl)
  (try simp only [Act.put, List.setIfInBounds_toArray, List.set_cons_zero, List.set_cons_succ])
  refine wpAnyH_take (i := 4) (oi := { dst := some 37, op := Go.Op.move (Go.Operand.tmp 36), type := 4, pos := _, after := #[{ on := 3, ground := Go.Ground.data }], guard := none }) (v := ?v22) rfl (by kernel_rfl) (by kernel_rfl) (by kernel_rfl) (fun _ _ _ h => h) (Or.inl ⟨by kernel_rfl, ?hy22⟩) (by assumption) ?_
  case hy22 => intro w hSw; (try dsimp only at hSw); first | (go_simp; done) | (go_simp; with_reducible rfl)
  (try simp only [Act.put, List.setIfInBounds_toArray, List.set_cons_zero, List.set_cons_succ])
  refine wpAnyH_take (i := 5) (oi := { dst := some 38, op := Go.Op.move (Go.Operand.tmp 6), type := 28, pos := _, after := #[{ on := 4, ground := Go.Ground.guard }], guard := some (4, true) }) (v := ?v23) rfl (by kernel_rfl) (by kernel_rfl) (by kernel_rfl) (fun _ _ _ h => h) (Or.inl ⟨by kernel_rfl, ?hy23⟩) (by assumption) ?_
  case hy23 => intro w hSw; (try dsimp only at hSw); first | (go_simp; done) | (go_simp; with_reducible rfl)
  (try simp only [Act.put, List.setIfInBounds_toArray, List.set_cons_zero, List.set_cons_succ])
  refine wpAnyH_take (i := 6) (oi := { dst := some 39, op := Go.Op.move (Go.Operand.tmp 8), type := 3, pos := _, after := #[{ on := 4, ground := Go.Ground.guard }], guard := some (4, true) }) (v := ?v24) rfl (by kernel_rfl) (by kernel_rfl) (by kernel_rfl) (fun _ _ _ h => h) (Or.inl ⟨by kernel_rfl, ?hy24⟩) (by assumption) ?_
  case hy24 => intro w hSw; (try dsimp only at hSw); first | (go_simp; done) | (go_simp; with_reducible rfl)
  (try simp only [Act.put, List.setIfInBounds_toArray, List.set_cons_zero, List.set_cons_succ])
  refine wpAnyH_take (i := 7) (oi := { dst := some 40, op := Go.Op.binOp Go.BinOp.eql 3 (Go.Operand.tmp 38) (Go.Operand.tmp 39) 3, type := 4, pos := _, after := #[{ on := 5, ground := Go.Ground.data }, { on := 6, ground := Go.Ground.data }, { on := 4, ground := Go.Ground.guard }], guard := some (4, true) }) (v := ?v25) rfl (by kernel_rfl) (by kernel_rfl) (by kernel_rfl) (fun _ _ _ h => h) (Or.inl ⟨by kernel_rfl, ?hy25⟩) (by assumption) ?_
  case hy25 => intro w hSw; (try dsimp only at hSw); first | (go_simp; done) | (go_simp; with_reducible rfl)
  (try simp only [Act.put, List.setIfInBounds_toArray, List.set_cons_zero, List.set_cons_succ])
  refine wpAnyH_take (i := 8) (oi := { dst := some 41, op := Go.Op.pick (Go.Operand.tmp 37) (Go.Operand.tmp 40) (Go.Operand.const (Go.Value.bool false)), type := 4, pos := _, after := #[{ on := 4, ground := Go.Ground.data }, { on := 7, ground := Go.Ground.data }], guard := none }) (v := ?v26) rfl (by kernel_rfl) (by kernel_rfl) (by kernel_rfl) (fun _ _ _ h => h) (Or.inl ⟨by kernel_rfl, ?hy26⟩) (by assumption) ?_
  case hy26 => intro w hSw; (try dsimp only at hSw); first | (go_simp; done) | (go_simp; with_reducible rfl)
  (try simp only [Act.put, List.setIfInBounds_toArray, List.set_cons_zero, List.set_cons_succ])
  refine wpAnyH_take (i := 9) (oi := { dst := some 42, op := Go.Op.move (Go.Operand.tmp 41), type := 4, pos := _, after := #[{ on := 8, ground := Go.Ground.data }, { on := 4, ground := Go.Ground.chain }], guard := none }) (v := ?v27) rfl (by kernel_rfl) (by kernel_rfl) (by kernel_rfl) (fun _ _ _ h => h) (Or.inl ⟨by kernel_rfl, ?hy27⟩) (by assumption) ?_
  case hy27 => intro w hSw; (try dsimp only at hSw); first | (go_simp; done) | (go_simp; with_reducible rfl)
  (try simp only [Act.put, List.setIfInBounds_toArray, List.set_cons_zero, List.set_cons_succ])
  refine wpAnyH_take (i := 10) (oi := { dst := some 43, op := Go.Op.move (Go.Operand.tmp 5), type := 27, pos := _, after := #[{ on := 9, ground := Go.Ground.guard }, { on := 14, ground := Go.Ground.gcOnly Go.Departure.lateStores }], guard := some (9, true) }) (v := ?v28) rfl (by kernel_rfl) (by kernel_rfl) (by kernel_rfl) (fun _ _ _ h => h) (Or.inl ⟨by kernel_rfl, ?hy28⟩) (by assumption) ?_
  case hy28 => intro w hSw; (try dsimp only at hSw); first | (go_simp; done) | (go_simp; with_reducible rfl)
  (try simp only [Act.put, List.setIfInBounds_toArray, List.set_cons_zero, List.set_cons_succ])
  refine wpAnyH_take (i := 11) (oi := { dst := some 44, op := Go.Op.binOp Go.BinOp.neq 27 (Go.Operand.tmp 43) (Go.Operand.const (Go.Value.pointer none)) 27, type := 4, pos := _, after := #[{ on := 10, ground := Go.Ground.data }, { on := 9, ground := Go.Ground.guard }, { on := 14, ground := Go.Ground.gcOnly Go.Departure.lateStores }], guard := some (9, true) }) (v := ?v29) rfl (by kernel_rfl) (by kernel_rfl) (by kernel_rfl) (fun _ _ _ h => h) (Or.inl ⟨by kernel_rfl, ?hy29⟩) (by assumption) ?_
  case hy29 => intro w hSw; (try dsimp only at hSw); first | (go_simp; done) | (go_simp; with_reducible rfl)
  (try simp only [Act.put, List.setIfInBounds_toArray, List.set_cons_zero, List.set_cons_succ])
  refine wpAnyH_take (i := 12) (oi := { dst := some 45, op := Go.Op.pick (Go.Operand.tmp 42) (Go.Operand.tmp 44) (Go.Operand.const (Go.Value.bool false)), type := 4, pos := _, after := #[{ on := 9, ground := Go.Ground.data }, { on := 11, ground := Go.Ground.data }, { on := 14, ground := Go.Ground.gcOnly Go.Departure.lateStores }], guard := none }) (v := ?v30) rfl (by kernel_rfl) (by kernel_rfl) (by kernel_rfl) (fun _ _ _ h => h) (Or.inl ⟨by kernel_rfl, ?hy30⟩) (by assumption) ?_
  case hy30 => intro w hSw; (try dsimp only at hSw); first | (go_simp; done) | (go_simp; with_reducible rfl)
  (try simp only [Act.put, List.setIfInBounds_toArray, List.set_cons_zero, List.set_cons_succ])
  refine wpAnyH_take (i := 13) (oi := { dst := some 2, op := Go.Op.assign (Go.Operand.tmp 33), type := 27, pos := _, after := #[{ on := 0, ground := Go.Ground.data }, { on := 9, ground := Go.Ground.chain }, { on := 0, ground := Go.Ground.phase }, { on := 1, ground := Go.Ground.textOnly Go.Departure.lateStores }, { on := 2, ground := Go.Ground.textOnly Go.Departure.lateStores }, { on := 3, ground := Go.Ground.textOnly Go.Departure.lateStores }, { on := 4, ground := Go.Ground.textOnly Go.Departure.lateStores }, { on := 5, ground := Go.Ground.textOnly Go.Departure.lateStores }, { on := 6, ground := Go.Ground.textOnly Go.Departure.lateStores }, { on := 7, ground := Go.Ground.textOnly Go.Departure.lateStores }, { on := 8, ground := Go.Ground.textOnly Go.Departure.lateStores }, { on := 9, ground := Go.Ground.textOnly Go.Departure.lateStores }, { on := 10, ground := Go.Ground.textOnly Go.Departure.lateStores }, { on := 11, ground := Go.Ground.textOnly Go.Departure.lateStores }, { on := 12, ground := Go.Ground.textOnly Go.Departure.lateStores }], guard := none }) (v := ?v31) rfl (by kernel_rfl) (by kernel_rfl) (by kernel_rfl) (fun _ _ _ h => h) (Or.inl ⟨by kernel_rfl, ?hy31⟩) (by assumption) ?_
  case hy31 => intro w hSw; (try dsimp only at hSw); first | (go_simp; done) | (go_simp; with_reducible rfl)
  (try simp only [Act.put, List.setIfInBounds_toArray, List.set_cons_zero, List.set_cons_succ])
  refine wpAnyH_ready (rs := [14]) (by kernel_rfl) (by simp) ?_
  refine AllReadyH.cons (o := { dst := none, op := Go.Op.store 33 (Go.Operand.tmp 3) (Go.Operand.tmp 34), type := 0, pos := _, after := #[{ on := 1, ground := Go.Ground.data }, { on := 13, ground := Go.Ground.chain }, { on := 0, ground := Go.Ground.phase }, { on := 1, ground := Go.Ground.phase }, { on := 2, ground := Go.Ground.textOnly Go.Departure.lateStores }, { on := 3, ground := Go.Ground.textOnly Go.Departure.lateStores }, { on := 4, ground := Go.Ground.textOnly Go.Departure.lateStores }, { on := 5, ground := Go.Ground.textOnly Go.Departure.lateStores }, { on := 6, ground := Go.Ground.textOnly Go.Departure.lateStores }, { on := 7, ground := Go.Ground.textOnly Go.Departure.lateStores }, { on := 8, ground := Go.Ground.textOnly Go.Departure.lateStores }, { on := 9, ground := Go.Ground.textOnly Go.Departure.lateStores }, { on := 10, ground := Go.Ground.textOnly Go.Departure.lateStores }, { on := 11, ground := Go.Ground.textOnly Go.Departure.lateStores }, { on := 12, ground := Go.Ground.textOnly Go.Departure.lateStores }, { on := 13, ground := Go.Ground.phase }], guard := none }) rfl (fun K hK => ?_) AllReadyH.nil
  go_simp
  skip
  (try go_wp2_with fail)
  refine hK.out _ _ ?hS33 (fun hHeld => ?_)
  case hS33 => (try dsimp only); exact keep4c (by assumption) hlw' _ _ _ _
  clear hK K
  (try simp only [Act.put, List.setIfInBounds_toArray, List.set_cons_zero, List.set_cons_succ])
  refine wpAnyH_take (i := 15) (oi := { dst := some 4, op := Go.Op.assign (Go.Operand.tmp 45), type := 4, pos := _, after := #[{ on := 12, ground := Go.Ground.data }, { on := 14, ground := Go.Ground.chain }, { on := 0, ground := Go.Ground.phase }, { on := 1, ground := Go.Ground.phase }, { on := 2, ground := Go.Ground.phase }, { on := 3, ground := Go.Ground.phase }, { on := 4, ground := Go.Ground.phase }, { on := 5, ground := Go.Ground.phase }, { on := 6, ground := Go.Ground.phase }, { on := 7, ground := Go.Ground.phase }, { on := 8, ground := Go.Ground.phase }, { on := 9, ground := Go.Ground.phase }, { on := 10, ground := Go.Ground.phase }, { on := 11, ground := Go.Ground.phase }, { on := 12, ground := Go.Ground.phase }, { on := 13, ground := Go.Ground.phase }, { on := 14, ground := Go.Ground.phase }], guard := none }) (v := ?v34) rfl (by kernel_rfl) (by kernel_rfl) (by kernel_rfl) (fun _ _ _ h => h) (Or.inl ⟨by kernel_rfl, ?hy34⟩) (by assumption) ?_
  case hy34 => intro w hSw; (try dsimp only at hSw); first | (go_simp; done) | (go_simp; with_reducible rfl)
  (try simp only [Act.put, List.setIfInBounds_toArray, List.set_cons_zero, List.set_cons_succ])
  refine wpAnyH_done (by kernel_rfl) ?_ _
  go_wp2
  have HF := ((((HRV.out.set0 (.int .i64 n)).set1 (.int .i64 sz)).set2 (.int .i64 st)).set3 (.slice a5 E c5)).grow (Grew.drew' (Grew.refl _))
  have hld := run_loadVar_row (P := Try.prog) _ (w.heap.size + 1) 33 33 _ (0, 0) _ HF Try.underlying33 rfl (by kernel_rfl)
  refine bodyPost_ret (v := .tuple #[.pointer (some ⟨b, 0, none⟩), .agg #[.int .i64 n, .int .i64 sz, .int .i64 st, .slice a5 E c5], .bool true]) ?hv rfl ?hp
  case hv => exact results_cellM Try.results14 rfl rfl hld rfl
  case hp =>
    refine ⟨⟨_, _, _, rfl, ?_, ?_⟩, Grew.drew' ((((HGV.out.setCell (p := ⟨w.heap.size + 1, 0, none⟩) (by simp only; omega) _).setCell (p := ⟨w.heap.size + 1, 1, none⟩) (by simp only; omega) _).setCell (p := ⟨w.heap.size + 1, 2, none⟩) (by simp only; omega) _).setCell (p := ⟨w.heap.size + 1, 3, none⟩) (by simp only; omega) _)⟩
    · exact ((((HSV.out.aside (grownBy_setCell1 _ ⟨w.heap.size + 1, 0, none⟩ _) (by simp only; omega)).aside (grownBy_setCell1 _ ⟨w.heap.size + 1, 1, none⟩ _) (by simp only; omega)).aside (grownBy_setCell1 _ ⟨w.heap.size + 1, 2, none⟩ _) (by simp only; omega)).aside (grownBy_setCell1 _ ⟨w.heap.size + 1, 3, none⟩ _) (by simp only; omega)).grow (Grew.drew' (Grew.refl _))
    · exact ((((HOV.out.aside (grownBy_setCell1 _ ⟨w.heap.size + 1, 0, none⟩ _) (by simp only; omega)).aside (grownBy_setCell1 _ ⟨w.heap.size + 1, 1, none⟩ _) (by simp only; omega)).aside (grownBy_setCell1 _ ⟨w.heap.size + 1, 2, none⟩ _) (by simp only; omega)).aside (grownBy_setCell1 _ ⟨w.heap.size + 1, 3, none⟩ _) (by simp only; omega)).grow (Grew.drew' (Grew.refl _))
end Go.Proofs.Ytdcpankbolfmiaa
