/- slices.Values at integers; write and Text of package data: the text of an example, or none; the chapter's example. Conditions: at most 1000 numbers, each within the bounds of int64; the table of powers of ten holds its numbers. -/
import Derived.Test.YthdkanmpapioeaaDoorEs
import Derived.Test.YthdkanmpapioeaaDoorEc
import Derived.Test.YthdkanmpapioeaaDoorYf
namespace Go.Proofs.YthdkanmpapioeaaDoor
open Go.RowKit Go.Shelf
attribute [local go_sem] Oper.semAt_some

theorem valsL_any (a : Option Addr) (n c : Nat) (w : World) :
    Calls Tryd.prog 41 #[.slice a n c] w fun e w' => e = .returned (.func (.func 57) #[] #[.pointer (some ⟨w.heap.size, 0, none⟩)]) ∧ w' = w.alloc (.cells #[.slice a n c] 22) := by
  go_enter Tryd.func41, Tryd.ntmps41
  go_wp2
  go_ret
  exact ⟨rfl, rfl⟩
set_option maxRecDepth 100000 in
set_option maxHeartbeats 2000000 in
theorem valsL_in (n : Nat) (hn : 1 ≤ n) (l : Nat) {B D len cap : Nat} {a : Option Addr} {zs : List Int} (hz : zs.length = len) (hl : len ≤ 17592186044416) (J : Nat → World → Prop) (X : World → Prop)
    (hY : ∀ k V, J k V → k < len → YieldAt Fence.wide (n - 1) Tryd.prog l #[.int .i64 (el zs k)] V fun e V' => (e = .returned (.bool true) ∧ J (k + 1) V' ∧ Below D V V') ∨ (e = .returned (.bool false) ∧ X V'))
    (W : World) (hT : Boxed W B 22 (.slice a len cap)) (hr : RdK .i64 D W a zs) (h0 : J 0 W) :
    CallsIn Fence.wide n Tryd.prog 57 #[.func (.yield l) #[] #[], .pointer (some ⟨B, 0, none⟩)] W fun e W' => (∃ v, e = .returned v) ∧ (J len W' ∨ X W') := by
  have c0 := hT.cell
  have HR := Lib.hid hr
  have HZ := Lib.hid hz
  have HYH := Lib.hid hY
  clear hT hr hz hY
  refine callsIn_of_wp Tryd.func57 rfl trivial ?_ rfl
  simp only [Tryd.ntmps57, List.size_toArray, List.length_cons, List.length_nil, Nat.reduceAdd, Nat.reduceSub, Array.replicate_succ, Array.replicate_zero, List.push_toArray, List.append_toArray, List.nil_append, List.cons_append]
  gi_wp2
  gi_loopw [7] (fun i wr => ∃ k : Nat, k ≤ len ∧ i = .int .i64 (k : Int) ∧ J k wr ∧ Hid (RdK .i64 D wr a zs)) (fun i _ => len - (intOf i).toNat)
  case atStart => exact ⟨0, Nat.zero_le _, by simp, h0, HR⟩
  case round =>
    clear c0
    obtain ⟨k, hk, rfl, hJk, HRk⟩ := hrel
    by_cases hlt : k < len
    · obtain ⟨b, off, rfl, hb, hc⟩ := HRk.out.at (k := k) (by rw [HZ.out]; exact hlt)
      obtain ⟨fn, tmps, assign, body, hy, hR⟩ := HYH.out k wr hJk hlt
      have HRR := Lib.hid hR
      clear hR
      generalize el zs k = z at *
      gi_wp2
      refine HRR.out.mono ?_
      rintro e W3 (⟨rfl, hJ3, hk3⟩ | ⟨rfl, hX⟩)
      · have HR3 := Lib.hid (HRk.out.below hk3)
        gi_wp2
        go_roundw
        case rel => exact ⟨k + 1, by omega, by go_num, hJ3, HR3⟩
        case measure => simp [intOf]; omega
      · gi_wp2
        refine bodyPost_ret (results_none rfl _ _ _) rfl ?_
        exact ⟨⟨_, rfl⟩, .inr hX⟩
    · obtain rfl : k = len := by omega
      gi_wp2
      go_end0
      exact ⟨⟨_, rfl⟩, .inl hJk⟩
theorem valsL_yields (n : Nat) (hn : 1 ≤ n) {B D len cap : Nat} {a : Option Addr} {zs : List Int} (hz : zs.length = len) (hl : len ≤ 17592186044416) (w : World) (hB : B < D) (hD : D ≤ w.heap.size) (hT : Boxed w B 22 (.slice a len cap)) (hr : RdK .i64 D w a zs) (Ow : World → World → Prop) :
    YieldsO Fence.wide n Tryd.prog 57 #[.pointer (some ⟨B, 0, none⟩)] (fun k => #[.int .i64 (el zs k)]) len (Below D) Ow w := fun l J X W hW _ hY h0 =>
  valsL_in n hn l hz hl J X hY W ((hW.block B (by omega)).trans hT) (hr.below (hW.mono hD)) h0

theorem valsI_any (a : Option Addr) (n c : Nat) (w : World) :
    Calls Tryd.prog 35 #[.slice a n c] w fun e w' => e = .returned (.func (.func 55) #[] #[.pointer (some ⟨w.heap.size, 0, none⟩)]) ∧ w' = w.alloc (.cells #[.slice a n c] 38) := by
  go_enter Tryd.func35, Tryd.ntmps35
  go_wp2
  go_ret
  exact ⟨rfl, rfl⟩
set_option maxRecDepth 100000 in
set_option maxHeartbeats 2000000 in
theorem valsI_in (n : Nat) (hn : 1 ≤ n) (l : Nat) {B D len cap : Nat} {a : Option Addr} {zs : List Int} (hz : zs.length = len) (hl : len ≤ 17592186044416) (J : Nat → World → Prop) (X : World → Prop)
    (hY : ∀ k V, J k V → k < len → YieldAt Fence.wide (n - 1) Tryd.prog l #[.int .i64 (el zs k)] V fun e V' => (e = .returned (.bool true) ∧ J (k + 1) V' ∧ Below D V V') ∨ (e = .returned (.bool false) ∧ X V'))
    (W : World) (hT : Boxed W B 38 (.slice a len cap)) (hr : RdK .i64 D W a zs) (h0 : J 0 W) :
    CallsIn Fence.wide n Tryd.prog 55 #[.func (.yield l) #[] #[], .pointer (some ⟨B, 0, none⟩)] W fun e W' => (∃ v, e = .returned v) ∧ (J len W' ∨ X W') := by
  have c0 := hT.cell
  have HR := Lib.hid hr
  have HZ := Lib.hid hz
  have HYH := Lib.hid hY
  clear hT hr hz hY
  refine callsIn_of_wp Tryd.func55 rfl trivial ?_ rfl
  simp only [Tryd.ntmps55, List.size_toArray, List.length_cons, List.length_nil, Nat.reduceAdd, Nat.reduceSub, Array.replicate_succ, Array.replicate_zero, List.push_toArray, List.append_toArray, List.nil_append, List.cons_append]
  gi_wp2
  gi_loopw [7] (fun i wr => ∃ k : Nat, k ≤ len ∧ i = .int .i64 (k : Int) ∧ J k wr ∧ Hid (RdK .i64 D wr a zs)) (fun i _ => len - (intOf i).toNat)
  case atStart => exact ⟨0, Nat.zero_le _, by simp, h0, HR⟩
  case round =>
    clear c0
    obtain ⟨k, hk, rfl, hJk, HRk⟩ := hrel
    by_cases hlt : k < len
    · obtain ⟨b, off, rfl, hb, hc⟩ := HRk.out.at (k := k) (by rw [HZ.out]; exact hlt)
      obtain ⟨fn, tmps, assign, body, hy, hR⟩ := HYH.out k wr hJk hlt
      have HRR := Lib.hid hR
      clear hR
      generalize el zs k = z at *
      gi_wp2
      refine HRR.out.mono ?_
      rintro e W3 (⟨rfl, hJ3, hk3⟩ | ⟨rfl, hX⟩)
      · have HR3 := Lib.hid (HRk.out.below hk3)
        gi_wp2
        go_roundw
        case rel => exact ⟨k + 1, by omega, by go_num, hJ3, HR3⟩
        case measure => simp [intOf]; omega
      · gi_wp2
        refine bodyPost_ret (results_none rfl _ _ _) rfl ?_
        exact ⟨⟨_, rfl⟩, .inr hX⟩
    · obtain rfl : k = len := by omega
      gi_wp2
      go_end0
      exact ⟨⟨_, rfl⟩, .inl hJk⟩
theorem valsI_yields (n : Nat) (hn : 1 ≤ n) {B D len cap : Nat} {a : Option Addr} {zs : List Int} (hz : zs.length = len) (hl : len ≤ 17592186044416) (w : World) (hB : B < D) (hD : D ≤ w.heap.size) (hT : Boxed w B 38 (.slice a len cap)) (hr : RdK .i64 D w a zs) (Ow : World → World → Prop) :
    YieldsO Fence.wide n Tryd.prog 55 #[.pointer (some ⟨B, 0, none⟩)] (fun k => #[.int .i64 (el zs k)]) len (Below D) Ow w := fun l J X W hW _ hY h0 =>
  valsI_in n hn l hz hl J X hY W ((hW.block B (by omega)).trans hT) (hr.below (hW.mono hD)) h0

/-- The text of a number as a string; the texts of numbers. -/
def wB (q x : Int) : Option ByteArray := if qOk q then some ⟨(textL x q.toNat).toArray⟩ else none
theorem textV_q (x : Int) {q : Int} (h : qOk q) : textV x q = textL x q.toNat := by unfold textV; rw [if_pos (show 0 ≤ q ∧ q ≤ 62 from h)]
theorem textV_nq (x : Int) {q : Int} (h : ¬ qOk q) : textV x q = [] := by unfold textV; rw [if_neg (show ¬ (0 ≤ q ∧ q ≤ 62) from h)]

set_option maxHeartbeats 1000000 in
theorem writeF_any (x q : Int) (b : Nat) (w : World) (hx : i64 x) (hb : Boxed w b 3 (.int .i64 q)) (hT : Lib.TabIs Tryd.prog w "internal/strconv.uint64pow10" .u64 Lib.pow10Tab) :
    Calls Tryd.prog 42 #[.int .i64 x, .pointer (some ⟨b, 0, none⟩)] w fun e w' => ((∃ s, wB q x = some s ∧ e = .returned (.tuple #[.string s, .bool true])) ∨ (wB q x = none ∧ ∃ s, e = .returned (.tuple #[.string s, .bool false]))) ∧ Grew w w' := by
  have c0 := hb.cell
  by_cases h : qOk q
  · have HE : Hid (wB q x = some ⟨(textL x q.toNat).toArray⟩) := Lib.hid (if_pos h)
    have HV := Lib.hid (textV_q x h)
    have hne : textL x q.toNat ≠ [] := text_ne x _
    generalize textL x q.toNat = t at *
    have hne1 : (t == ([] : List UInt8)) = false := by rw [beq_eq_false_iff_ne]; exact hne
    go_enter Tryd.func42, Tryd.ntmps42
    go_wp2_with fail
    refine (text_any x q _ hx.1 hx.2 hT).mono ?_
    rintro e w1 ⟨rfl, g1⟩
    rw [HV.out]
    go_wp2
    go_ret2
    exact ⟨.inl ⟨_, HE.out, rfl⟩, g1⟩
  · have HE : Hid (wB q x = none) := Lib.hid (if_neg h)
    have HV := Lib.hid (textV_nq x h)
    go_enter Tryd.func42, Tryd.ntmps42
    go_wp2_with fail
    refine (text_any x q _ hx.1 hx.2 hT).mono ?_
    rintro e w1 ⟨rfl, g1⟩
    rw [HV.out]
    go_wp2
    go_ret2
    exact ⟨.inr ⟨HE.out, _, rfl⟩, g1⟩
end Go.Proofs.YthdkanmpapioeaaDoor
