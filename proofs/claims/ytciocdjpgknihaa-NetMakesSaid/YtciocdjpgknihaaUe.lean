/- The iterator rows of package mat: it hands over the rows of a matrix, with their indices, and makes nothing but new memory. Condition: R times C elements, at most 2^45. -/
import Derived.Test.YtciocdjpgknihaaUb
import Derived.Test.YtciocdjpgknihaaNd
namespace Go.Proofs.Ytciocdjpgknihaa
open Go.RowKit Go.Shelf
attribute [local go_sem] Oper.semAt_some

theorem rows_any (R C : Int) (a : Option Addr) (n cap : Nat) (w : World) :
    Calls Try.prog 62 #[.agg #[.int .i64 R, .int .i64 C, .slice a n cap]] w fun e w' => e = .returned (.func (.func 81) #[] #[.pointer (some ⟨w.heap.size, 0, none⟩)]) ∧ w' = w.alloc (.cells #[.int .i64 R, .int .i64 C, .slice a n cap] 68) := by
  go_enter Try.func62, Try.ntmps62
  go_wp2
  go_ret
  exact ⟨rfl, rfl⟩

/-- What the iterator hands over in a round. -/
def rowAt (b off C k : Nat) : Array Value := #[.int .i64 k, .slice (some ⟨b, off + k * C, none⟩) C C]

set_option maxRecDepth 100000 in
set_option maxHeartbeats 2000000 in
theorem rows_in (n : Nat) (hn : 1 ≤ n) (l : Nat) {B R C b off len cap : Nat} (hcap : cap ≤ 9223372036854775807) (hnc : len ≤ cap) (hlen : R * C ≤ len) (hC : 1 ≤ C) (hR2 : R ≤ 1048576) (hC2 : C ≤ 1048576) (J : Nat → World → Prop) (X : World → Prop)
    (hJ : ∀ k V V', J k V → Grew V V' → J k V')
    (hY : ∀ k V, J k V → k < R → YieldAt Fence.wide (n - 1) Try.prog l (rowAt b off C k) V fun e V' => (e = .returned (.bool true) ∧ J (k + 1) V' ∧ V'.heap[B]? = V.heap[B]?) ∨ (e = .returned (.bool false) ∧ X V'))
    (W : World) (hT : Three W B 68 (.int .i64 R) (.int .i64 C) (.slice (some ⟨b, off, none⟩) len cap)) (h0 : J 0 W) :
    CallsIn Fence.wide n Try.prog 81 #[.func (.yield l) #[] #[], .pointer (some ⟨B, 0, none⟩)] W fun e W' => (∃ v, e = .returned v) ∧ (J R W' ∨ X W') := by
  have HT := Lib.hid hT
  have c0 := hT.c0
  clear hT
  refine callsIn_of_wp Try.func81 rfl trivial ?_ rfl
  simp only [Try.ntmps81, List.size_toArray, List.length_cons, List.length_nil, Nat.reduceAdd, Nat.reduceSub, Array.replicate_succ, Array.replicate_zero, List.push_toArray, List.append_toArray, List.nil_append, List.cons_append]
  gi_wp2
  gi_loopw [6] (fun i wr => ∃ k : Nat, k ≤ R ∧ i = .int .i64 (k : Int) ∧ J k wr ∧ Hid (Three wr B 68 (.int .i64 R) (.int .i64 C) (.slice (some ⟨b, off, none⟩) len cap))) (fun i _ => R - (intOf i).toNat)
  case atStart => exact ⟨0, Nat.zero_le _, by simp, h0, HT⟩
  case round =>
    clear c0
    obtain ⟨k, hk, rfl, hJk, HTk⟩ := hrel
    by_cases hlt : k < R
    · have c0 := HTk.out.c0
      have c1 := HTk.out.c1
      have c2 := HTk.out.c2
      have HE := Lib.hid (Nat.le_trans (row_end (C := C) hlt) hlen)
      gi_wp2_with fail
      refine ⟨trivial, (callsIn_wide.2 (row_any (R := (R : Int)) wr rfl rfl hC HE.out hnc hcap (by omega) hC2)).mono ?_⟩
      rintro e w1 ⟨rfl, g1⟩
      have HT1 := Lib.hid (HTk.out.grow g1)
      have hJ1 := hJ k _ _ hJk g1
      clear g1 hJk c0 c1 c2
      obtain ⟨fn, tmps, assign, body, hy, hR⟩ := hY k w1 hJ1 hlt
      unfold rowAt at hy
      gi_wp2
      refine hR.mono ?_
      rintro e W3 (⟨rfl, hJ3, hk3⟩ | ⟨rfl, hX⟩)
      · have HT3 : Hid (Three W3 B 68 (.int .i64 R) (.int .i64 C) (.slice (some ⟨b, off, none⟩) len cap)) := Lib.hid (hk3.trans HT1.out)
        gi_wp2
        go_roundw
        case rel => exact ⟨k + 1, by omega, by go_num, hJ3, HT3⟩
        case measure => simp [intOf]; omega
      · gi_wp2
        refine bodyPost_ret (results_none rfl _ _ _) rfl ?_
        exact ⟨⟨_, rfl⟩, .inr hX⟩
    · obtain rfl : k = R := by omega
      gi_wp2
      go_end0
      exact ⟨⟨_, rfl⟩, .inl hJk⟩

/-- What the iterator wants kept: its box. -/
def Keeps (B : Nat) (V V' : World) : Prop := V'.heap[B]? = V.heap[B]?
theorem keeps_trans (B : Nat) (x y z : World) (h : Keeps B x y) (k : Keeps B y z) : Keeps B x z := Eq.trans k h
theorem keeps_below {B : Nat} {w : World} (hB : B < w.heap.size) (x y : World) (h : Below w.heap.size x y) : Keeps B x y := h.block B hB
theorem rows_yields (n : Nat) (hn : 1 ≤ n) {B R C b off len cap : Nat} (hcap : cap ≤ 9223372036854775807) (hnc : len ≤ cap) (hlen : R * C ≤ len) (hC : 1 ≤ C) (hR2 : R ≤ 1048576) (hC2 : C ≤ 1048576) (w : World)
    (hT : Three w B 68 (.int .i64 R) (.int .i64 C) (.slice (some ⟨b, off, none⟩) len cap)) :
    YieldsC Fence.wide n Try.prog 81 #[.pointer (some ⟨B, 0, none⟩)] (rowAt b off C) R (Keeps B) w := fun l J X W hW hJ hY h0 =>
  rows_in n hn l hcap hnc hlen hC hR2 hC2 J X hJ hY W (hT.grow hW) h0

set_option maxHeartbeats 1000000 in
/-- Without rows nothing is handed over. -/
theorem rows_none_in (n : Nat) (l : Nat) {B : Nat} {C v : Value} (J : Nat → World → Prop) (X : World → Prop) (W : World) (hT : Three W B 68 (.int .i64 0) C v) (h0 : J 0 W) :
    CallsIn Fence.wide n Try.prog 81 #[.func (.yield l) #[] #[], .pointer (some ⟨B, 0, none⟩)] W fun e W' => (∃ v, e = .returned v) ∧ (J 0 W' ∨ X W') := by
  have c0 := hT.c0
  clear hT
  refine callsIn_of_wp Try.func81 rfl trivial ?_ rfl
  simp only [Try.ntmps81, List.size_toArray, List.length_cons, List.length_nil, Nat.reduceAdd, Nat.reduceSub, Array.replicate_succ, Array.replicate_zero, List.push_toArray, List.append_toArray, List.nil_append, List.cons_append]
  gi_wp2
  gi_loopw [6] (fun i wr => i = .int .i64 0 ∧ J 0 wr) (fun i _ => 0)
  case atStart => exact ⟨rfl, h0⟩
  case round =>
    obtain ⟨rfl, hJ⟩ := hrel
    gi_wp2
    go_end0
    exact ⟨⟨_, rfl⟩, .inl hJ⟩
theorem rows_none_yields (n : Nat) {B : Nat} {C v : Value} (w : World) (hT : Three w B 68 (.int .i64 0) C v) (enc : Nat → Array Value) :
    YieldsC Fence.wide n Try.prog 81 #[.pointer (some ⟨B, 0, none⟩)] enc 0 (Keeps B) w := fun l J X W hW _ _ h0 =>
  rows_none_in n l J X W (hT.grow hW) h0
end Go.Proofs.Ytciocdjpgknihaa
