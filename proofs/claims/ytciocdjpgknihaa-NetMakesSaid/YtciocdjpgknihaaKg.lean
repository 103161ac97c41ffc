/- slices.Backward at vectors: the iterator hands over the vectors with their indices, from the last one on, and makes no memory. Condition: the vectors' slices lie in a block that a round leaves. -/
import Derived.Test.YtciocdjpgknihaaKf
namespace Go.Proofs.Ytciocdjpgknihaa
open Go.RowKit Go.Shelf
attribute [local go_sem] Oper.semAt_some

theorem backward_any (a : Option Addr) (n c : Nat) (w : World) :
    Calls Try.prog 54 #[.slice a n c] w fun e w' => e = .returned (.func (.func 75) #[] #[.pointer (some ⟨w.heap.size, 0, none⟩)]) ∧ w' = w.alloc (.cells #[.slice a n c] 35) := by
  go_enter Try.func54, Try.ntmps54
  go_wp2
  go_ret
  exact ⟨rfl, rfl⟩

/-- What the iterator hands over in a round. -/
def backAt (vs : List Vec) (k : Nat) : Array Value := #[.int .i64 (vs.length - 1 - k : Nat), .slice (va vs (vs.length - 1 - k)).a (va vs (vs.length - 1 - k)).zs.length (va vs (vs.length - 1 - k)).cap]
/-- What it wants kept: its box and the slices. -/
def Keeps2 (B hb : Nat) (V V' : World) : Prop := V'.heap[B]? = V.heap[B]? ∧ V'.heap[hb]? = V.heap[hb]?
theorem keeps2_trans (B hb : Nat) (x y z : World) (h : Keeps2 B hb x y) (k : Keeps2 B hb y z) : Keeps2 B hb x z := ⟨Eq.trans k.1 h.1, Eq.trans k.2 h.2⟩
theorem keeps2_below {B hb : Nat} {w : World} (hB : B < w.heap.size) (hH : hb < w.heap.size) (x y : World) (h : Below w.heap.size x y) : Keeps2 B hb x y := ⟨h.block B hB, h.block hb hH⟩

set_option maxRecDepth 100000 in
set_option maxHeartbeats 2000000 in
theorem back_in (n : Nat) (hn : 1 ≤ n) (l : Nat) {B hb off cap : Nat} {vs : List Vec} (hl : vs.length ≤ 1048576) (hcap : vs.length ≤ cap) (J : Nat → World → Prop) (X : World → Prop)
    (hY : ∀ k V, J k V → k < vs.length → YieldAt Fence.wide (n - 1) Try.prog l (backAt vs k) V fun e V' => (e = .returned (.bool true) ∧ J (k + 1) V' ∧ Keeps2 B hb V V') ∨ (e = .returned (.bool false) ∧ X V'))
    (W : World) (hT : One W B 35 (.slice (some ⟨hb, off, none⟩) vs.length cap)) (hH : ∀ j, j < vs.length → W.cell? ⟨hb, off + j, none⟩ = some (.slice (va vs j).a (va vs j).zs.length (va vs j).cap)) (h0 : J 0 W) :
    CallsIn Fence.wide n Try.prog 75 #[.func (.yield l) #[] #[], .pointer (some ⟨B, 0, none⟩)] W fun e W' => (∃ v, e = .returned v) ∧ (J vs.length W' ∨ X W') := by
  obtain ⟨N, hN⟩ : ∃ N, vs.length = N := ⟨_, rfl⟩
  have HN := Lib.hid hN
  have HT := Lib.hid hT
  have HH := Lib.hid hH
  have HY := Lib.hid hY
  rw [hN] at HT HH HY hl hcap ⊢
  have c0 := HT.out.c0
  clear hT hH hY hN
  refine callsIn_of_wp Try.func75 rfl trivial ?_ rfl
  simp only [Try.ntmps75, List.size_toArray, List.length_cons, List.length_nil, Nat.reduceAdd, Nat.reduceSub, Array.replicate_succ, Array.replicate_zero, List.push_toArray, List.append_toArray, List.nil_append, List.cons_append]
  gi_wp2
  gi_loopw [3] (fun i wr => ∃ k : Nat, k ≤ N ∧ i = .int .i64 ((N : Int) - 1 - (k : Int)) ∧ J k wr ∧ Hid (One wr B 35 (.slice (some ⟨hb, off, none⟩) N cap)) ∧ Hid (∀ j, j < N → wr.cell? ⟨hb, off + j, none⟩ = some (.slice (va vs j).a (va vs j).zs.length (va vs j).cap))) (fun i _ => (intOf i + 1).toNat)
  case atStart => exact ⟨0, Nat.zero_le _, by go_num, h0, HT, HH⟩
  case round =>
    clear c0
    obtain ⟨k, hk, rfl, hJk, HTk, HHk⟩ := hrel
    by_cases hlt : k < N
    · obtain ⟨j, hj⟩ : ∃ j, N - 1 - k = j := ⟨_, rfl⟩
      have hji : (N : Int) - 1 - (k : Int) = (j : Int) := by omega
      have hjN : j < N := by omega
      have HJ : Hid ((j : Int) - 1 = (N : Int) - 1 - ((k + 1 : Nat) : Int)) := Lib.hid (by omega)
      have hH0 := HHk.out j hjN
      have c0 := HTk.out.c0
      obtain ⟨fn, tmps, assign, body, hy, hR⟩ := HY.out k wr hJk hlt
      unfold backAt at hy
      rw [HN.out, hj] at hy
      rw [hji]
      generalize (va vs j).a = va1 at *
      generalize (va vs j).zs.length = vn1 at *
      generalize (va vs j).cap = vc1 at *
      clear hj hji hJk
      gi_wp2
      refine hR.mono ?_
      rintro e W3 (⟨rfl, hJ3, hk3, hk4⟩ | ⟨rfl, hX⟩)
      · have HT3 : Hid (One W3 B 35 (.slice (some ⟨hb, off, none⟩) N cap)) := Lib.hid (hk3.trans HTk.out)
        have HH3 : Hid (∀ j, j < N → W3.cell? ⟨hb, off + j, none⟩ = some (.slice (va vs j).a (va vs j).zs.length (va vs j).cap)) := Lib.hid (fun j hj => (World.cell?_of_block (a := ⟨hb, off + j, none⟩) hk4).trans (HHk.out j hj))
        gi_wp2
        go_roundw
        case rel => exact ⟨k + 1, by omega, by rw [← HJ.out], hJ3, HT3, HH3⟩
        case measure => simp [intOf]
      · gi_wp2
        refine bodyPost_ret (results_none rfl _ _ _) rfl ?_
        exact ⟨⟨_, rfl⟩, .inr hX⟩
    · obtain rfl : k = N := by omega
      rw [show (k : Int) - 1 - (k : Int) = -1 by omega]
      gi_wp2
      go_end0
      exact ⟨⟨_, rfl⟩, .inl hJk⟩

theorem back_yields (n : Nat) (hn : 1 ≤ n) {B hb off cap : Nat} {vs : List Vec} (hl : vs.length ≤ 1048576) (hcap : vs.length ≤ cap) (w : World)
    (hT : One w B 35 (.slice (some ⟨hb, off, none⟩) vs.length cap)) (hH : ∀ j, j < vs.length → w.cell? ⟨hb, off + j, none⟩ = some (.slice (va vs j).a (va vs j).zs.length (va vs j).cap)) (hb' : hb < w.heap.size) :
    YieldsC Fence.wide n Try.prog 75 #[.pointer (some ⟨B, 0, none⟩)] (backAt vs) vs.length (Keeps2 B hb) w := fun l J X W hW _ hY h0 =>
  back_in n hn l hl hcap J X hY W (hT.grow hW) (fun j hj => (Below.cell hW (p := ⟨hb, off + j, none⟩) hb').trans (hH j hj)) h0
end Go.Proofs.Ytciocdjpgknihaa
