/- The iterator All of package draw: it hands over the draws that are not used, with their indices, and changes nothing; for a nil stream it hands over none. Condition: at most 2^44 draws. -/
import Derived.Test.YtfgkpbmjdgfdmaaSe
import Derived.Test.YtfgkpbmjdgfdmaaNr
namespace Go.Proofs.Ytfgkpbmjdgfdmaa
open Go.RowKit Go.Shelf
attribute [local go_sem] Oper.semAt_some

theorem equal_yield (d l : Nat) (w : World) : (Op.equalIn (d + 1) 56 (.func (.yield l) #[] #[]) .nilFunc).run Try.prog w = .ok false w := by
  simp [Op.equalIn, run_underlying Try.underlying56]
/-- yield is not nil. -/
theorem yield_some (l : Nat) (w : World) : (binOp .eql 56 (.func (.yield l) #[] #[]) .nilFunc).run Try.prog w = .ok (.bool false) w := by
  simp only [binOp]
  simp [Op.equal, Op.maxDepth, equal_yield 9999 l w]
/-- What All hands over in a round. -/
def drawAt (zs : List Int) (u k : Nat) : Array Value := #[.int .i64 ((u : Int) + (k : Int)), .int .u64 (el zs (u + k))]

set_option maxRecDepth 100000 in
set_option maxHeartbeats 2000000 in
theorem all_in (F : Fence) (n : Nat) (hF : F.fn 17) (hro : F.round = none) (hn : 1 ≤ n) (l : Nat) {D b u n₀ : Nat} {zs : List Int} (hl : zs.length ≤ 17592186044416) (hb : b < n₀) (J : Nat → World → Prop) (X : World → Prop)
    (hY : ∀ k V, J k V → k < zs.length - u → YieldAt F (n - 1) Try.prog l (drawAt zs u k) V fun e V' => (e = .returned (.bool true) ∧ J (k + 1) V' ∧ Below n₀ V V') ∨ (e = .returned (.bool false) ∧ X V'))
    (W : World) (hS : Stm D W b zs u) (h0 : J 0 W) :
    CallsIn F n Try.prog 17 #[.pointer (some ⟨b, 0, none⟩), .func (.yield l) #[] #[]] W fun e W' => (∃ v, e = .returned v) ∧ (J (zs.length - u) W' ∨ X W') := by
  have hu := hS.le
  have HS := Lib.hid hS
  obtain ⟨hD, _, a, c, hc, hm, ht, hr⟩ := hS
  have c1 := ht.c1
  have HT := Lib.hid ht
  have HR := Lib.hid hr
  clear ht hr
  have hys := yield_some l
  refine callsIn_of_wp Try.func17 rfl hF ?_ hro
  simp only [Try.ntmps17, List.size_toArray, List.length_cons, List.length_nil, Nat.reduceAdd, Nat.reduceSub, Array.replicate_succ, Array.replicate_zero, List.push_toArray, List.append_toArray, List.nil_append, List.cons_append]
  gi_wp2
  gi_loopw [4] (fun i wr => ∃ k : Nat, k ≤ zs.length - u ∧ i = .int .i64 ((u : Int) + (k : Int)) ∧ J k wr ∧ Hid (Below n₀ W wr)) (fun i _ => zs.length - (intOf i).toNat)
  case atStart => exact ⟨0, Nat.zero_le _, by simp, h0, Lib.hid (Below.refl _ _)⟩
  case round =>
    obtain ⟨k, hk, rfl, hJ, HG⟩ := hrel
    have c0 := (HG.out.cell (p := ⟨b, 0, none⟩) hb).trans HT.out.c0
    by_cases hlt : k < zs.length - u
    · obtain ⟨g, off, rfl, hg, hcell⟩ := (HR.out.below (HG.out.mono (by omega))).at (k := u + k) (by omega)
      obtain ⟨fn, tmps, assign, body, hy, hR⟩ := hY k wr hJ hlt
      unfold drawAt at hy
      generalize el zs (u + k) = z at *
      gi_wp2
      refine hR.mono ?_
      rintro e W3 (⟨rfl, hJ3, hk3⟩ | ⟨rfl, hX⟩)
      · have HG3 := Lib.hid (HG.out.trans hk3)
        gi_wp2
        go_roundw
        case rel => exact ⟨k + 1, by omega, by go_num, hJ3, HG3⟩
        case measure => simp [intOf]; omega
      · gi_wp2
        refine bodyPost_ret (results_none rfl _ _ _) rfl ?_
        exact ⟨⟨_, rfl⟩, .inr hX⟩
    · obtain rfl : k = zs.length - u := by omega
      gi_wp2
      go_end0
      exact ⟨⟨_, rfl⟩, .inl hJ⟩

theorem all_yields (F : Fence) (n : Nat) (hF : F.fn 17) (hro : F.round = none) (hn : 1 ≤ n) {D b u n₀ : Nat} {zs : List Int} (hl : zs.length ≤ 17592186044416) (hb : b < n₀) (w : World) (hS : Stm D w b zs u) :
    Yields F n Try.prog 17 (.pointer (some ⟨b, 0, none⟩)) (drawAt zs u) (zs.length - u) n₀ w := fun l J X W hW hY h0 =>
  all_in F n hF hro hn l hl hb J X hY W (hS.grow hW) h0

set_option maxHeartbeats 1000000 in
theorem all_nil_in (F : Fence) (n : Nat) (hF : F.fn 17) (hro : F.round = none) (l : Nat) (J : Nat → World → Prop) (X : World → Prop) (W : World) (h0 : J 0 W) :
    CallsIn F n Try.prog 17 #[.pointer none, .func (.yield l) #[] #[]] W fun e W' => (∃ v, e = .returned v) ∧ (J 0 W' ∨ X W') := by
  have hys := yield_some l
  refine callsIn_of_wp Try.func17 rfl hF ?_ hro
  simp only [Try.ntmps17, List.size_toArray, List.length_cons, List.length_nil, Nat.reduceAdd, Nat.reduceSub, Array.replicate_succ, Array.replicate_zero, List.push_toArray, List.append_toArray, List.nil_append, List.cons_append]
  gi_wp2
  refine bodyPost_ret (results_none rfl _ _ _) rfl ?_
  exact ⟨⟨_, rfl⟩, .inl h0⟩
theorem all_nil_yields (F : Fence) (n : Nat) (hF : F.fn 17) (hro : F.round = none) (enc : Nat → Array Value) (n₀ : Nat) (w : World) :
    Yields F n Try.prog 17 (.pointer none) enc 0 n₀ w := fun l J X W _ _ h0 => all_nil_in F n hF hro l J X W h0
end Go.Proofs.Ytfgkpbmjdgfdmaa
