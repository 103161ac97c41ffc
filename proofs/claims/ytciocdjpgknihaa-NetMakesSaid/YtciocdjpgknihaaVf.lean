/- Sum of vectors, Add, and the statements' alive: Sum returns the sum of the vectors and whether there is one; Add leaves it in its vector and changes nothing else. Conditions: the vectors have at most 2^45 elements, each within the bounds of int64. -/
import Derived.Test.YtciocdjpgknihaaVe
namespace Go.Proofs.Ytciocdjpgknihaa
open Go.RowKit

/-- A list of vectors that can be read and that are not too long. -/
structure Lot (w : World) (l : Option Addr) (c : Nat) (vs : List Vec) : Prop where
  few : vs.length ≤ 35184372088832
  cap : vs.length ≤ c
  short : Short vs
  heads : Heads w.heap.size w l vs
  bodies : Bodies w.heap.size w vs
  fit : ∀ i, i < vs.length → Fit (va vs i).zs
theorem Lot.grow {w w' : World} {l : Option Addr} {c : Nat} {vs : List Vec} (h : Lot w l c vs) (g : Grew w w') : Lot w' l c vs := ⟨h.few, h.cap, h.short, h.heads.grow g, h.bodies.grow g, h.fit⟩
theorem Buf.none (B : Nat) (W : World) : Buf B W none 0 0 [] := World.ownsRow_nil _ _ _ _

set_option maxHeartbeats 1000000 in
theorem vsum_any (l : Option Addr) (c : Nat) (vs : List Vec) (w : World) (h : Lot w l c vs) :
    Calls Try.prog 71 #[.slice l vs.length c] w fun e w' => (∃ a cap, e = .returned (.tuple #[.slice a (sumV vs).length cap, .bool (okV vs)]) ∧ Buf w.heap.size w' a (sumV vs).length cap (sumV vs)) ∧ Grew w w' := by
  have HL := Lib.hid h
  clear h
  by_cases h0 : vs.length = 0
  · obtain rfl : vs = [] := List.eq_nil_of_length_eq_zero h0
    have hl : ([] : List Vec).length = 0 := rfl
    clear HL h0
    go_enter Try.func71, Try.ntmps71
    go_wp2
    go_ret2
    exact ⟨⟨none, 0, rfl, Buf.none _ _⟩, Grew.refl _⟩
  · obtain ⟨b, off, rfl, hb, hc⟩ := HL.out.heads.at (k := 0) (by omega)
    rw [Nat.add_zero] at hc
    obtain ⟨n, hn⟩ : ∃ n, (va vs 0).zs.length = n := ⟨_, rfl⟩
    have HN := Lib.hid hn
    rw [hn] at hc
    clear hn
    cases hm : mis n vs vs.length with
    | true =>
      have HM := Lib.hid hm
      have HO : Hid (okV vs = false) := Lib.hid (by unfold okV; rw [HN.out, hm]; rfl)
      clear hm
      go_enter Try.func71, Try.ntmps71
      go_wp2_with fail
      refine (contains_any _ n _ _ c vs _ HL.out.few HL.out.heads).mono ?_
      rintro e w1 ⟨rfl, rfl⟩
      rw [HM.out]
      go_wp2
      go_ret2
      rw [sumV_no HO.out, HO.out]
      exact ⟨⟨none, 0, rfl, Buf.none _ _⟩, Grew.refl _⟩
    | false =>
      have HM := Lib.hid hm
      have HO : Hid (okV vs = true) := Lib.hid (by unfold okV; rw [HN.out, hm]; rfl)
      have HI : Hid (∀ i, i < vs.length → (va vs i).zs.length = n) := Lib.hid (mis_no hm)
      have HV : Hid (sumV vs = tot vs n) := Lib.hid (by rw [sumV_yes HO.out, HN.out])
      clear hm
      go_enter Try.func71, Try.ntmps71
      go_wp2_with fail
      refine (contains_any _ n _ _ c vs _ HL.out.few HL.out.heads).mono ?_
      rintro e w1 ⟨rfl, rfl⟩
      rw [HM.out]
      go_wp2_with fail
      refine (fold_any _ c n vs _ HL.out.short HL.out.few (by omega) HL.out.cap HL.out.heads HL.out.bodies HI.out HL.out.fit).mono ?_
      rintro e w1 ⟨⟨g, rfl, B1⟩, g1⟩
      have HB := Lib.hid B1
      clear B1
      go_wp2
      go_ret2
      rw [HV.out, HO.out, tot_len]
      exact ⟨⟨_, _, rfl, HB.out⟩, g1⟩

theorem heads_new (t : TypeId) (w : World) (vs : List Vec) : Heads (w.alloc (.cells (vs.map fun v => Value.slice v.a v.zs.length v.cap).toArray t)).heap.size (w.alloc (.cells (vs.map fun v => Value.slice v.a v.zs.length v.cap).toArray t)) (some ⟨w.heap.size, 0, none⟩) vs := by
  refine .inr ⟨w.heap.size, 0, rfl, by simp, fun j hj => ?_⟩
  rw [Nat.zero_add, World.cell?_alloc_new, List.getElem?_toArray, List.getElem?_map, va_lt hj]
  rfl
theorem va_zero (v : Vec) (vs : List Vec) : va (v :: vs) 0 = v := rfl
theorem va_succ (v : Vec) (vs : List Vec) (k : Nat) : va (v :: vs) (k + 1) = va vs k := rfl
theorem all_two {p : Nat → Prop} (h0 : p 0) (h1 : p 1) : ∀ i, i < 2 → p i := fun i hi => by
  have : i = 0 ∨ i = 1 := by omega
  rcases this with rfl | rfl
  · exact h0
  · exact h1
/-- Two vectors in a new block. -/
theorem lot_two (t : TypeId) (w : World) (v1 v2 : Vec) (s1 : v1.zs.length ≤ 35184372088832) (s2 : v2.zs.length ≤ 35184372088832) (r1 : Rd w.heap.size w v1.a v1.zs) (r2 : Rd w.heap.size w v2.a v2.zs) (f1 : Fit v1.zs) (f2 : Fit v2.zs) :
    Lot (w.alloc (.cells #[.slice v1.a v1.zs.length v1.cap, .slice v2.a v2.zs.length v2.cap] t)) (some ⟨w.heap.size, 0, none⟩) 2 [v1, v2] := by
  have g : Grew w (w.alloc (.cells #[.slice v1.a v1.zs.length v1.cap, .slice v2.a v2.zs.length v2.cap] t)) := (Grew.refl w).alloc _
  exact ⟨by simp, Nat.le_refl _, all_two s1 s2, heads_new _ w [v1, v2], all_two (r1.grow g) (r2.grow g), all_two f1 f2⟩
theorem ok_two (v1 v2 : Vec) : okV [v1, v2] = decide (v1.zs.length = v2.zs.length) := by
  simp [okV, mis, va]
theorem copy_nothing {n cap : Nat} {W : World} {a s : Option Addr} {scap : Nat} : (Builtin.copy_ #[32, 32] 3 #[.slice a n cap, .slice s 0 scap]).run Try.prog W = .ok (.int .i64 0) W :=
  run_copy_none W _ _ _ 2 a s n cap 0 scap Try.underlying32 (by kernel_rfl) (by simp)

end Go.Proofs.Ytciocdjpgknihaa
