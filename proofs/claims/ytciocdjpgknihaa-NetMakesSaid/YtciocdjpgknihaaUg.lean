/- The method visit of package mat: it calls a function with each element of a right matrix and its place, row by row. Conditions: the function writes one block alone (and new memory), not the matrix's elements. -/
import Derived.Test.YtciocdjpgknihaaUe
import Derived.Test.YtciocdjpgknihaaUm
import Derived.Deep.CutBlock
import Derived.Deep.DeepCutAuto
namespace Go.Proofs.Ytciocdjpgknihaa
open Go.RowKit Go.Shelf
attribute [local go_sem] Oper.semAt_some

theorem grownBy_below' {a b c : World} {r : Option Nat} {B : Nat} (h : a.grownBy b r) (k : Below B b c) (hB : a.heap.size ≤ B) : a.grownBy c r :=
  ⟨k.os.trans h.os, k.tape.trans h.tape, k.output.trans h.output, Nat.le_trans h.size k.size, fun j hj hr => (k.block j (Nat.lt_of_lt_of_le hj hB)).trans (h.block j hj hr)⟩
theorem boxed_grown {W W' : World} {B g : Nat} {t : TypeId} {v : Value} (h : Boxed W B t v) (k : W.grownBy W' (some g)) (hne : B ≠ g) : Boxed W' B t v := (k.block B h.lt (fun e => hne (by injection e))).trans h
theorem boxed_below {W W' : World} {B D : Nat} {t : TypeId} {v : Value} (h : Boxed W B t v) (k : Below D W W') (hB : B < D) : Boxed W' B t v := (k.block B hB).trans h

set_option maxRecDepth 100000 in
set_option maxHeartbeats 4000000 in
theorem visit_any {gs : Nat} {caps : Array Value} (heg : ∀ args w, (callFunc gs args).run Try.prog w = .ok (.enter gs args) w) {R C b off len cap g : Nat} {zs : List Int} (w : World) (I : Nat → World → Prop)
    (hcap : cap ≤ 9223372036854775807) (hnc : len ≤ cap) (hlen : R * C = len) (hz : zs.length = len) (hC : 1 ≤ C) (hR2 : R ≤ 1048576) (hC2 : C ≤ 1048576) (hg : g < w.heap.size)
    (hI : ∀ k W W', I k W → Below w.heap.size W W' → I k W')
    (hrd : ∀ k W, I k W → Rd w.heap.size W (some ⟨b, off, none⟩) zs)
    (hgc : ∀ k W, I k W → ∃ cs t m, W.heap[g]? = some (.cells cs t m))
    (hsee : ∀ r c W, r < R → c < C → I (r * C + c) W → w.heap.size ≤ W.heap.size → Calls Try.prog gs (#[.int .i64 r, .int .i64 c, .int .i64 (el zs (r * C + c))] ++ caps) W fun e W' => (∃ v, e = .returned v) ∧ I (r * C + c + 1) W' ∧ W.grownBy W' (some g))
    (h0 : I 0 w) :
    Calls Try.prog 77 #[.agg #[.int .i64 R, .int .i64 C, .slice (some ⟨b, off, none⟩) len cap], .func (.func gs) #[] caps] w fun e w' => (∃ v, e = .returned v) ∧ I (R * C) w' ∧ w.grownBy w' (some g) := by
  have hF0 : Below w.heap.size w (((w.alloc (.cells #[.int .i64 R, .int .i64 C, .slice (some ⟨b, off, none⟩) len cap] 68)).alloc (.cells #[.func (.func gs) #[] caps] 114)).alloc (.cells #[.int .i64 R, .int .i64 C, .slice (some ⟨b, off, none⟩) len cap] 68)) :=
    (((Below.refl _ w).alloc (Nat.le_refl _) _).alloc (by simp) _).alloc (by simp; omega) _
  have hS0 : (((w.alloc (.cells #[.int .i64 R, .int .i64 C, .slice (some ⟨b, off, none⟩) len cap] 68)).alloc (.cells #[.func (.func gs) #[] caps] 114)).alloc (.cells #[.int .i64 R, .int .i64 C, .slice (some ⟨b, off, none⟩) len cap] 68)).heap.size = w.heap.size + 1 + 1 + 1 := by simp
  have hB1 := (Boxed.new (w.alloc (.cells #[.int .i64 R, .int .i64 C, .slice (some ⟨b, off, none⟩) len cap] 68)) 114 (.func (.func gs) #[] caps)).alloc (.cells #[.int .i64 R, .int .i64 C, .slice (some ⟨b, off, none⟩) len cap] 68)
  have hT2 := Three.new ((w.alloc (.cells #[.int .i64 R, .int .i64 C, .slice (some ⟨b, off, none⟩) len cap] 68)).alloc (.cells #[.func (.func gs) #[] caps] 114)) 68 (.int .i64 R) (.int .i64 C) (.slice (some ⟨b, off, none⟩) len cap)
  rw [World.size_alloc] at hB1
  rw [World.size_alloc, World.size_alloc] at hT2
  have HF0 := Lib.hid hF0
  have HS0 := Lib.hid hS0
  have HB1 := Lib.hid hB1
  have HT2 := Lib.hid hT2
  have HI0 := Lib.hid (hI 0 _ _ h0 hF0)
  clear hF0 hS0 hB1 hT2 h0
  refine (callsIn_wide (n := 9)).1 ?_
  refine callsIn_of_wp_marks Try.func77 rfl trivial ?_ rfl
  simp only [Try.ntmps77, List.size_toArray, List.length_cons, List.length_nil, Nat.reduceAdd, Nat.reduceSub, Array.replicate_succ, Array.replicate_zero, List.push_toArray, List.append_toArray, List.nil_append, List.cons_append]
  refine wpIn_wide.2 ?_
  go_wp2_with fail
  refine (rows_any (R : Int) (C : Int) _ len cap _).mono ?_
  rintro e w1 ⟨rfl, rfl⟩
  rw [World.size_alloc, World.size_alloc]
  generalize ((w.alloc (.cells #[.int .i64 R, .int .i64 C, .slice (some ⟨b, off, none⟩) len cap] 68)).alloc (.cells #[.func (.func gs) #[] caps] 114)).alloc (.cells #[.int .i64 R, .int .i64 C, .slice (some ⟨b, off, none⟩) len cap] 68) = W0 at *
  go_wp2_with fail
  refine (wpIn_wide (n := 9)).1 (range_closure (F := Fence.wide) (n := 9) rfl (by omega) (gf := 81) (lb := #[.pointer (some ⟨w.heap.size + 1 + 1, 0, none⟩)]) rfl trivial (enters_of Try.func81 (by kernel_rfl) rfl)
    (enc := rowAt b off C) (N := R) (Kp := Keeps (w.heap.size + 1 + 1)) (keeps_trans _) (keeps_below (by rw [HS0.out]; omega))
    (rows_yields 8 (by omega) hcap hnc (by omega) hC hR2 hC2 _ HT2.out) (fun _ => rfl)
    (fun k W => k ≤ R ∧ Hid (I (k * C) W) ∧ Hid (Boxed W (w.heap.size + 1) 114 (.func (.func gs) #[] caps)) ∧ Hid (w.grownBy W (some g)) ∧ w.heap.size + 1 + 1 < W.heap.size)
    (fun _ _ => False) ?hI ?hIx ⟨Nat.zero_le _, by rw [Nat.zero_mul]; exact HI0, HB1, Lib.hid (Grew.by' HF0.out _), by rw [HS0.out]; omega⟩ ?round ?done ?stop)
  case hI =>
    rintro k W W' ⟨h1, h2, h3, h4, h5⟩ k2
    have hs := k2.size
    rw [HS0.out] at k2
    exact ⟨h1, Lib.hid (hI _ _ _ h2.out (k2.mono (by omega))), Lib.hid (boxed_below h3.out k2 (by omega)), Lib.hid (grownBy_below' h4.out k2 (by omega)), Nat.lt_of_lt_of_le h5 hs⟩
  case hIx => exact fun _ _ _ h _ => h
  case round =>
    rintro l r V hi hr
    clear hi
    unfold rowAt
    gi_wp2
    refine ⟨trivial, ?_⟩
    rintro V2 ⟨hr2, HIr, HB, HGr, hs2⟩
    have HRC := Lib.hid hlen
    have HZ := Lib.hid hz
    have hsz : w.heap.size ≤ V2.heap.size := HGr.out.size
    clear hlen hz hr2
    gi_wp2
    gi_loopw [14] (fun i wr => ∃ c : Nat, c ≤ C ∧ i = .int .i64 (c : Int) ∧ Hid (I (r * C + c) wr) ∧ Hid (Boxed wr (w.heap.size + 1) 114 (.func (.func gs) #[] caps)) ∧ Hid (w.grownBy wr (some g)) ∧ Hid (V2.grownBy wr (some g))) (fun i _ => C - (intOf i).toNat)
    case atStart => exact ⟨0, Nat.zero_le _, by simp, HIr, HB, HGr, Lib.hid (grown_refl _ _)⟩
    case round =>
      obtain ⟨c, hc, rfl, HIc, HBc, HGc, HVc⟩ := hrel
      by_cases hlt : c < C
      · have hpl := place_lt hr hlt
        obtain ⟨b', off', hb', _, hcell⟩ := (hrd _ _ HIc.out).at (k := r * C + c) (by rw [HZ.out, ← HRC.out]; exact hpl)
        obtain ⟨rfl, rfl⟩ : b = b' ∧ off = off' := by injection hb' with hb'; injection hb' with h1 h2; exact ⟨h1, h2⟩
        rw [← Nat.add_assoc] at hcell
        have l0 := HBc.out.cell
        have HS := Lib.hid (hsee r c wr hr hlt HIc.out HGc.out.size)
        clear hb' hpl
        generalize el zs (r * C + c) = x at *
        gi_wp2_with fail
        refine ⟨trivial, (callsIn_of_calls HS.out).mono ?_⟩
        rintro e w3 ⟨⟨v, rfl⟩, hI3, hk3⟩
        have HI3 : Hid (I (r * C + (c + 1)) w3) := Lib.hid hI3
        have HB3 := Lib.hid (boxed_grown HBc.out hk3 (by omega))
        have HG3 := Lib.hid (grownBy_trans HGc.out hk3)
        have HV3 := Lib.hid (grownBy_trans HVc.out hk3)
        clear HS hI3 hk3
        gi_wp2
        go_roundw
        case rel => exact ⟨c + 1, by omega, by go_num, HI3, HB3, HG3, HV3⟩
        case measure => simp [intOf]; omega
      · obtain rfl : c = C := by omega
        gi_wp2
        refine ⟨KeepsOthers.of_grownBy HVc.out (fun j o e ho => ?_), HVc.out.block _ hs2 (fun e => by injection e with e; omega), by omega, ?_, HBc, HGc, Nat.lt_of_lt_of_le hs2 HVc.out.size⟩
        · injection e with e
          subst e
          obtain ⟨cs, t, m, hcs⟩ := hgc _ _ HIr.out
          rw [hcs] at ho
          injection ho with ho
          subst ho
          rfl
        · rw [Nat.add_mul, Nat.one_mul]
          exact HIc
  case done =>
    rintro D V hD ⟨hk, HIr, HB, HGr, hs2⟩ hK
    go_wp2
    refine ⟨by simp, .inl ⟨_, _, rfl, run_takeDeferred hK, ?_⟩⟩
    have hb : Below w.heap.size V (V.putObj D (.deferred none)) := below_put (by rw [HS0.out] at hD; omega) hK
    exact ⟨_, results_none rfl _ _ _, ⟨_, rfl⟩, hI _ _ _ HIr.out hb, grownBy_below' HGr.out hb (Nat.le_refl _)⟩
  case stop => exact fun _ _ _ _ h => h.elim
end Go.Proofs.Ytciocdjpgknihaa
