/-
  For all draws and numbers of uses and of rounds, sakialaw05.DrawAlls(l, used, stop) returns true. No condition.
-/
import Derived.Test.YtfgkpbmjdgfdmaaRows
import Derived.Test.YtfgkpbmjdgfdmaaSf
import Derived.Deep.CutBlock
import Derived.Deep.DeepCutAuto
import Derived.WalkKit
import Derived.ProofKit
import Derived.OpenShut
import Derived.ShutString
import Derived.ChangeOld
import Derived.Below
import Derived.SizedLaws
namespace Go.Proofs.Ytfgkpbmjdgfdmaa.drawAlls
open Go.ChangeShapes Go.WideShapes Go.ChangeAt Go.RowKit Go.Shelf
open Go.Proofs.Ytfgkpbmjdgfdmaa
set_option linter.unusedVariables false

theorem own : ownKnob Try.prog.godebug = none := by kernel_rfl
theorem laidOut : laidOutB Try.prog = true := by kernel_rfl

attribute [local go_sem] Oper.semAt_some
/-- The blocks that the statement itself has made first: its list, its bound, its result. -/
def Frm (w W : World) (a0 : Option Addr) (len0 cap0 n2 : Nat) : Prop :=
  Boxed W w.heap.size 22 (.slice a0 len0 cap0) ∧ Boxed W (w.heap.size + 1) 5 (.int .u8 n2) ∧ Boxed W (w.heap.size + 1 + 1) 4 (.bool false) ∧ Below w.heap.size w W
theorem Frm.below {w W W' : World} {a0 : Option Addr} {len0 cap0 n2 : Nat} (h : Frm w W a0 len0 cap0 n2) (g : Below (w.heap.size + 1 + 1 + 1) W W') : Frm w W' a0 len0 cap0 n2 :=
  ⟨(g.block _ (by omega)).trans h.1, (g.block _ (by omega)).trans h.2.1, (g.block _ (by omega)).trans h.2.2.1, h.2.2.2.trans (g.mono (by omega))⟩
theorem Frm.grow {w W W' : World} {a0 : Option Addr} {len0 cap0 n2 : Nat} (h : Frm w W a0 len0 cap0 n2) (g : Grew W W') : Frm w W' a0 len0 cap0 n2 :=
  h.below (Below.mono g h.2.2.1.lt)

set_option maxHeartbeats 2000000 in
theorem walk (a0 : Option Addr) (len0 cap0 : Nat) (zs0 : List Int) (a1 : Int) (a2 : Int) (w : World) (w0 : CameK .u64 w a0 len0 cap0 zs0) (w1 : (Lit.int .u8 a1).wf = true) (w2 : (Lit.int .u8 a2).wf = true) :
    Calls Try.prog 6 #[.slice a0 len0 cap0, .int .u8 a1, .int .u8 a2] w fun e w' => e = .returned (.bool true) ∧ Below w.heap.size w w' := by
  obtain ⟨hl0, hlc0, hr0, hrd0, hnn0, hwf0⟩ := w0
  subst hl0
  have hu : U64 zs0 := fun j hj => u64_wf (hwf0 j hj)
  have hz17 : zs0.length ≤ 17592186044416 := by omega
  have hcm : cap0 ≤ 9223372036854775807 := by omega
  have HX := Lib.hid hrd0
  clear hrd0 hwf0

  have hu8 := u8_in w1
  obtain ⟨n1, rfl⟩ := Int.eq_ofNat_of_zero_le (a := a1) (by omega)
  have hn1 : n1 ≤ 255 := by omega
  have hv8 := u8_in w2
  obtain ⟨n2, rfl⟩ := Int.eq_ofNat_of_zero_le (a := a2) (by omega)
  have hn2 : n2 ≤ 255 := by omega
  clear hu8 hv8 w1 w2

  have hF0 : Frm w (((w.alloc (.cells #[.slice a0 zs0.length cap0] 22)).alloc (.cells #[.int .u8 n2] 5)).alloc (.cells #[.bool false] 4)) a0 zs0.length cap0 n2 := by
    refine ⟨((Boxed.new w _ _).alloc _).alloc _, ?_, ?_, (((Below.refl _ w).alloc (Nat.le_refl _) _).alloc (by simp) _).alloc (by simp; omega) _⟩
    · have := (Boxed.new (w.alloc (.cells #[.slice a0 zs0.length cap0] 22)) 5 (.int .u8 n2)).alloc (.cells #[.bool false] 4)
      rwa [World.size_alloc] at this
    · have := Boxed.new ((w.alloc (.cells #[.slice a0 zs0.length cap0] 22)).alloc (.cells #[.int .u8 n2] 5)) 4 (.bool false)
      rwa [World.size_alloc, World.size_alloc] at this
  have hs0 : (((w.alloc (.cells #[.slice a0 zs0.length cap0] 22)).alloc (.cells #[.int .u8 n2] 5)).alloc (.cells #[.bool false] 4)).heap.size = w.heap.size + 1 + 1 + 1 := by simp
  refine (callsIn_wide (n := 5)).1 ?_
  refine callsIn_of_wp_marks Try.func6 rfl trivial ?_ rfl
  simp only [Try.ntmps6, List.size_toArray, List.length_cons, List.length_nil, Nat.reduceAdd, Nat.reduceSub, Array.replicate_succ, Array.replicate_zero, List.push_toArray, List.append_toArray, List.nil_append, List.cons_append]
  refine wpIn_wide.2 ?_
  go_wp2_with fail
  have HF0 := Lib.hid hF0
  have HX0 := Lib.hid ((HX.out.below hF0.2.2.2).mono hF0.2.2.2.size)
  generalize ((w.alloc (.cells #[.slice a0 zs0.length cap0] 22)).alloc (.cells #[.int .u8 n2] 5)).alloc (.cells #[.bool false] 4) = W0 at *
  clear hF0
  refine (new_any a0 cap0 zs0 _ hz17 HX0.out).mono ?_
  rintro e w1 ⟨⟨b, rfl, hb, hs⟩, g1⟩
  rw [hs0] at hb
  have hbl := hs.lt
  have hf1 := HF0.out.grow g1
  have HF1 := Lib.hid hf1
  have l1 := hf1.1.cell
  have HSx := Lib.hid hs
  clear g1 hs hf1
  by_cases hA : 300 < zs0.length
  · go_wp2_with fail
    refine (dalive_any _).mono ?_
    rintro e w2 ⟨rfl, g2⟩
    have hf2 := HF1.out.grow g2
    have r0 := hf2.2.2.1.cell
    have rf := hf2.2.2.1.frozen
    have HF2 := Lib.hid hf2
    clear g2 hf2
    go_wp2
    have z := (HF2.out.2.2.1.set (.bool true)).cell
    refine ⟨.bool true, by simp [results, Try.results6, go_sem, z], rfl, ?_⟩
    exact HF2.out.2.2.2.setCell (p := ⟨w.heap.size + 1 + 1, 0, none⟩) (show w.heap.size ≤ w.heap.size + 1 + 1 by omega) _
  · have gT : Grew w1 (w1.alloc (.cells #[(.slice a0 zs0.length cap0), .int .i64 0] 28)) := (Grew.refl _).alloc _
    have HS1 := Lib.hid (HSx.out.grow gT)
    have HT1 := Lib.hid (Two.new w1 28 (.slice a0 zs0.length cap0) (.int .i64 0))
    have HFA := Lib.hid (HF1.out.grow gT)
    clear gT
    go_wp2_with fail
    go_loopw [30] (fun i wr => ∃ k u : Nat, k ≤ n1 ∧ u ≤ zs0.length ∧ i = .int .i64 k ∧ Hid (Stm b wr b zs0 u) ∧ Hid (Two wr w1.heap.size 28 (.slice a0 zs0.length cap0) (.int .i64 u)) ∧ Hid (Frm w wr a0 zs0.length cap0 n2)) (fun i _ => n1 - (intOf i).toNat)
    case atStart => exact ⟨0, 0, Nat.zero_le _, Nat.zero_le _, rfl, HS1, HT1, HFA⟩
    case round =>
      obtain ⟨k, u, hk, huz, rfl, HS, HT, HF⟩ := hrel
      by_cases hlt : k < n1
      · go_wp2_with fail
        refine (next_any 9 hz17 hu (by decide) HS.out).mono ?_
        rintro e w2 ⟨rfl, hs2, g2⟩
        have HS2 := Lib.hid hs2
        have ht2 := HT.out.grown g2 (by intro e; injection e with e; omega)
        have HT2 := Lib.hid ht2
        have t0 := ht2.c0
        have t1 := ht2.c1
        have HF2 := Lib.hid (HF.out.below (grownBy_below g2 (B := w.heap.size + 1 + 1 + 1) hb HF.out.2.2.1.lt))
        clear hs2 g2 ht2
        go_wp2_with fail
        refine (rnext_any a0 cap0 u zs0 9 _ hz17 huz hu (by decide) ((HX.out.below HF2.out.2.2.2).mono HF2.out.2.2.2.size)).mono ?_
        rintro e w3 ⟨rfl, g3⟩
        have huz' := nxN_le (n := 9) huz
        generalize outN zs0 u 9 = x
        generalize okN zs0 u 9 = ok
        generalize nxN zs0 u 9 = u' at *
        have HS3 := Lib.hid (HS2.out.grow g3)
        have ht3 := HT2.out.grow g3
        have HT3 := Lib.hid ht3
        have qf0 := ht3.f0
        have qf1 := ht3.f1
        have q0 := ht3.c0
        have q1 := ht3.c1
        have HF3 := Lib.hid (HF2.out.grow g3)
        clear ht3 g3 t0 t1
        have HS4 := Lib.hid (HS3.out.aside (r := w1.heap.size) (by omega) (by omega) (.slice a0 zs0.length cap0) (.int .i64 u'))
        have HT4 := Lib.hid (HT3.out.both (.slice a0 zs0.length cap0) (.int .i64 u'))
        have HF4 := Lib.hid (HF3.out.below (below_both (Below.refl _ _) (show w.heap.size + 1 + 1 + 1 ≤ w1.heap.size by omega) (.slice a0 zs0.length cap0) (.int .i64 u')))
        go_wp2_with fail
        go_roundw
        case rel => exact ⟨k + 1, u', by omega, huz', by go_num, HS4, HT4, HF4⟩
        case measure => simp [intOf]; omega
      · obtain rfl : k = n1 := by omega
        have hbw := HT.out.lt
        have HS0 := HS
        have HT0 := HT
        have HF0' := HF
        have huz0 := huz
        clear HS HT HF hk hlt huz HS1 HT1 HFA
        rename World => W1
        have gN : Grew W1 (W1.alloc (.cells #[.int .i64 0] 3)) := (Grew.refl _).alloc _
        have HSs := Lib.hid (HS0.out.grow gN)
        have HTs := Lib.hid (HT0.out.grow gN)
        have HFs := Lib.hid (HF0'.out.grow gN)
        have HNs := Lib.hid (Boxed.new W1 3 (.int .i64 0))
        clear gN
        go_wp2_with fail
        refine (wpIn_wide (n := 5)).1 (range_method (F := Fence.wide) (n := 5) rfl (by omega) (gf := 17) (rc := .pointer (some ⟨b, 0, none⟩)) rfl trivial (enters_of Try.func17 (by kernel_rfl) rfl) (n₀ := W1.heap.size) (by simp) (all_yields Fence.wide 4 trivial rfl (by omega) hz17 (by omega) _ HSs.out) (fun _ => rfl)
          (fun k W => k ≤ n2 ∧ Hid (Frm w W a0 zs0.length cap0 n2) ∧ Hid (Stm b W b zs0 u) ∧ Hid (Two W w1.heap.size 28 (.slice a0 zs0.length cap0) (.int .i64 u)) ∧ Hid (Boxed W W1.heap.size 3 (.int .i64 k)))
          (fun c W => c = .exit 2 ∧ n2 + 1 ≤ zs0.length - u ∧ Hid (Frm w W a0 zs0.length cap0 n2) ∧ Hid (Stm b W b zs0 u) ∧ Hid (Two W w1.heap.size 28 (.slice a0 zs0.length cap0) (.int .i64 u)) ∧ Hid (Boxed W W1.heap.size 3 (.int .i64 (n2 + 1 : Nat)))) ?hI ?hIx ⟨Nat.zero_le _, HFs, HSs, HTs, HNs⟩ ?round ?done ?stop)
        case hI =>
          rintro k W W' ⟨h1, h2, h3, h4, h5⟩ g
          rw [World.size_alloc] at g
          exact ⟨h1, Lib.hid (h2.out.below (g.mono (by omega))), Lib.hid (h3.out.keep (g.mono (by omega)) (g.block _ (by omega))), Lib.hid ((g.block _ (by omega)).trans h4.out), Lib.hid ((g.block _ (by omega)).trans h5.out)⟩
        case hIx =>
          rintro c W W' ⟨hc, h1, h2, h3, h4, h5⟩ g
          rw [World.size_alloc] at g
          exact ⟨hc, h1, Lib.hid (h2.out.below (g.mono (by omega))), Lib.hid (h3.out.keep (g.mono (by omega)) (g.block _ (by omega))), Lib.hid ((g.block _ (by omega)).trans h4.out), Lib.hid ((g.block _ (by omega)).trans h5.out)⟩
        case round =>
          rintro l k V hi hk
          clear hi
          unfold drawAt
          gi_wp2
          refine ⟨trivial, ?_⟩
          rintro V2 ⟨hk2, HF, HS, HT, HN⟩
          obtain ⟨g, off, rfl, hg, hcell⟩ := ((HX.out.below HF.out.2.2.2)).at (k := u + k) (by omega)
          have l0 := HF.out.1.cell
          have l1' := HF.out.2.1.cell
          have t1 := HT.out.c1
          have x0 := HN.out.cell
          have xf := HN.out.frozen
          generalize el zs0 (u + k) = z at *
          have gB : Below W1.heap.size V2 (V2.setCell ⟨W1.heap.size, 0, none⟩ (.int .i64 ((k : Int) + 1))) := (Below.refl _ _).setCell (p := ⟨W1.heap.size, 0, none⟩) (Nat.le_refl _) _
          have HF' := Lib.hid (HF.out.below (gB.mono (by omega)))
          have HS' := Lib.hid (HS.out.keep (gB.mono (by omega)) (gB.block _ (by omega)))
          have HT' : Hid (Two _ w1.heap.size 28 (.slice (some ⟨g, off, none⟩) zs0.length cap0) (.int .i64 u)) := Lib.hid ((gB.block _ hbw).trans HT.out)
          have HN' : Hid (Boxed _ W1.heap.size 3 (.int .i64 (k + 1 : Nat))) := Lib.hid (HN.out.set (.int .i64 ((k : Int) + 1)))
          have HB' := Lib.hid gB
          clear gB
          by_cases hst : k + 1 ≤ n2
          · gi_wp2
            exact ⟨KeepsOthers.setCell _ _ _, HB'.out, hst, HF', HS', HT', HN'⟩
          · obtain rfl : k = n2 := by omega
            gi_wp2
            exact ⟨KeepsOthers.setCell _ _ _, rfl, by omega, HF', HS', HT', HN'⟩
        case done =>
          rintro D V hD ⟨hk2, HF, HS, HT, HN⟩ hK
          rw [World.size_alloc] at hD
          obtain ⟨N, hN⟩ : ∃ N, zs0.length - u = N := ⟨_, rfl⟩
          rw [hN] at hk2 HN
          have hNi : ((zs0.length : Nat) : Int) - (u : Int) = (N : Int) := by omega
          clear hN
          go_wp2_with fail
          refine (dalive_any _).mono ?_
          rintro e w4 ⟨rfl, g4⟩
          have HF4 := Lib.hid (HF.out.grow g4)
          have l0 := HF4.out.1.cell
          have l1' := HF4.out.2.1.cell
          have HT4 := Lib.hid (HT.out.grow g4)
          have t0 := HT4.out.c0
          have t1 := HT4.out.c1
          have HS4 := Lib.hid (HS.out.grow g4)
          have hn4 : Boxed w4 W1.heap.size 3 (.int .i64 N) := (Below.block g4 _ HN.out.lt).trans HN.out
          have x0 := hn4.cell
          have HK4 : Hid (w4.heap[D]? = some (.deferred (some []))) := Lib.hid ((Below.block g4 D (Array.getElem?_eq_some_iff.1 hK).1).trans hK)
          clear hn4 g4 hK
          go_wp2_with fail
          refine (same_any a0 cap0 _ hz17 HS4.out).mono ?_
          rintro e w5 ⟨rfl, g5⟩
          have HF5 := Lib.hid (HF4.out.grow g5)
          have r0 := HF5.out.2.2.1.cell
          have rf := HF5.out.2.2.1.frozen
          have HK5 : Hid (w5.heap[D]? = some (.deferred (some []))) := Lib.hid ((Below.block g5 D (Array.getElem?_eq_some_iff.1 HK4.out).1).trans HK4.out)
          clear g5
          go_wp2
          have hK6 : (w5.setCell ⟨w.heap.size + 1 + 1, 0, none⟩ (.bool true)).heap[D]? = some (.deferred (some [])) := (heap_setCell_other w5 ⟨w.heap.size + 1 + 1, 0, none⟩ D _ (by show D ≠ w.heap.size + 1 + 1; omega)).trans HK5.out
          have z1 : Boxed ((w5.setCell ⟨w.heap.size + 1 + 1, 0, none⟩ (.bool true)).putObj D (.deferred none)) (w.heap.size + 1 + 1) 4 (.bool true) := (World.putObj_heap_other (by omega)).trans (HF5.out.2.2.1.set (.bool true))
          have z := z1.cell
          refine ⟨by simp, .inl ⟨_, _, rfl, run_takeDeferred hK6, ?_⟩⟩
          refine ⟨.bool true, by simp [results, Try.results6, go_sem, z], rfl, ?_⟩
          exact (HF5.out.2.2.2.setCell (p := ⟨w.heap.size + 1 + 1, 0, none⟩) (show w.heap.size ≤ w.heap.size + 1 + 1 by omega) _).trans (below_put (by omega) hK6)
        case stop =>
          rintro D c V hD ⟨rfl, hk2, HF, HS, HT, HN⟩ hK
          rw [World.size_alloc] at hD
          obtain ⟨N, hN⟩ : ∃ N, zs0.length - u = N := ⟨_, rfl⟩
          rw [hN] at hk2
          have hNi : ((zs0.length : Nat) : Int) - (u : Int) = (N : Int) := by omega
          clear hN
          refine (wpIn_wide (n := 5)).2 ?_
          rcases Nat.lt_or_ge (n2 + 1) N with hlt2 | hge2
          · skip
            go_wp2_with fail
            refine (dalive_any _).mono ?_
            rintro e w4 ⟨rfl, g4⟩
            have HF4 := Lib.hid (HF.out.grow g4)
            have l0 := HF4.out.1.cell
            have l1' := HF4.out.2.1.cell
            have HT4 := Lib.hid (HT.out.grow g4)
            have t0 := HT4.out.c0
            have t1 := HT4.out.c1
            have HS4 := Lib.hid (HS.out.grow g4)
            have hn4 : Boxed w4 W1.heap.size 3 (.int .i64 ((n2 + 1 : Nat) : Int)) := (Below.block g4 _ HN.out.lt).trans HN.out
            have x0 := hn4.cell
            have HK4 : Hid (w4.heap[D]? = some (.deferred (some []))) := Lib.hid ((Below.block g4 D (Array.getElem?_eq_some_iff.1 hK).1).trans hK)
            clear hn4 g4 hK
            go_wp2_with fail
            refine (same_any a0 cap0 _ hz17 HS4.out).mono ?_
            rintro e w5 ⟨rfl, g5⟩
            have HF5 := Lib.hid (HF4.out.grow g5)
            have r0 := HF5.out.2.2.1.cell
            have rf := HF5.out.2.2.1.frozen
            have HK5 : Hid (w5.heap[D]? = some (.deferred (some []))) := Lib.hid ((Below.block g5 D (Array.getElem?_eq_some_iff.1 HK4.out).1).trans HK4.out)
            clear g5
            go_wp2
            have hK6 : (w5.setCell ⟨w.heap.size + 1 + 1, 0, none⟩ (.bool true)).heap[D]? = some (.deferred (some [])) := (heap_setCell_other w5 ⟨w.heap.size + 1 + 1, 0, none⟩ D _ (by show D ≠ w.heap.size + 1 + 1; omega)).trans HK5.out
            have z1 : Boxed ((w5.setCell ⟨w.heap.size + 1 + 1, 0, none⟩ (.bool true)).putObj D (.deferred none)) (w.heap.size + 1 + 1) 4 (.bool true) := (World.putObj_heap_other (by omega)).trans (HF5.out.2.2.1.set (.bool true))
            have z := z1.cell
            refine ⟨by simp, .inl ⟨_, _, rfl, run_takeDeferred hK6, ?_⟩⟩
            refine ⟨.bool true, by simp [results, Try.results6, go_sem, z], rfl, ?_⟩
            exact (HF5.out.2.2.2.setCell (p := ⟨w.heap.size + 1 + 1, 0, none⟩) (show w.heap.size ≤ w.heap.size + 1 + 1 by omega) _).trans (below_put (by omega) hK6)
          · obtain rfl : N = n2 + 1 := by omega
            clear hge2 hk2
            go_wp2_with fail
            refine (dalive_any _).mono ?_
            rintro e w4 ⟨rfl, g4⟩
            have HF4 := Lib.hid (HF.out.grow g4)
            have l0 := HF4.out.1.cell
            have l1' := HF4.out.2.1.cell
            have HT4 := Lib.hid (HT.out.grow g4)
            have t0 := HT4.out.c0
            have t1 := HT4.out.c1
            have HS4 := Lib.hid (HS.out.grow g4)
            have hn4 : Boxed w4 W1.heap.size 3 (.int .i64 ((n2 + 1 : Nat) : Int)) := (Below.block g4 _ HN.out.lt).trans HN.out
            have x0 := hn4.cell
            have HK4 : Hid (w4.heap[D]? = some (.deferred (some []))) := Lib.hid ((Below.block g4 D (Array.getElem?_eq_some_iff.1 hK).1).trans hK)
            clear hn4 g4 hK
            go_wp2_with fail
            refine (same_any a0 cap0 _ hz17 HS4.out).mono ?_
            rintro e w5 ⟨rfl, g5⟩
            have HF5 := Lib.hid (HF4.out.grow g5)
            have r0 := HF5.out.2.2.1.cell
            have rf := HF5.out.2.2.1.frozen
            have HK5 : Hid (w5.heap[D]? = some (.deferred (some []))) := Lib.hid ((Below.block g5 D (Array.getElem?_eq_some_iff.1 HK4.out).1).trans HK4.out)
            clear g5
            go_wp2
            have hK6 : (w5.setCell ⟨w.heap.size + 1 + 1, 0, none⟩ (.bool true)).heap[D]? = some (.deferred (some [])) := (heap_setCell_other w5 ⟨w.heap.size + 1 + 1, 0, none⟩ D _ (by show D ≠ w.heap.size + 1 + 1; omega)).trans HK5.out
            have z1 : Boxed ((w5.setCell ⟨w.heap.size + 1 + 1, 0, none⟩ (.bool true)).putObj D (.deferred none)) (w.heap.size + 1 + 1) 4 (.bool true) := (World.putObj_heap_other (by omega)).trans (HF5.out.2.2.1.set (.bool true))
            have z := z1.cell
            refine ⟨by simp, .inl ⟨_, _, rfl, run_takeDeferred hK6, ?_⟩⟩
            refine ⟨.bool true, by simp [results, Try.results6, go_sem, z], rfl, ?_⟩
            exact (HF5.out.2.2.2.setCell (p := ⟨w.heap.size + 1 + 1, 0, none⟩) (show w.heap.size ≤ w.heap.size + 1 + 1 by omega) _).trans (below_put (by omega) hK6)

set_option maxRecDepth 100000 in
theorem lifted (os : Os) (started : os.Started) (H : Type) (enc : TypeId × Value → H) :
    ReturnsInHanded {} Try.checked os 6 .any (Rows.drawAllsSpec.pre6 enc Try.prog Try.f6 Rows.drawAllsRow.domain false) (Rows.drawAllsSpec.post enc Try.prog Try.f6 false true false false) := by
  refine returnsInHanded_of_change_sized (C := Try.checked) own started (by kernel_rfl) Try.func6
    (ChangeSpec.witness6 (enc := enc) (C := Try.checked) false ⟨#[], #[.slice none 0 0, .int .u8 0, .int .u8 0], []⟩ 8 (by kernel_rfl) (by kernel_rfl) (by kernel_rfl) (by kernel_rfl)) ?_
  intro W base args ds gs before hval0 hW hcnd hsz0 _
  have hsz : (DataW.weightsEach Try.prog (Try.f6.params.toList ++ Rows.drawAllsSpec.plain.varTypes Try.prog) (ds ++ gs)).all (· ≤ reachBytes) = true := hsz0
  have hval : ∀ (j : Nat) t v, Try.f6.params[j]? = some t → args[j]? = some v → Value.okWide Try.prog W .any base t v := hval0
  have hW' := hW
  obtain ⟨p, q, hA0, hV, rfl, hfz, hnd⟩ := hW
  have hA : DataW.TrodAll enc Try.prog W 0 (fun _ => true) true Try.f6.params.toList args.toList ds p := hA0
  rw [Try.params6] at hA hval hsz
  obtain ⟨v0, vs0, d0, ds0, p0, q0, hargs, rfl, rfl, h0, r0⟩ := trodAll_cons hA
  obtain ⟨v1, vs1, d1, ds1, p1, q1, rfl, rfl, rfl, h1, r1⟩ := trodAll_cons r0
  obtain ⟨v2, vs2, d2, ds2, p2, q2, rfl, rfl, rfl, h2, r2⟩ := trodAll_cons r1
  obtain ⟨rfl, rfl, rfl⟩ := trodAll_nil r2
  obtain rfl : args = #[v0, v1, v2] := by cases args; simp_all
  obtain ⟨rfl, rfl⟩ := trodVars_none hV
  have k0 := h0
  have lt0 : ∀ x ∈ p0, x.block < W.heap.size := by obtain ⟨m, hm⟩ := k0; exact DataW.trod_lt m _ _ _ hm
  obtain ⟨a0, len0, cap0, rfl⟩ := okWide_slice Try.underlying22 (hval 0 22 v0 rfl rfl)
  obtain ⟨zs0, w0⟩ : ∃ us, CameK .u64 W a0 len0 cap0 us := by
    obtain ⟨fuel, hf⟩ := h0
    rcases open_ints Try.underlying22 Try.underlying45 (by kernel_rfl) hf with ⟨hcs, _⟩ | ⟨x, l, c, zs, hcs, _, hl, hm, hz, hx, hcell, hwz⟩
    · simp [Value.cells] at hcs
      obtain ⟨rfl, rfl, rfl⟩ := hcs
      exact ⟨[], cameK_none _ W⟩
    · simp [Value.cells] at hcs
      obtain ⟨rfl, rfl, rfl⟩ := hcs
      simp only [if_true] at hz
      have hd := congrArg Prod.fst hx
      have hreach : cap0 * 8 ≤ 140737488351232 := by
        have hs := sized_slice hsz (j := 0) (t := 22) (e := 45) rfl (congrArg some hd) Try.underlying22
        rw [show Try.prog.bytesOf 45 = 8 from by kernel_rfl] at hs
        simp only [lits, List.length_map, List.length_take, List.length_drop, reachBytes] at hs
        omega
      exact ⟨_, cameK_some hl hreach hz hcell hwz⟩
  obtain ⟨a1, rfl, rfl, rfl, w1⟩ := open_int Try.underlying5 (hval 1 5 v1 rfl rfl) h1
  obtain ⟨a2, rfl, rfl, rfl, w2⟩ := open_int Try.underlying5 (hval 2 5 v2 rfl rfl) h2
  clear hA0 hval0 hsz hsz0
  refine (walk a0 len0 cap0 zs0 a1 a2 W w0 w1 w2).mono fun e W' ⟨he, bel⟩ => ?_
  subst he
  exact ⟨_, rfl, _, _, _, [], _, [], hW', trodAll_mk1 (shut_bool Try.underlying4 _), (trodAll_cons_mk (Below.trod laidOut (by kernel_rfl) (of_decide_eq_true (by kernel_rfl)) k0 bel lt0) (trodAll_cons_mk (shut_int Try.underlying5 w1) (trodAll_cons_mk (shut_int Try.underlying5 w2) trodAll_mk0))), rfl, bel.frame _, fun h => by cases h⟩

theorem over : Rows.drawAllsRow.holds Try.pinned (OpenSpec.ofChange Rows.drawAllsSpec) :=
  OpenClaim.holds_of_wide 6 Try.f6 rfl rfl rfl rfl rfl rfl rfl ⟨rfl, rfl, rfl, rfl, rfl⟩ rfl rfl rfl rfl rfl (by kernel_rfl) Try.func6 (by kernel_rfl)
    (of_decide_eq_true (by kernel_rfl)) (by unfold Func.isWrapper; first | (rw [if_pos (by decide +kernel)]; kernel_rfl) | (rw [if_neg (by decide +kernel)]; exact ⟨rfl, rfl⟩))
    (fun os started H enc _ => lifted os started H enc)

theorem proved : Rows.DrawAllsSaid := over
end Go.Proofs.Ytfgkpbmjdgfdmaa.drawAlls
