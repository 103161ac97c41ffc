/-
  For all networks, sakialaw09.NetMakes(n) returns true. No condition.
-/
import Derived.Test.YtciocdjpgknihaaRows
import Derived.Test.YtciocdjpgknihaaKy
import Derived.Lib.SmallJoins
import Derived.WalkKit
import Derived.ProofKit
import Derived.OpenShut
import Derived.ShutString
import Derived.ChangeOld
import Derived.Below
import Derived.SizedLaws
namespace Go.Proofs.Ytciocdjpgknihaa.netMakes
open Go.ChangeShapes Go.WideShapes Go.ChangeAt Go.RowKit
open Go.Proofs.Ytciocdjpgknihaa
set_option linter.unusedVariables false

theorem own : ownKnob Try.prog.godebug = none := by kernel_rfl
theorem laidOut : laidOutB Try.prog = true := by kernel_rfl

/-- Once the first k elements have been changed by d. -/
def incK (ps : List Int) (d : Int) : Nat → List Int
  | 0 => ps
  | k + 1 => (incK ps d k).set k (wrap64 (el ps k + d))
theorem incK_len (ps : List Int) (d : Int) : ∀ k, (incK ps d k).length = ps.length
  | 0 => rfl
  | k + 1 => by simp only [incK, List.length_set]; exact incK_len ps d k
theorem incK_el (ps : List Int) (d : Int) {j : Nat} : ∀ k, k ≤ j → el (incK ps d k) j = el ps j
  | 0, _ => rfl
  | k + 1, h => by
    simp only [incK]
    rw [el_set_other _ (by omega)]
    exact incK_el ps d k (by omega)
theorem own_some {D n cap g : Nat} {W : World} {a : Option Addr} {zs : List Int} (h : Buf D W a n cap zs) (hg : (Value.slice a n cap).ownBlock = some g) : g < W.heap.size := (World.ownsRow.lt h g hg).2
theorem net_left {D b : Nat} {W W' : World} {zs ps : List Int} {q : Int} {r : Option Nat} (h : NetM D W b zs ps q) (hg : W.grownBy W' r) (hr : ∀ g, r = some g → g < D) : NetM D W' b zs ps q := by
  cases r with
  | none => exact h.grow ⟨hg.os, hg.tape, hg.output, hg.size, fun j hj => hg.block j hj (fun e => by cases e)⟩
  | some r => exact h.grown hg (hr r rfl)
theorem buf_set {D n cap g k : Nat} {W : World} {zs : List Int} (h : Buf D W (some ⟨g, 0, none⟩) n cap zs) (v : Int) : Buf D (W.setCell ⟨g, k, none⟩ (.int .i64 v)) (some ⟨g, 0, none⟩) n cap (zs.set k v) := h.set k v

set_option maxRecDepth 100000 in
set_option maxHeartbeats 4000000 in
theorem walk_few (sa0 : Option Addr) (sc0 : Nat) (pa0 : Option Addr) (pc0 : Nat) (q0 : Int) (zs0 ps0 : List Int)  (w : World)
    (hsr : RdK .i64 w.heap.size w sa0 zs0)
    (hpcm' : ps0.length ≤ 9223372036854775807)
    (HFew : Hid (fewN9 zs0 ps0 = false)) :
    Calls Try.prog 3 #[.agg #[.slice sa0 zs0.length sc0, .slice pa0 ps0.length pc0, .int .i64 q0]] w fun e w' => e = .returned (.bool true) ∧ Below w.heap.size w w' := by
  have gA : Grew w (w.alloc (.cells #[.slice sa0 zs0.length sc0, .slice pa0 ps0.length pc0, .int .i64 q0] 25)) := (Grew.refl w).alloc _
  have HG0 := Lib.hid gA
  have HT0 := Lib.hid (Three.new w 25 (.slice sa0 zs0.length sc0) (.slice pa0 ps0.length pc0) (.int .i64 q0))
  have HSR0 := Lib.hid (hsr.grow gA)
  have b0_0 := HT0.out.c0
  have b1_0 := HT0.out.c1
  have b2_0 := HT0.out.c2
  have hlt_0 := HT0.out.lt
  clear gA 
  go_enter Try.func3, Try.ntmps3
  go_wp2_with fail
  skip
  refine (few9_any (q := q0) HSR0.out hpcm').mono ?_
  rintro e w1_ ⟨rfl, g1⟩
  rw [HFew.out]
  have HG_1 := Lib.hid (HG0.out.trans g1)
  have HT_1 := Lib.hid (HT0.out.grow g1)
  clear b0_0 b1_0 b2_0 hlt_0
  have b0_1 := HT_1.out.c0
  have b1_1 := HT_1.out.c1
  have b2_1 := HT_1.out.c2
  have hlt_1 := HT_1.out.lt
  clear g1
  go_wp2_with fail
  refine (alive9_any _).mono ?_
  rintro e w2_ ⟨rfl, g2⟩
  have HG_2 := Lib.hid (HG_1.out.trans g2)
  have HT_2 := Lib.hid (HT_1.out.grow g2)
  clear b0_1 b1_1 b2_1 hlt_1
  have b0_2 := HT_2.out.c0
  have b1_2 := HT_2.out.c1
  have b2_2 := HT_2.out.c2
  have hlt_2 := HT_2.out.lt
  clear g2
  go_wp2
  go_ret
  exact ⟨rfl, HG_2.out⟩

set_option maxRecDepth 100000 in
set_option maxHeartbeats 4000000 in
theorem walk_none (sa0 : Option Addr) (sc0 : Nat) (pa0 : Option Addr) (pc0 : Nat) (q0 : Int) (zs0 ps0 : List Int)  (w : World)
    (hsr : RdK .i64 w.heap.size w sa0 zs0)
    (hpcm' : ps0.length ≤ 9223372036854775807)
    (HFew : Hid (fewN9 zs0 ps0 = true))
    (hRN : RN w sa0 sc0 pa0 pc0 zs0 ps0)
    (hpn : pa0 = none → pc0 = 0)
    (hpl5 : ps0.length ≤ 500)
    (HRight : Hid (rightN9 zs0 ps0 q0 = false))
    (hpcap : ps0.length ≤ pc0)
    (hprw : Rd w.heap.size w pa0 ps0) :
    Calls Try.prog 3 #[.agg #[.slice sa0 zs0.length sc0, .slice pa0 ps0.length pc0, .int .i64 q0]] w fun e w' => e = .returned (.bool true) ∧ Below w.heap.size w w' := by
  have gA : Grew w (w.alloc (.cells #[.slice sa0 zs0.length sc0, .slice pa0 ps0.length pc0, .int .i64 q0] 25)) := (Grew.refl w).alloc _
  have HG0 := Lib.hid gA
  have HT0 := Lib.hid (Three.new w 25 (.slice sa0 zs0.length sc0) (.slice pa0 ps0.length pc0) (.int .i64 q0))
  have HSR0 := Lib.hid (hsr.grow gA)
  have HR0 := Lib.hid (hRN.grow gA)
  have b0_0 := HT0.out.c0
  have b1_0 := HT0.out.c1
  have b2_0 := HT0.out.c2
  have hlt_0 := HT0.out.lt
  have hpl := hRN.plen
  have HPN := Lib.hid hpn
  have hpl500 : ps0.length ≤ 1099511627776 := by omega
  clear gA hRN hpn
  go_enter Try.func3, Try.ntmps3
  go_wp2_with fail
  refine (few9_any (q := q0) HSR0.out hpcm').mono ?_
  rintro e w1 ⟨rfl, g1⟩
  rw [HFew.out]
  have HG1 := Lib.hid (HG0.out.trans g1)
  have HR1 := Lib.hid (HR0.out.grow g1)
  have ht1 := HT0.out.grow g1
  have HT1 := Lib.hid ht1
  clear b0_0 b1_0 b2_0 hlt_0 g1
  have b0 := ht1.c0
  have b1 := ht1.c1
  have b2 := ht1.c2
  have hlt := ht1.lt
  clear ht1
  -- the copy of the network
  have gO : Grew w1 (w1.alloc (.cells #[.slice sa0 zs0.length sc0, .slice pa0 ps0.length pc0, .int .i64 q0] 25)) := (Grew.refl w1).alloc _
  have HO1 := Lib.hid (Three.new w1 25 (.slice sa0 zs0.length sc0) (.slice pa0 ps0.length pc0) (.int .i64 q0))
  have HG2 := Lib.hid (HG1.out.trans gO)
  have HR2 := Lib.hid (HR1.out.grow gO)
  have HT2 := Lib.hid (HT1.out.grow gO)
  have hltw : w.heap.size < w1.heap.size := hlt
  clear gO
  go_wp2_with fail
  generalize w1.alloc (.cells #[.slice sa0 zs0.length sc0, .slice pa0 ps0.length pc0, .int .i64 q0] 25) = w2 at *
  generalize w1.heap.size = L at *
  refine (rclone_any pa0 pc0 ps0 _ hpl500 HPN.out HR2.out.pr).mono ?_
  rintro e w3 ⟨⟨a', cap', rfl, hb3⟩, g3⟩
  have HG3 := Lib.hid (HG2.out.trans g3)
  have HR3 := Lib.hid (HR2.out.grow g3)
  have HT3 := Lib.hid (HT2.out.grow g3)
  have hO3 := HO1.out.grow g3
  have hbf := buf_fits hb3
  have HB3 := Lib.hid hb3
  have HLO : Hid (L < w2.heap.size) := Lib.hid HO1.out.lt
  clear b0 b1 b2 hlt g3
  have o1 := hO3.c1
  have p1 := hO3.f1
  have hol := hO3.lt
  have hgs : w3.grownBy (w3.setCell ⟨L, 1, none⟩ (.slice a' ps0.length cap')) (some L) := grownBy_setCell1 w3 ⟨L, 1, none⟩ _
  have HO4 := Lib.hid (hO3.set1 (.slice a' ps0.length cap'))
  have HG4 : Hid (Grew w (w3.setCell ⟨L, 1, none⟩ (.slice a' ps0.length cap'))) := Lib.hid (Below.setCell (p := ⟨L, 1, none⟩) HG3.out (by show w.heap.size ≤ L; omega) _)
  have HT4 := Lib.hid (HT3.out.grown hgs (fun e => by injection e with e; omega))
  have HB4 : Hid (Buf w2.heap.size (w3.setCell ⟨L, 1, none⟩ (.slice a' ps0.length cap')) a' ps0.length cap' ps0) := Lib.hid (own_left HB3.out hgs (fun g hg e => by injection e with e; have h1 := (World.ownsRow.lt HB3.out g hg).1; have := HLO.out; omega))
  have HSR4 := Lib.hid (RdK.mono (hsr.below HG4.out) HG4.out.size)
  have o0 := HO4.out.c0
  have o1' := HO4.out.c1
  have o2 := HO4.out.c2
  have hol' := HO4.out.lt
  go_wp2_with fail
  generalize w3.setCell ⟨L, 1, none⟩ (.slice a' ps0.length cap') = w4 at *
  clear o1 p1 hol o0 o1' o2 hol' hgs hO3 hb3
  have hRN4 : RN w4 sa0 sc0 a' cap' zs0 ps0 := ⟨HSR4.out, Rd.mono HB4.out.rd (Nat.le_refl _), HR3.out.scap, HR3.out.smax, HR3.out.slen, HR3.out.plen, hbf.1⟩
  have HRN4 := Lib.hid hRN4
  clear hRN4
  refine (lnew_no HRight.out HRN4.out).mono ?_
  rintro e w5 ⟨rfl, g5⟩
  have HG5 := Lib.hid (HG4.out.trans g5)
  have HT5 := Lib.hid (HT4.out.grow g5)
  have HO5 := Lib.hid (HO4.out.grow g5)
  have HB5 : Hid (Buf w2.heap.size w5 a' ps0.length cap' (incK ps0 1 0)) := Lib.hid (own_grow HB4.out g5)
  clear g5
  have hOX := HO5.out
  have o1 := hOX.c1
  have hol := hOX.lt
  clear hOX
  go_wp2
  rename World => W5
  clear o1 hol
  go_loopw [26] (fun iv wr => ∃ k : Nat, k ≤ ps0.length ∧ iv = .int .i64 k ∧ Hid (Buf w2.heap.size wr a' ps0.length cap' (incK ps0 1 k)) ∧ Hid (W5.grownBy wr (Value.slice a' ps0.length cap').ownBlock)) (fun iv _ => ps0.length - (intOf iv).toNat)
  case atStart => exact ⟨0, Nat.zero_le _, rfl, HB5, Lib.hid (grown_refl _ _)⟩
  case round =>
    obtain ⟨k, hk, rfl, HBk, HGk⟩ := hrel
    have hOL : ∀ g, (Value.slice a' ps0.length cap').ownBlock = some g → L < g := fun g hg => by have h1 := (World.ownsRow.lt HB5.out g hg).1; have := HLO.out; omega
    have hOk := (HO5.out).grown HGk.out (fun e => by have := hOL L e.symm; omega)
    by_cases hkn : k < ps0.length
    · obtain ⟨g, hga, hgb, hgl, hgc, hgf⟩ := HBk.out.at hkn
      subst hga
      rw [incK_el ps0 1 k (Nat.le_refl _)] at hgc
      have o1 := hOk.c1
      have hol := hOk.lt
      have HS : Hid (incK ps0 1 (k + 1) = (incK ps0 1 k).set k (wrap64 (el ps0 k + 1))) := Lib.hid rfl
      generalize el ps0 k = z at *
      clear hOk hOL
      go_wp2_with fail
      go_roundw
      case rel => exact ⟨k + 1, by omega, by go_num, Lib.hid (by rw [HS.out]; exact buf_set HBk.out _), Lib.hid (grownBy_trans HGk.out (grownBy_setCell1 _ ⟨g, k, none⟩ _))⟩
      case measure => simp [intOf]; omega
    · obtain rfl : k = ps0.length := by omega
      have HT6 := Lib.hid ((HT5.out).grown HGk.out (fun e => by have := hOL w.heap.size e.symm; omega))
      have HG6 : Hid (Grew w wr) := Lib.hid (by
        have h := HGk.out
        have hs := (HG5.out).size
        exact Grew.trans_below (HG5.out) ⟨h.os, h.tape, h.output, Nat.le_trans (Nat.le_refl _) h.size, fun j hj => h.block j (Nat.lt_of_lt_of_le hj hs) (fun e => by have := hOL j e.symm; omega)⟩ (Nat.le_refl _))
      have HSR6 := Lib.hid (RdK.mono (hsr.below HG6.out) HG6.out.size)
      have HPR6 := Lib.hid (Rd.mono (Rd.below hprw HG6.out) HG6.out.size)
      have HRN6 := Lib.hid (RN.mk HSR6.out HPR6.out HR3.out.scap HR3.out.smax HR3.out.slen HR3.out.plen hpcap)
      clear hOk
      have b0 := HT6.out.c0
      have b1 := HT6.out.c1
      have b2 := HT6.out.c2
      have hlt := HT6.out.lt
      go_wp2_with fail
      refine (right9_any (q := q0) HRN6.out).mono ?_
      rintro e w7 ⟨rfl, g7⟩
      rw [HRight.out]
      have HG7 := Lib.hid (HG6.out.trans g7)
      clear g7 b0 b1 b2 hlt
      go_wp2_with fail
      refine (params_nil _).mono ?_
      rintro e w8 ⟨rfl, rfl⟩
      go_wp2_with fail
      refine (alive9_any _).mono ?_
      rintro e w9 ⟨rfl, g9⟩
      have HG9 := Lib.hid (HG7.out.trans g9)
      clear g9
      go_wp2
      go_ret
      exact ⟨rfl, HG9.out⟩

set_option maxRecDepth 100000 in
set_option maxHeartbeats 4000000 in
theorem walk_net (sa0 : Option Addr) (sc0 : Nat) (pa0 : Option Addr) (pc0 : Nat) (q0 : Int) (zs0 ps0 : List Int)  (w : World)
    (hsr : RdK .i64 w.heap.size w sa0 zs0)
    (hpcm' : ps0.length ≤ 9223372036854775807)
    (HFew : Hid (fewN9 zs0 ps0 = true))
    (hRN : RN w sa0 sc0 pa0 pc0 zs0 ps0)
    (hpn : pa0 = none → pc0 = 0)
    (hpl5 : ps0.length ≤ 500)
    (HRight : Hid (rightN9 zs0 ps0 q0 = true))
    (hP : NetP zs0 ps0 q0)
    (hpcap : ps0.length ≤ pc0)
    (hprw : Rd w.heap.size w pa0 ps0) :
    Calls Try.prog 3 #[.agg #[.slice sa0 zs0.length sc0, .slice pa0 ps0.length pc0, .int .i64 q0]] w fun e w' => e = .returned (.bool true) ∧ Below w.heap.size w w' := by
  have HP := Lib.hid hP
  have hnp := nP_in hP.right
  have HPL := Lib.hid hP.len
  clear hP
  have gA : Grew w (w.alloc (.cells #[.slice sa0 zs0.length sc0, .slice pa0 ps0.length pc0, .int .i64 q0] 25)) := (Grew.refl w).alloc _
  have HG0 := Lib.hid gA
  have HT0 := Lib.hid (Three.new w 25 (.slice sa0 zs0.length sc0) (.slice pa0 ps0.length pc0) (.int .i64 q0))
  have HSR0 := Lib.hid (hsr.grow gA)
  have HR0 := Lib.hid (hRN.grow gA)
  have b0_0 := HT0.out.c0
  have b1_0 := HT0.out.c1
  have b2_0 := HT0.out.c2
  have hlt_0 := HT0.out.lt
  have hpl := hRN.plen
  have HPN := Lib.hid hpn
  have hpl500 : ps0.length ≤ 1099511627776 := by omega
  clear gA hRN hpn
  go_enter Try.func3, Try.ntmps3
  go_wp2_with fail
  refine (few9_any (q := q0) HSR0.out hpcm').mono ?_
  rintro e w1 ⟨rfl, g1⟩
  rw [HFew.out]
  have HG1 := Lib.hid (HG0.out.trans g1)
  have HR1 := Lib.hid (HR0.out.grow g1)
  have ht1 := HT0.out.grow g1
  have HT1 := Lib.hid ht1
  clear b0_0 b1_0 b2_0 hlt_0 g1
  have b0 := ht1.c0
  have b1 := ht1.c1
  have b2 := ht1.c2
  have hlt := ht1.lt
  clear ht1
  -- the copy of the network
  have gO : Grew w1 (w1.alloc (.cells #[.slice sa0 zs0.length sc0, .slice pa0 ps0.length pc0, .int .i64 q0] 25)) := (Grew.refl w1).alloc _
  have HO1 := Lib.hid (Three.new w1 25 (.slice sa0 zs0.length sc0) (.slice pa0 ps0.length pc0) (.int .i64 q0))
  have HG2 := Lib.hid (HG1.out.trans gO)
  have HR2 := Lib.hid (HR1.out.grow gO)
  have HT2 := Lib.hid (HT1.out.grow gO)
  have hltw : w.heap.size < w1.heap.size := hlt
  clear gO
  go_wp2_with fail
  generalize w1.alloc (.cells #[.slice sa0 zs0.length sc0, .slice pa0 ps0.length pc0, .int .i64 q0] 25) = w2 at *
  generalize w1.heap.size = L at *
  refine (rclone_any pa0 pc0 ps0 _ hpl500 HPN.out HR2.out.pr).mono ?_
  rintro e w3 ⟨⟨a', cap', rfl, hb3⟩, g3⟩
  have HG3 := Lib.hid (HG2.out.trans g3)
  have HR3 := Lib.hid (HR2.out.grow g3)
  have HT3 := Lib.hid (HT2.out.grow g3)
  have hO3 := HO1.out.grow g3
  have hbf := buf_fits hb3
  have HB3 := Lib.hid hb3
  have HLO : Hid (L < w2.heap.size) := Lib.hid HO1.out.lt
  clear b0 b1 b2 hlt g3
  have o1 := hO3.c1
  have p1 := hO3.f1
  have hol := hO3.lt
  have hgs : w3.grownBy (w3.setCell ⟨L, 1, none⟩ (.slice a' ps0.length cap')) (some L) := grownBy_setCell1 w3 ⟨L, 1, none⟩ _
  have HO4 := Lib.hid (hO3.set1 (.slice a' ps0.length cap'))
  have HG4 : Hid (Grew w (w3.setCell ⟨L, 1, none⟩ (.slice a' ps0.length cap'))) := Lib.hid (Below.setCell (p := ⟨L, 1, none⟩) HG3.out (by show w.heap.size ≤ L; omega) _)
  have HT4 := Lib.hid (HT3.out.grown hgs (fun e => by injection e with e; omega))
  have HB4 : Hid (Buf w2.heap.size (w3.setCell ⟨L, 1, none⟩ (.slice a' ps0.length cap')) a' ps0.length cap' ps0) := Lib.hid (own_left HB3.out hgs (fun g hg e => by injection e with e; have h1 := (World.ownsRow.lt HB3.out g hg).1; have := HLO.out; omega))
  have HSR4 := Lib.hid (RdK.mono (hsr.below HG4.out) HG4.out.size)
  have o0 := HO4.out.c0
  have o1' := HO4.out.c1
  have o2 := HO4.out.c2
  have hol' := HO4.out.lt
  go_wp2_with fail
  generalize w3.setCell ⟨L, 1, none⟩ (.slice a' ps0.length cap') = w4 at *
  clear o1 p1 hol o0 o1' o2 hol' hgs hO3 hb3
  have hRN4 : RN w4 sa0 sc0 a' cap' zs0 ps0 := ⟨HSR4.out, Rd.mono HB4.out.rd (Nat.le_refl _), HR3.out.scap, HR3.out.smax, HR3.out.slen, HR3.out.plen, hbf.1⟩
  have HRN4 := Lib.hid hRN4
  clear hRN4
  refine (lnew_yes HP.out HRN4.out).mono ?_
  rintro e w5 ⟨⟨nb, rfl, hn5⟩, g5⟩
  have HG5 := Lib.hid (HG4.out.trans g5)
  have HT5 := Lib.hid (HT4.out.grow g5)
  have HO5 := Lib.hid (HO4.out.grow g5)
  have HB5 : Hid (Buf w2.heap.size w5 a' ps0.length cap' (incK ps0 1 0)) := Lib.hid (own_grow HB4.out g5)
  have HN5 := Lib.hid hn5
  clear g5 hn5
  have hOX := HO5.out
  have o1 := hOX.c1
  have hol := hOX.lt
  clear hOX
  go_wp2
  rename World => W5
  clear o1 hol
  go_loopw [26] (fun iv wr => ∃ k : Nat, k ≤ ps0.length ∧ iv = .int .i64 k ∧ Hid (Buf w2.heap.size wr a' ps0.length cap' (incK ps0 1 k)) ∧ Hid (W5.grownBy wr (Value.slice a' ps0.length cap').ownBlock)) (fun iv _ => ps0.length - (intOf iv).toNat)
  case atStart => exact ⟨0, Nat.zero_le _, rfl, HB5, Lib.hid (grown_refl _ _)⟩
  case round =>
    obtain ⟨k, hk, rfl, HBk, HGk⟩ := hrel
    have hOL : ∀ g, (Value.slice a' ps0.length cap').ownBlock = some g → L < g := fun g hg => by have h1 := (World.ownsRow.lt HB5.out g hg).1; have := HLO.out; omega
    have hOk := (HO5.out).grown HGk.out (fun e => by have := hOL L e.symm; omega)
    by_cases hkn : k < ps0.length
    · obtain ⟨g, hga, hgb, hgl, hgc, hgf⟩ := HBk.out.at hkn
      subst hga
      rw [incK_el ps0 1 k (Nat.le_refl _)] at hgc
      have o1 := hOk.c1
      have hol := hOk.lt
      have HS : Hid (incK ps0 1 (k + 1) = (incK ps0 1 k).set k (wrap64 (el ps0 k + 1))) := Lib.hid rfl
      generalize el ps0 k = z at *
      clear hOk hOL
      go_wp2_with fail
      go_roundw
      case rel => exact ⟨k + 1, by omega, by go_num, Lib.hid (by rw [HS.out]; exact buf_set HBk.out _), Lib.hid (grownBy_trans HGk.out (grownBy_setCell1 _ ⟨g, k, none⟩ _))⟩
      case measure => simp [intOf]; omega
    · obtain rfl : k = ps0.length := by omega
      have HT6 := Lib.hid ((HT5.out).grown HGk.out (fun e => by have := hOL w.heap.size e.symm; omega))
      have HG6 : Hid (Grew w wr) := Lib.hid (by
        have h := HGk.out
        have hs := (HG5.out).size
        exact Grew.trans_below (HG5.out) ⟨h.os, h.tape, h.output, Nat.le_trans (Nat.le_refl _) h.size, fun j hj => h.block j (Nat.lt_of_lt_of_le hj hs) (fun e => by have := hOL j e.symm; omega)⟩ (Nat.le_refl _))
      have HSR6 := Lib.hid (RdK.mono (hsr.below HG6.out) HG6.out.size)
      have HPR6 := Lib.hid (Rd.mono (Rd.below hprw HG6.out) HG6.out.size)
      have HRN6 := Lib.hid (RN.mk HSR6.out HPR6.out HR3.out.scap HR3.out.smax HR3.out.slen HR3.out.plen hpcap)
      clear hOk
      have b0 := HT6.out.c0
      have b1 := HT6.out.c1
      have b2 := HT6.out.c2
      have hlt := HT6.out.lt
      go_wp2_with fail
      refine (right9_any (q := q0) HRN6.out).mono ?_
      rintro e w7 ⟨rfl, g7⟩
      rw [HRight.out]
      have HG7 := Lib.hid (HG6.out.trans g7)
      have HT7 := Lib.hid (HT6.out.grow g7)
      have HPR7 := Lib.hid (HPR6.out.grow g7)
      have HN7 := Lib.hid ((net_left HN5.out HGk.out (fun g hg => own_some HB4.out hg)).grow g7)
      clear g7 b0 b1 b2 hlt
      go_wp2_with fail
      refine (params_any HP.out HN7.out).mono ?_
      rintro e w8 ⟨⟨pg0, rfl, hb8⟩, g8⟩
      have HG78 : Hid (Grew w7 w8) := Lib.hid g8
      have HBE : Hid (Buf w7.heap.size w8 (some ⟨pg0, 0, none⟩) (nP zs0) (nP zs0) (incK ps0 (-1) 0)) := Lib.hid hb8
      clear g8 hb8
      go_wp2
      go_loopw [59] (fun iv wr => ∃ k : Nat, k ≤ nP zs0 ∧ iv = .int .i64 k ∧ Hid (Buf w7.heap.size wr (some ⟨pg0, 0, none⟩) (nP zs0) (nP zs0) (incK ps0 (-1) k)) ∧ Hid (w8.grownBy wr (some pg0))) (fun iv _ => nP zs0 - (intOf iv).toNat)
      case atStart => exact ⟨0, Nat.zero_le _, rfl, HBE, Lib.hid (grown_refl _ _)⟩
      case round =>
        obtain ⟨k, hk, rfl, HBk, HGp⟩ := hrel
        by_cases hkn : k < nP zs0
        · obtain ⟨g, hga, hgb, hgl, hgc, hgf⟩ := HBk.out.at hkn
          have hga' : g = pg0 := by injection hga with hga; injection hga with hga; exact hga.symm
          subst hga'
          rw [incK_el ps0 (-1) k (Nat.le_refl _)] at hgc
          have HS : Hid (incK ps0 (-1) (k + 1) = (incK ps0 (-1) k).set k (wrap64 (el ps0 k - 1))) := Lib.hid (by show (incK ps0 (-1) k).set k (wrap64 (el ps0 k + -1)) = _; rw [show el ps0 k + -1 = el ps0 k - 1 by omega])
          generalize el ps0 k = z at *
          clear hga
          go_wp2_with fail
          go_roundw
          case rel => exact ⟨k + 1, by omega, by go_num, Lib.hid (by rw [HS.out]; exact buf_set HBk.out _), Lib.hid (grownBy_trans HGp.out (grownBy_setCell1 _ ⟨g, k, none⟩ _))⟩
          case measure => simp [intOf]; omega
        · obtain rfl : k = nP zs0 := by omega
          have hpgb : w7.heap.size ≤ pg0 := (World.ownsRow.lt HBk.out pg0 rfl).1
          have HGr : Hid (Grew w7 wr) := Lib.hid (Grew.trans_below HG78.out (grownBy_below HGp.out hpgb HG78.out.size) (Nat.le_refl _))
          have hTr := HT7.out.grow HGr.out
          have b1 := hTr.c1
          clear hTr
          go_wp2_with fail
          refine wp_region_held_drew (S := (fun W' => Grew wr W' ∧ W'.cell? ⟨w.heap.size, 1, none⟩ = some (.slice pa0 ps0.length pc0))) (by kernel_rfl) ⟨Grew.drew' (Grew.refl _), b1⟩ (fun hHeld => ?_)
          refine wpAnyH_ready (rs := [0]) (by kernel_rfl) (by simp) ?_
          refine AllReadyH.cons (o := { dst := some 69, op := Go.Op.call { callee := Go.Callee.value (Go.Operand.func 10), args := #[], argTypes := #[] }, type := 4, pos := _, after := #[], guard := none }) rfl (fun K hK => ?_) AllReadyH.nil
          go_simp
          (go_at_call 10; refine (alive9_any _).mono ?_; rintro e wa ⟨rfl, ga⟩; have HGa := Lib.hid ((Grew.drew' (Grew.refl wr)).trans ga))
          (try go_wp2_with fail)
          refine hK.out _ _ ?hS2 (fun hHeld => ?_)
          case hS2 => (try dsimp only); (obtain ⟨s0, s1⟩ := hHeld; exact ⟨s0.trans ga, kcG (ga.by' none) s1 (fun e => by cases e)⟩)
          clear hK K
          (try simp only [Act.put, List.setIfInBounds_toArray, List.set_cons_zero, List.set_cons_succ])
          refine wpAnyH_take (i := 1) (oi := { dst := some 70, op := Go.Op.move (Go.Operand.tmp 69), type := 4, pos := _, after := #[{ on := 0, ground := Go.Ground.data }, { on := 0, ground := Go.Ground.chain }], guard := none }) (v := ?v3) rfl (by kernel_rfl) (by kernel_rfl) (by kernel_rfl) (fun _ _ _ h => h) (Or.inl ⟨by kernel_rfl, ?hy3⟩) (by assumption) ?_
          case hy3 => intro w hSw; (try dsimp only at hSw); first | (go_simp; done) | (go_simp; with_reducible rfl)
          (try simp only [Act.put, List.setIfInBounds_toArray, List.set_cons_zero, List.set_cons_succ])
          refine wpAnyH_take (i := 2) (oi := { dst := some 71, op := Go.Op.move (Go.Operand.tmp 4), type := 29, pos := _, after := #[{ on := 1, ground := Go.Ground.guard }], guard := some (1, true) }) (v := ?v4) rfl (by kernel_rfl) (by kernel_rfl) (by kernel_rfl) (fun _ _ _ h => h) (Or.inl ⟨by kernel_rfl, ?hy4⟩) (by assumption) ?_
          case hy4 => intro w hSw; (try dsimp only at hSw); first | (go_simp; done) | (go_simp; with_reducible rfl)
          (try simp only [Act.put, List.setIfInBounds_toArray, List.set_cons_zero, List.set_cons_succ])
          refine wpAnyH_take (i := 4) (oi := { dst := some 73, op := Go.Op.fieldAddr 25 (Go.Operand.tmp 1) 1, type := 0, pos := _, after := #[{ on := 1, ground := Go.Ground.guard }], guard := some (1, true) }) (v := ?v5) rfl (by kernel_rfl) (by kernel_rfl) (by kernel_rfl) (fun _ _ _ h => h) (Or.inl ⟨by kernel_rfl, ?hy5⟩) (by assumption) ?_
          case hy5 => intro w hSw; (try dsimp only at hSw); first | (go_simp; done) | (go_simp; with_reducible rfl)
          (try simp only [Act.put, List.setIfInBounds_toArray, List.set_cons_zero, List.set_cons_succ])
          refine wpAnyH_take (i := 5) (oi := { dst := some 74, op := Go.Op.load 23 (Go.Operand.tmp 73), type := 23, pos := _, after := #[{ on := 4, ground := Go.Ground.data }, { on := 1, ground := Go.Ground.guard }], guard := some (1, true) }) (v := ?v6) rfl (by kernel_rfl) (by kernel_rfl) (by kernel_rfl) (fun _ _ _ h => h) (Or.inl ⟨by kernel_rfl, ?hy6⟩) (by assumption) ?_
          case hy6 => intro w hSw; (try dsimp only at hSw); first | (go_simp; done) | (go_simp; with_reducible rfl)
          (try simp only [Act.put, List.setIfInBounds_toArray, List.set_cons_zero, List.set_cons_succ])
          refine wpAnyH_ready (rs := [3]) (by kernel_rfl) (by simp) ?_
          refine AllReadyH.cons (o := { dst := some 72, op := Go.Op.call { callee := Go.Callee.value (Go.Operand.func 14), args := #[Go.Operand.tmp 71], argTypes := #[29] }, type := 32, pos := _, after := #[{ on := 2, ground := Go.Ground.data }, { on := 1, ground := Go.Ground.chain }, { on := 1, ground := Go.Ground.guard }], guard := some (1, true) }) rfl (fun K hK => ?_) AllReadyH.nil
          go_simp
          (go_at_call 14; refine (params_any HP.out (HN7.out.grow (HGr.out.trans HGa.out))).mono ?_; rintro e wb ⟨⟨pg, rfl, hbp⟩, gb⟩; have HGb := Lib.hid (HGa.out.trans gb))
          (try go_wp2_with fail)
          refine hK.out _ _ ?hS8 (fun hHeld => ?_)
          case hS8 => (try dsimp only); (obtain ⟨s0, s1⟩ := hHeld; exact ⟨s0.trans gb, kcG (gb.by' none) s1 (fun e => by cases e)⟩)
          clear hK K
          (try simp only [Act.put, List.setIfInBounds_toArray, List.set_cons_zero, List.set_cons_succ])
          refine wpAnyH_ready (rs := [6]) (by kernel_rfl) (by simp) ?_
          refine AllReadyH.cons (o := { dst := some 75, op := Go.Op.call { callee := Go.Callee.value (Go.Operand.func 15), args := #[Go.Operand.tmp 72, Go.Operand.tmp 74], argTypes := #[23, 23] }, type := 4, pos := _, after := #[{ on := 3, ground := Go.Ground.data }, { on := 5, ground := Go.Ground.data }, { on := 3, ground := Go.Ground.chain }, { on := 1, ground := Go.Ground.guard }], guard := some (1, true) }) rfl (fun K hK => ?_) AllReadyH.nil
          go_simp
          (go_at_call 15; refine (rsame_n (some ⟨pg, 0, none⟩) pa0 _ pc0 ps0 ps0 _ HPL.out rfl (by omega) (by omega) hbp.rd (HPR7.out.grow (HGr.out.trans HGb.out))).mono ?_; rintro e wc ⟨rfl, gc⟩; rw [decide_eq_true rfl]; have HGc := Lib.hid ((HG7.out.trans HGr.out).trans (HGb.out.trans gc)))
          (try go_wp2_with fail)
          refine hK.out _ _ ?hS10 (fun hHeld => ?_)
          case hS10 => (try dsimp only); (obtain ⟨s0, s1⟩ := hHeld; exact ⟨s0.trans gc, kcG (gc.by' none) s1 (fun e => by cases e)⟩)
          clear hK K
          (try simp only [Act.put, List.setIfInBounds_toArray, List.set_cons_zero, List.set_cons_succ])
          refine wpAnyH_take (i := 7) (oi := { dst := some 76, op := Go.Op.pick (Go.Operand.tmp 70) (Go.Operand.tmp 75) (Go.Operand.const (Go.Value.bool false)), type := 4, pos := _, after := #[{ on := 1, ground := Go.Ground.data }, { on := 6, ground := Go.Ground.data }], guard := none }) (v := ?v11) rfl (by kernel_rfl) (by kernel_rfl) (by kernel_rfl) (fun _ _ _ h => h) (Or.inl ⟨by kernel_rfl, ?hy11⟩) (by assumption) ?_
          case hy11 => intro w hSw; (try dsimp only at hSw); first | (go_simp; done) | (go_simp; with_reducible rfl)
          (try simp only [Act.put, List.setIfInBounds_toArray, List.set_cons_zero, List.set_cons_succ])
          refine wpAnyH_take (i := 8) (oi := { dst := some 2, op := Go.Op.assign (Go.Operand.tmp 76), type := 4, pos := _, after := #[{ on := 7, ground := Go.Ground.data }, { on := 6, ground := Go.Ground.chain }, { on := 0, ground := Go.Ground.phase }, { on := 1, ground := Go.Ground.phase }, { on := 2, ground := Go.Ground.phase }, { on := 3, ground := Go.Ground.phase }, { on := 4, ground := Go.Ground.phase }, { on := 5, ground := Go.Ground.phase }, { on := 6, ground := Go.Ground.phase }, { on := 7, ground := Go.Ground.phase }], guard := none }) (v := ?v12) rfl (by kernel_rfl) (by kernel_rfl) (by kernel_rfl) (fun _ _ _ h => h) (Or.inl ⟨by kernel_rfl, ?hy12⟩) (by assumption) ?_
          case hy12 => intro w hSw; (try dsimp only at hSw); first | (go_simp; done) | (go_simp; with_reducible rfl)
          (try simp only [Act.put, List.setIfInBounds_toArray, List.set_cons_zero, List.set_cons_succ])
          refine wpAnyH_done (by kernel_rfl) ?_ _
          go_wp2
          go_ret
          exact ⟨rfl, HGc.out⟩

set_option maxRecDepth 100000 in
set_option maxHeartbeats 4000000 in
theorem walk (sa0 : Option Addr) (sl0 sc0 : Nat) (pa0 : Option Addr) (pl0 pc0 : Nat) (q0 : Int) (zs0 ps0 : List Int) (w : World) (w0 : CameN w sa0 sl0 sc0 pa0 pl0 pc0 q0 zs0 ps0) :
    Calls Try.prog 3 #[.agg #[.slice sa0 sl0 sc0, .slice pa0 pl0 pc0, .int .i64 q0]] w fun e w' => e = .returned (.bool true) ∧ Below w.heap.size w w' := by
  have hfit := w0.fit
  obtain ⟨hsl, _, hscm, hsr, _, _⟩ := w0.1
  obtain ⟨hpl, _, hpcm, hpr, hpn, _⟩ := w0.2.1
  subst hsl hpl

  have hpcm' : ps0.length ≤ 9223372036854775807 := by omega
  cases hfew : fewN9 zs0 ps0 with
  | false => exact walk_few sa0 sc0 pa0 pc0 q0 zs0 ps0 w hsr hpcm' (Lib.hid hfew)
  | true =>
    have hRN := w0.rn hfew
    cases hright : rightN9 zs0 ps0 q0 with
    | false => exact walk_none sa0 sc0 pa0 pc0 q0 zs0 ps0 w hsr hpcm' (Lib.hid hfew) hRN hpn (few_in hfew).2.1 (Lib.hid hright) hRN.pcap hRN.pr
    | true => exact walk_net sa0 sc0 pa0 pc0 q0 zs0 ps0 w hsr hpcm' (Lib.hid hfew) hRN hpn (few_in hfew).2.1 (Lib.hid hright) (rightN9_yes hright hfit) hRN.pcap hRN.pr

set_option maxRecDepth 100000 in
theorem lifted (os : Os) (started : os.Started) (H : Type) (enc : TypeId × Value → H) :
    ReturnsInHanded {} Try.checked os 3 .any (Rows.netMakesSpec.pre6 enc Try.prog Try.f3 Rows.netMakesRow.domain false) (Rows.netMakesSpec.post enc Try.prog Try.f3 false true false false) := by
  refine returnsInHanded_of_change_sized (C := Try.checked) own started (by kernel_rfl) Try.func3
    (ChangeSpec.witness6 (enc := enc) (C := Try.checked) false ⟨#[], #[.agg #[.slice none 0 0, .slice none 0 0, .int .i64 0]], []⟩ 8 (by kernel_rfl) (by kernel_rfl) (by kernel_rfl) (by kernel_rfl)) ?_
  intro W base args ds gs before hval0 hW hcnd hsz0 _
  have hsz : (DataW.weightsEach Try.prog (Try.f3.params.toList ++ Rows.netMakesSpec.plain.varTypes Try.prog) (ds ++ gs)).all (· ≤ reachBytes) = true := hsz0
  have hval : ∀ (j : Nat) t v, Try.f3.params[j]? = some t → args[j]? = some v → Value.okWide Try.prog W .any base t v := hval0
  have hW' := hW
  obtain ⟨p, q, hA0, hV, rfl, hfz, hnd⟩ := hW
  have hA : DataW.TrodAll enc Try.prog W 0 (fun _ => true) true Try.f3.params.toList args.toList ds p := hA0
  rw [Try.params3] at hA hval hsz
  obtain ⟨v0, vs0, d0, ds0, p0, q0, hargs, rfl, rfl, h0, r0⟩ := trodAll_cons hA
  obtain ⟨rfl, rfl, rfl⟩ := trodAll_nil r0
  obtain rfl : args = #[v0] := by cases args; simp_all
  obtain ⟨rfl, rfl⟩ := trodVars_none hV
  have k0 := h0
  have lt0 : ∀ x ∈ p0, x.block < W.heap.size := by obtain ⟨m, hm⟩ := k0; exact DataW.trod_lt m _ _ _ hm
  obtain ⟨c00, c10, c20, y00, y10, y20, m0, rfl, rfl, rfl, hy00, hy10, hy20⟩ := Joins.open_agg3 Try.underlying25 (by kernel_rfl) (by kernel_rfl) (hval 0 25 v0 rfl rfl) h0
  obtain ⟨q0, e00, rfl, wq0⟩ := DataW.trod_int Try.underlying3 hy20
  simp at e00
  subst e00
  obtain ⟨sa0, sl0, sc0, zs0, rfl, sw0⟩ : ∃ a l c us, c00 = .slice a l c ∧ CameI .i64 W a l c us := by
    rcases open_ints Try.underlying22 Try.underlying3 (by kernel_rfl) hy00 with ⟨hcs, _⟩ | ⟨x, l, c, zs, hcs, _, hl, hm, hz, hx, hcell, hwz⟩
    · simp at hcs
      subst hcs
      exact ⟨none, 0, 0, [], rfl, cameI_none _ W⟩
    · simp at hcs
      subst hcs
      simp only [if_true] at hz
      exact ⟨some x, l, c, _, rfl, cameI_some hl hm hz hcell hwz⟩
  obtain ⟨pa0, pl0, pc0, ps0, rfl, pw0⟩ : ∃ a l c us, c10 = .slice a l c ∧ CameI .i64 W a l c us := by
    rcases open_ints Try.underlying23 Try.underlying2 (by kernel_rfl) hy10 with ⟨hcs, _⟩ | ⟨x, l, c, zs, hcs, _, hl, hm, hz, hx, hcell, hwz⟩
    · simp at hcs
      subst hcs
      exact ⟨none, 0, 0, [], rfl, cameI_none _ W⟩
    · simp at hcs
      subst hcs
      simp only [if_true] at hz
      exact ⟨some x, l, c, _, rfl, cameI_some hl hm hz hcell hwz⟩
  have w0 : CameN W sa0 sl0 sc0 pa0 pl0 pc0 q0 zs0 ps0 := ⟨sw0, pw0, wq0⟩
  clear hA0 hval0 hsz hsz0
  refine (walk sa0 sl0 sc0 pa0 pl0 pc0 q0 zs0 ps0 W w0).mono fun e W' ⟨he, bel⟩ => ?_
  subst he
  exact ⟨_, rfl, _, _, _, [], _, [], hW', trodAll_mk1 (shut_bool Try.underlying4 _), (trodAll_cons_mk (Below.trod laidOut (by kernel_rfl) (of_decide_eq_true (by kernel_rfl)) k0 bel lt0) trodAll_mk0), rfl, bel.frame _, fun h => by cases h⟩

theorem over : Rows.netMakesRow.holds Try.pinned (OpenSpec.ofChange Rows.netMakesSpec) :=
  OpenClaim.holds_of_wide 3 Try.f3 rfl rfl rfl rfl rfl rfl rfl ⟨rfl, rfl, rfl, rfl, rfl⟩ rfl rfl rfl rfl rfl (by kernel_rfl) Try.func3 (by kernel_rfl)
    (of_decide_eq_true (by kernel_rfl)) (by unfold Func.isWrapper; first | (rw [if_pos (by decide +kernel)]; kernel_rfl) | (rw [if_neg (by decide +kernel)]; exact ⟨rfl, rfl⟩))
    (fun os started H enc _ => lifted os started H enc)

theorem proved : Rows.NetMakesSaid := over
end Go.Proofs.Ytciocdjpgknihaa.netMakes
