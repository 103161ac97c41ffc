/-
  For all networks and examples, sakialaw09.NetBiases(n, x, y) returns true. No condition.
-/
import Derived.Test.YtciocdjpgknihaaRows
import Derived.Test.YtciocdjpgknihaaKy
import Derived.Lib.SmallJoins
import Derived.WalkKit
import Derived.ProofKit
import Derived.OpenShut
import Derived.ShutString
import Derived.ChangeOld
import Derived.Below
import Derived.SizedLaws
namespace Go.Proofs.Ytciocdjpgknihaa.netBiases
open Go.ChangeShapes Go.WideShapes Go.ChangeAt Go.RowKit
open Go.Proofs.Ytciocdjpgknihaa
set_option linter.unusedVariables false

theorem own : ownKnob Try.prog.godebug = none := by kernel_rfl
theorem laidOut : laidOutB Try.prog = true := by kernel_rfl

theorem grL_bias {zs ps x y : List Int} {q : Int} {k : Nat} (h : Right zs) (hk : k < sz zs (lnk zs)) : sz zs (lnk zs) ≤ nP zs ∧ nP zs - sz zs (lnk zs) + k < nP zs ∧ el (grL zs ps q x y) (nP zs - sz zs (lnk zs) + k) = wrap64 (el (trV zs ps q x (lnk zs)) k - el y k) := by
  have hl := lnk_in h
  obtain ⟨j, hj⟩ : ∃ j, lnk zs = j + 1 := ⟨lnk zs - 1, by omega⟩
  have h1 := oW_next h.2.2.1 (k := j) (by omega)
  rw [← hj, oW_nP] at h1
  have h2 := at_b h.2.2.1 (k := j) (r := k) (by omega) (by rw [← hj]; exact hk)
  have h3 := grE_b (ps := ps) (q := q) (x := x) (y := y) h.2.2.1 h2
  rw [← hj, erV_last, el_map hk] at h3
  refine ⟨by omega, by omega, ?_⟩
  unfold grL
  rw [el_map (by omega), show nP zs - sz zs (lnk zs) + k = oB zs j + k by omega]
  exact h3

set_option maxRecDepth 100000 in
set_option maxHeartbeats 4000000 in
theorem walk_few (sa0 : Option Addr) (sc0 : Nat) (pa0 : Option Addr) (pc0 : Nat) (q0 : Int) (zs0 ps0 : List Int) (a1 : Option Addr) (len1 cap1 : Nat) (zs1 : List Int) (a2 : Option Addr) (len2 cap2 : Nat) (zs2 : List Int) (w : World)
    (hsr : RdK .i64 w.heap.size w sa0 zs0)
    (hpcm' : ps0.length ≤ 9223372036854775807)
    (HFew : Hid (fewN9 zs0 ps0 = false)) :
    Calls Try.prog 8 #[.agg #[.slice sa0 zs0.length sc0, .slice pa0 ps0.length pc0, .int .i64 q0], .slice a1 len1 cap1, .slice a2 len2 cap2] w fun e w' => e = .returned (.bool true) ∧ Below w.heap.size w w' := by
  have gA : Grew w (w.alloc (.cells #[.slice sa0 zs0.length sc0, .slice pa0 ps0.length pc0, .int .i64 q0] 25)) := (Grew.refl w).alloc _
  have HG0 := Lib.hid gA
  have HT0 := Lib.hid (Three.new w 25 (.slice sa0 zs0.length sc0) (.slice pa0 ps0.length pc0) (.int .i64 q0))
  have HSR0 := Lib.hid (hsr.grow gA)
  have b0_0 := HT0.out.c0
  have b1_0 := HT0.out.c1
  have b2_0 := HT0.out.c2
  have hlt_0 := HT0.out.lt
  clear gA 
  go_enter Try.func8, Try.ntmps8
  go_wp2_with fail
  skip
  refine (few9_any (q := q0) HSR0.out hpcm').mono ?_
  rintro e w1_ ⟨rfl, g1⟩
  rw [HFew.out]
  have HG_1 := Lib.hid (HG0.out.trans g1)
  have HT_1 := Lib.hid (HT0.out.grow g1)
  clear b0_0 b1_0 b2_0 hlt_0
  have b0_1 := HT_1.out.c0
  have b1_1 := HT_1.out.c1
  have b2_1 := HT_1.out.c2
  have hlt_1 := HT_1.out.lt
  clear g1
  go_wp2_with fail
  refine (alive9_any _).mono ?_
  rintro e w2_ ⟨rfl, g2⟩
  have HG_2 := Lib.hid (HG_1.out.trans g2)
  have HT_2 := Lib.hid (HT_1.out.grow g2)
  clear b0_1 b1_1 b2_1 hlt_1
  have b0_2 := HT_2.out.c0
  have b1_2 := HT_2.out.c1
  have b2_2 := HT_2.out.c2
  have hlt_2 := HT_2.out.lt
  clear g2
  go_wp2
  go_ret
  exact ⟨rfl, HG_2.out⟩

set_option maxRecDepth 100000 in
set_option maxHeartbeats 4000000 in
theorem walk_right (sa0 : Option Addr) (sc0 : Nat) (pa0 : Option Addr) (pc0 : Nat) (q0 : Int) (zs0 ps0 : List Int) (a1 : Option Addr) (len1 cap1 : Nat) (zs1 : List Int) (a2 : Option Addr) (len2 cap2 : Nat) (zs2 : List Int) (w : World)
    (hsr : RdK .i64 w.heap.size w sa0 zs0)
    (hpcm' : ps0.length ≤ 9223372036854775807)
    (HFew : Hid (fewN9 zs0 ps0 = true))
    (HRight : Hid (rightN9 zs0 ps0 q0 = false))
    (hRN : RN w sa0 sc0 pa0 pc0 zs0 ps0) :
    Calls Try.prog 8 #[.agg #[.slice sa0 zs0.length sc0, .slice pa0 ps0.length pc0, .int .i64 q0], .slice a1 len1 cap1, .slice a2 len2 cap2] w fun e w' => e = .returned (.bool true) ∧ Below w.heap.size w w' := by
  have gA : Grew w (w.alloc (.cells #[.slice sa0 zs0.length sc0, .slice pa0 ps0.length pc0, .int .i64 q0] 25)) := (Grew.refl w).alloc _
  have HG0 := Lib.hid gA
  have HT0 := Lib.hid (Three.new w 25 (.slice sa0 zs0.length sc0) (.slice pa0 ps0.length pc0) (.int .i64 q0))
  have HSR0 := Lib.hid (hsr.grow gA)
  have HR0 := Lib.hid (hRN.grow gA)
  have b0_0 := HT0.out.c0
  have b1_0 := HT0.out.c1
  have b2_0 := HT0.out.c2
  have hlt_0 := HT0.out.lt
  clear gA 
  go_enter Try.func8, Try.ntmps8
  go_wp2_with fail
  skip
  refine (few9_any (q := q0) HSR0.out hpcm').mono ?_
  rintro e w1_ ⟨rfl, g1⟩
  rw [HFew.out]
  have HG_1 := Lib.hid (HG0.out.trans g1)
  have HT_1 := Lib.hid (HT0.out.grow g1)
  have HR_1 := Lib.hid (HR0.out.grow g1)
  clear b0_0 b1_0 b2_0 hlt_0
  have b0_1 := HT_1.out.c0
  have b1_1 := HT_1.out.c1
  have b2_1 := HT_1.out.c2
  have hlt_1 := HT_1.out.lt
  clear g1
  go_wp2_with fail
  refine (right9_any (q := q0) HR_1.out).mono ?_
  rintro e w2_ ⟨rfl, g2⟩
  rw [HRight.out]
  have HG_2 := Lib.hid (HG_1.out.trans g2)
  have HT_2 := Lib.hid (HT_1.out.grow g2)
  have HR_2 := Lib.hid (HR_1.out.grow g2)
  clear b0_1 b1_1 b2_1 hlt_1
  have b0_2 := HT_2.out.c0
  have b1_2 := HT_2.out.c1
  have b2_2 := HT_2.out.c2
  have hlt_2 := HT_2.out.lt
  clear g2
  go_wp2_with fail
  refine (alive9_any _).mono ?_
  rintro e w3_ ⟨rfl, g3⟩
  have HG_3 := Lib.hid (HG_2.out.trans g3)
  have HT_3 := Lib.hid (HT_2.out.grow g3)
  have HR_3 := Lib.hid (HR_2.out.grow g3)
  clear b0_2 b1_2 b2_2 hlt_2
  have b0_3 := HT_3.out.c0
  have b1_3 := HT_3.out.c1
  have b2_3 := HT_3.out.c2
  have hlt_3 := HT_3.out.lt
  clear g3
  go_wp2
  go_ret
  exact ⟨rfl, HG_3.out⟩

set_option maxRecDepth 100000 in
set_option maxHeartbeats 4000000 in
theorem walk_no (sb so : Nat) (sc0 : Nat) (pa0 : Option Addr) (pc0 : Nat) (q0 : Int) (zs0 ps0 : List Int) (a1 : Option Addr) (len1 cap1 : Nat) (zs1 : List Int) (a2 : Option Addr) (len2 cap2 : Nat) (zs2 : List Int) (w : World)
    (hsr : RdK .i64 w.heap.size w (some ⟨sb, so, none⟩) zs0)
    (hpcm' : ps0.length ≤ 9223372036854775807)
    (HFew : Hid (fewN9 zs0 ps0 = true))
    (HRight : Hid (rightN9 zs0 ps0 q0 = true))
    (hRN : RN w (some ⟨sb, so, none⟩) sc0 pa0 pc0 zs0 ps0)
    (hP : NetP zs0 ps0 q0)
    (HC : Hid (∀ W, Grew w W → W.cell? ⟨sb, so, none⟩ = some (.int .i64 (sz zs0 0)) ∧ W.cell? ⟨sb, so + lnk zs0, none⟩ = some (.int .i64 (sz zs0 (lnk zs0)))))
    (hzi : (0 : Int) < (zs0.length : Int))
    (hzl : 1 ≤ zs0.length)
    (hl1 : zs1.length = len1)
    (hrd1 : Rd w.heap.size w a1 zs1)
    (hf1 : Fit zs1)
    (hl2 : zs2.length = len2)
    (hrd2 : Rd w.heap.size w a2 zs2)
    (hf2 : Fit zs2)
    (hx0 : len1 ≠ sz zs0 0) :
    Calls Try.prog 8 #[.agg #[.slice (some ⟨sb, so, none⟩) zs0.length sc0, .slice pa0 ps0.length pc0, .int .i64 q0], .slice a1 len1 cap1, .slice a2 len2 cap2] w fun e w' => e = .returned (.bool true) ∧ Below w.heap.size w w' := by
  have HP := Lib.hid hP
  have hzm : (zs0.length : Int) - 1 = (lnk zs0 : Int) := by unfold lnk; omega
  have hzt : zs0.length - 1 = lnk zs0 := rfl
  have hwz : wrap64 (lnk zs0 : Int) = (lnk zs0 : Int) := by have := (lnk_in hP.right).2.1; exact wrap64_id (by omega) (by omega)
  have hmz : lnk zs0 < zs0.length := by unfold lnk; omega
  have hmzi : (lnk zs0 : Int) < (zs0.length : Int) := by omega
  have hnx : ((len1 : Int) != (sz zs0 0 : Int)) = true := bne_iff_ne.2 (by omega)
  have H_hx0 := Lib.hid hx0
  have H_hl1 := Lib.hid hl1
  have H_hf1 := Lib.hid hf1
  have H_hl2 := Lib.hid hl2
  have H_hf2 := Lib.hid hf2
  have H_hP := Lib.hid hP
  clear hx0 hl1 hf1 hl2 hf2 hP
  have gA : Grew w (w.alloc (.cells #[.slice (some ⟨sb, so, none⟩) zs0.length sc0, .slice pa0 ps0.length pc0, .int .i64 q0] 25)) := (Grew.refl w).alloc _
  have HG0 := Lib.hid gA
  have HT0 := Lib.hid (Three.new w 25 (.slice (some ⟨sb, so, none⟩) zs0.length sc0) (.slice pa0 ps0.length pc0) (.int .i64 q0))
  have HSR0 := Lib.hid (hsr.grow gA)
  have HR0 := Lib.hid (hRN.grow gA)
  have HX1_0 := Lib.hid (hrd1.grow gA)
  have HX2_0 := Lib.hid (hrd2.grow gA)
  have b0_0 := HT0.out.c0
  have b1_0 := HT0.out.c1
  have b2_0 := HT0.out.c2
  have hlt_0 := HT0.out.lt
  clear gA 
  go_enter Try.func8, Try.ntmps8
  go_wp2_with fail
  skip
  refine (few9_any (q := q0) HSR0.out hpcm').mono ?_
  rintro e w1_ ⟨rfl, g1⟩
  rw [HFew.out]
  have HG_1 := Lib.hid (HG0.out.trans g1)
  have HT_1 := Lib.hid (HT0.out.grow g1)
  have HR_1 := Lib.hid (HR0.out.grow g1)
  have HX1_1 := Lib.hid (HX1_0.out.grow g1)
  have HX2_1 := Lib.hid (HX2_0.out.grow g1)
  clear b0_0 b1_0 b2_0 hlt_0
  have b0_1 := HT_1.out.c0
  have b1_1 := HT_1.out.c1
  have b2_1 := HT_1.out.c2
  have hlt_1 := HT_1.out.lt
  clear g1
  go_wp2_with fail
  refine (right9_any (q := q0) HR_1.out).mono ?_
  rintro e w2_ ⟨rfl, g2⟩
  rw [HRight.out]
  have HG_2 := Lib.hid (HG_1.out.trans g2)
  have HT_2 := Lib.hid (HT_1.out.grow g2)
  have HR_2 := Lib.hid (HR_1.out.grow g2)
  have HX1_2 := Lib.hid (HX1_1.out.grow g2)
  have HX2_2 := Lib.hid (HX2_1.out.grow g2)
  clear b0_1 b1_1 b2_1 hlt_1
  have b0_2 := HT_2.out.c0
  have b1_2 := HT_2.out.c1
  have b2_2 := HT_2.out.c2
  have hlt_2 := HT_2.out.lt
  clear g2
  have hq0 := (HC.out _ HG_2.out).1
  have hqm := (HC.out _ HG_2.out).2
  go_wp2_with fail
  refine (alive9_any _).mono ?_
  rintro e w3_ ⟨rfl, g3⟩
  have HG_3 := Lib.hid (HG_2.out.trans g3)
  have HT_3 := Lib.hid (HT_2.out.grow g3)
  have HR_3 := Lib.hid (HR_2.out.grow g3)
  have HX1_3 := Lib.hid (HX1_2.out.grow g3)
  have HX2_3 := Lib.hid (HX2_2.out.grow g3)
  clear b0_2 b1_2 b2_2 hlt_2
  have b0_3 := HT_3.out.c0
  have b1_3 := HT_3.out.c1
  have b2_3 := HT_3.out.c2
  have hlt_3 := HT_3.out.lt
  clear g3
  go_wp2
  go_ret
  exact ⟨rfl, HG_3.out⟩

set_option maxRecDepth 100000 in
set_option maxHeartbeats 4000000 in
theorem walk_other (sb so : Nat) (sc0 : Nat) (pa0 : Option Addr) (pc0 : Nat) (q0 : Int) (zs0 ps0 : List Int) (a1 : Option Addr) (len1 cap1 : Nat) (zs1 : List Int) (a2 : Option Addr) (len2 cap2 : Nat) (zs2 : List Int) (w : World)
    (hsr : RdK .i64 w.heap.size w (some ⟨sb, so, none⟩) zs0)
    (hpcm' : ps0.length ≤ 9223372036854775807)
    (HFew : Hid (fewN9 zs0 ps0 = true))
    (HRight : Hid (rightN9 zs0 ps0 q0 = true))
    (hRN : RN w (some ⟨sb, so, none⟩) sc0 pa0 pc0 zs0 ps0)
    (hP : NetP zs0 ps0 q0)
    (HC : Hid (∀ W, Grew w W → W.cell? ⟨sb, so, none⟩ = some (.int .i64 (sz zs0 0)) ∧ W.cell? ⟨sb, so + lnk zs0, none⟩ = some (.int .i64 (sz zs0 (lnk zs0)))))
    (hzi : (0 : Int) < (zs0.length : Int))
    (hzl : 1 ≤ zs0.length)
    (hl1 : zs1.length = len1)
    (hrd1 : Rd w.heap.size w a1 zs1)
    (hf1 : Fit zs1)
    (hl2 : zs2.length = len2)
    (hrd2 : Rd w.heap.size w a2 zs2)
    (hf2 : Fit zs2)
    (hx0 : len1 = sz zs0 0)
    (hy0 : len2 ≠ sz zs0 (lnk zs0)) :
    Calls Try.prog 8 #[.agg #[.slice (some ⟨sb, so, none⟩) zs0.length sc0, .slice pa0 ps0.length pc0, .int .i64 q0], .slice a1 len1 cap1, .slice a2 len2 cap2] w fun e w' => e = .returned (.bool true) ∧ Below w.heap.size w w' := by
  have HP := Lib.hid hP
  have hzm : (zs0.length : Int) - 1 = (lnk zs0 : Int) := by unfold lnk; omega
  have hzt : zs0.length - 1 = lnk zs0 := rfl
  have hwz : wrap64 (lnk zs0 : Int) = (lnk zs0 : Int) := by have := (lnk_in hP.right).2.1; exact wrap64_id (by omega) (by omega)
  have hmz : lnk zs0 < zs0.length := by unfold lnk; omega
  have hmzi : (lnk zs0 : Int) < (zs0.length : Int) := by omega
  have hnx : ((len1 : Int) != (sz zs0 0 : Int)) = false := by rw [hx0]; exact bne_self_eq_false _
  have hny : ((len2 : Int) != (sz zs0 (lnk zs0) : Int)) = true := bne_iff_ne.2 (by omega)
  have H_hx0 := Lib.hid hx0
  have H_hy0 := Lib.hid hy0
  have H_hl1 := Lib.hid hl1
  have H_hf1 := Lib.hid hf1
  have H_hl2 := Lib.hid hl2
  have H_hf2 := Lib.hid hf2
  have H_hP := Lib.hid hP
  clear hx0 hy0 hl1 hf1 hl2 hf2 hP
  have gA : Grew w (w.alloc (.cells #[.slice (some ⟨sb, so, none⟩) zs0.length sc0, .slice pa0 ps0.length pc0, .int .i64 q0] 25)) := (Grew.refl w).alloc _
  have HG0 := Lib.hid gA
  have HT0 := Lib.hid (Three.new w 25 (.slice (some ⟨sb, so, none⟩) zs0.length sc0) (.slice pa0 ps0.length pc0) (.int .i64 q0))
  have HSR0 := Lib.hid (hsr.grow gA)
  have HR0 := Lib.hid (hRN.grow gA)
  have HX1_0 := Lib.hid (hrd1.grow gA)
  have HX2_0 := Lib.hid (hrd2.grow gA)
  have b0_0 := HT0.out.c0
  have b1_0 := HT0.out.c1
  have b2_0 := HT0.out.c2
  have hlt_0 := HT0.out.lt
  clear gA 
  go_enter Try.func8, Try.ntmps8
  go_wp2_with fail
  skip
  refine (few9_any (q := q0) HSR0.out hpcm').mono ?_
  rintro e w1_ ⟨rfl, g1⟩
  rw [HFew.out]
  have HG_1 := Lib.hid (HG0.out.trans g1)
  have HT_1 := Lib.hid (HT0.out.grow g1)
  have HR_1 := Lib.hid (HR0.out.grow g1)
  have HX1_1 := Lib.hid (HX1_0.out.grow g1)
  have HX2_1 := Lib.hid (HX2_0.out.grow g1)
  clear b0_0 b1_0 b2_0 hlt_0
  have b0_1 := HT_1.out.c0
  have b1_1 := HT_1.out.c1
  have b2_1 := HT_1.out.c2
  have hlt_1 := HT_1.out.lt
  clear g1
  go_wp2_with fail
  refine (right9_any (q := q0) HR_1.out).mono ?_
  rintro e w2_ ⟨rfl, g2⟩
  rw [HRight.out]
  have HG_2 := Lib.hid (HG_1.out.trans g2)
  have HT_2 := Lib.hid (HT_1.out.grow g2)
  have HR_2 := Lib.hid (HR_1.out.grow g2)
  have HX1_2 := Lib.hid (HX1_1.out.grow g2)
  have HX2_2 := Lib.hid (HX2_1.out.grow g2)
  clear b0_1 b1_1 b2_1 hlt_1
  have b0_2 := HT_2.out.c0
  have b1_2 := HT_2.out.c1
  have b2_2 := HT_2.out.c2
  have hlt_2 := HT_2.out.lt
  clear g2
  have hq0 := (HC.out _ HG_2.out).1
  have hqm := (HC.out _ HG_2.out).2
  go_wp2_with fail
  refine (alive9_any _).mono ?_
  rintro e w3_ ⟨rfl, g3⟩
  have HG_3 := Lib.hid (HG_2.out.trans g3)
  have HT_3 := Lib.hid (HT_2.out.grow g3)
  have HR_3 := Lib.hid (HR_2.out.grow g3)
  have HX1_3 := Lib.hid (HX1_2.out.grow g3)
  have HX2_3 := Lib.hid (HX2_2.out.grow g3)
  clear b0_2 b1_2 b2_2 hlt_2
  have b0_3 := HT_3.out.c0
  have b1_3 := HT_3.out.c1
  have b2_3 := HT_3.out.c2
  have hlt_3 := HT_3.out.lt
  clear g3
  go_wp2
  go_ret
  exact ⟨rfl, HG_3.out⟩

set_option maxRecDepth 100000 in
set_option maxHeartbeats 4000000 in
theorem walk_yes (sb so : Nat) (sc0 : Nat) (pa0 : Option Addr) (pc0 : Nat) (q0 : Int) (zs0 ps0 : List Int) (a1 : Option Addr) (len1 cap1 : Nat) (zs1 : List Int) (a2 : Option Addr) (len2 cap2 : Nat) (zs2 : List Int) (w : World)
    (hsr : RdK .i64 w.heap.size w (some ⟨sb, so, none⟩) zs0)
    (hpcm' : ps0.length ≤ 9223372036854775807)
    (HFew : Hid (fewN9 zs0 ps0 = true))
    (HRight : Hid (rightN9 zs0 ps0 q0 = true))
    (hRN : RN w (some ⟨sb, so, none⟩) sc0 pa0 pc0 zs0 ps0)
    (hP : NetP zs0 ps0 q0)
    (HC : Hid (∀ W, Grew w W → W.cell? ⟨sb, so, none⟩ = some (.int .i64 (sz zs0 0)) ∧ W.cell? ⟨sb, so + lnk zs0, none⟩ = some (.int .i64 (sz zs0 (lnk zs0)))))
    (hzi : (0 : Int) < (zs0.length : Int))
    (hzl : 1 ≤ zs0.length)
    (hl1 : zs1.length = len1)
    (hrd1 : Rd w.heap.size w a1 zs1)
    (hf1 : Fit zs1)
    (hl2 : zs2.length = len2)
    (hrd2 : Rd w.heap.size w a2 zs2)
    (hf2 : Fit zs2)
    (hx0 : len1 = sz zs0 0)
    (hy0 : len2 = sz zs0 (lnk zs0)) :
    Calls Try.prog 8 #[.agg #[.slice (some ⟨sb, so, none⟩) zs0.length sc0, .slice pa0 ps0.length pc0, .int .i64 q0], .slice a1 len1 cap1, .slice a2 len2 cap2] w fun e w' => e = .returned (.bool true) ∧ Below w.heap.size w w' := by
  have HP := Lib.hid hP
  have hzm : (zs0.length : Int) - 1 = (lnk zs0 : Int) := by unfold lnk; omega
  have hzt : zs0.length - 1 = lnk zs0 := rfl
  have hwz : wrap64 (lnk zs0 : Int) = (lnk zs0 : Int) := by have := (lnk_in hP.right).2.1; exact wrap64_id (by omega) (by omega)
  have hmz : lnk zs0 < zs0.length := by unfold lnk; omega
  have hmzi : (lnk zs0 : Int) < (zs0.length : Int) := by omega
  have hnx : ((len1 : Int) != (sz zs0 0 : Int)) = false := by rw [hx0]; exact bne_self_eq_false _
  have hny : ((len2 : Int) != (sz zs0 (lnk zs0) : Int)) = false := by rw [hy0]; exact bne_self_eq_false _
  have hl0 := lnk_in hP.right
  have hnp := nP_in hP.right
  have hsm := sz_in hP.right.2.2.1 (k := lnk zs0) (by omega)
  have hpl := hP.len
  have hnpl : ((nP zs0 : Int) != (ps0.length : Int)) = false := by rw [hpl]; exact bne_self_eq_false _
  have hoy : ((sz zs0 (lnk zs0) : Int) != (len2 : Int)) = false := by rw [hy0]; exact bne_self_eq_false _
  have HTL : Hid ((trV zs0 ps0 q0 zs1 (lnk zs0)).length = sz zs0 (lnk zs0)) := Lib.hid (trV_len (hl1.trans hx0) _)
  have HRY := Lib.hid (fun (W : World) {nb : Nat} (hN : NetM 0 W nb zs0 ps0 q0) (h1 : Rd W.heap.size W a1 zs1) => run_yes (c := cap1) W hP hN hl1 hx0 h1 hf1)
  have HGY := Lib.hid (fun (W : World) {nb : Nat} (hN : NetM 0 W nb zs0 ps0 q0) (h1 : Rd W.heap.size W a1 zs1) (h2 : Rd W.heap.size W a2 zs2) => grad_yes (c := cap1) (c' := cap2) W hP hN hl1 hx0 h1 hf1 hl2 hy0 h2)
  have HYL : Hid (zs2.length = sz zs0 (lnk zs0)) := Lib.hid (hl2.trans hy0)
  have HGB := Lib.hid (fun (k : Nat) (hk : k < sz zs0 (lnk zs0)) => grL_bias (ps := ps0) (q := q0) (x := zs1) (y := zs2) hP.right hk)
  have HGL := Lib.hid (grL_len zs0 ps0 q0 zs1 zs2)
  have HLM : Hid (len2 = sz zs0 (lnk zs0)) := Lib.hid hy0
  generalize grL zs0 ps0 q0 zs1 zs2 = GL at *
  generalize trV zs0 ps0 q0 zs1 (lnk zs0) = TL at *
  clear hl0 hpl
  have H_hx0 := Lib.hid hx0
  have H_hy0 := Lib.hid hy0
  have H_hl1 := Lib.hid hl1
  have H_hf1 := Lib.hid hf1
  have H_hl2 := Lib.hid hl2
  have H_hf2 := Lib.hid hf2
  have H_hP := Lib.hid hP
  clear hx0 hy0 hl1 hf1 hl2 hf2 hP
  have gA : Grew w (w.alloc (.cells #[.slice (some ⟨sb, so, none⟩) zs0.length sc0, .slice pa0 ps0.length pc0, .int .i64 q0] 25)) := (Grew.refl w).alloc _
  have HG0 := Lib.hid gA
  have HT0 := Lib.hid (Three.new w 25 (.slice (some ⟨sb, so, none⟩) zs0.length sc0) (.slice pa0 ps0.length pc0) (.int .i64 q0))
  have HSR0 := Lib.hid (hsr.grow gA)
  have HR0 := Lib.hid (hRN.grow gA)
  have HX1_0 := Lib.hid (hrd1.grow gA)
  have HX2_0 := Lib.hid (hrd2.grow gA)
  have b0_0 := HT0.out.c0
  have b1_0 := HT0.out.c1
  have b2_0 := HT0.out.c2
  have hlt_0 := HT0.out.lt
  clear gA 
  go_enter Try.func8, Try.ntmps8
  go_wp2_with fail
  skip
  refine (few9_any (q := q0) HSR0.out hpcm').mono ?_
  rintro e w1_ ⟨rfl, g1⟩
  rw [HFew.out]
  have HG_1 := Lib.hid (HG0.out.trans g1)
  have HT_1 := Lib.hid (HT0.out.grow g1)
  have HR_1 := Lib.hid (HR0.out.grow g1)
  have HX1_1 := Lib.hid (HX1_0.out.grow g1)
  have HX2_1 := Lib.hid (HX2_0.out.grow g1)
  clear b0_0 b1_0 b2_0 hlt_0
  have b0_1 := HT_1.out.c0
  have b1_1 := HT_1.out.c1
  have b2_1 := HT_1.out.c2
  have hlt_1 := HT_1.out.lt
  clear g1
  go_wp2_with fail
  refine (right9_any (q := q0) HR_1.out).mono ?_
  rintro e w2_ ⟨rfl, g2⟩
  rw [HRight.out]
  have HG_2 := Lib.hid (HG_1.out.trans g2)
  have HT_2 := Lib.hid (HT_1.out.grow g2)
  have HR_2 := Lib.hid (HR_1.out.grow g2)
  have HX1_2 := Lib.hid (HX1_1.out.grow g2)
  have HX2_2 := Lib.hid (HX2_1.out.grow g2)
  clear b0_1 b1_1 b2_1 hlt_1
  have b0_2 := HT_2.out.c0
  have b1_2 := HT_2.out.c1
  have b2_2 := HT_2.out.c2
  have hlt_2 := HT_2.out.lt
  clear g2
  have hq0 := (HC.out _ HG_2.out).1
  have hqm := (HC.out _ HG_2.out).2
  go_wp2_with fail
  refine (lnew_yes HP.out HR_2.out).mono ?_
  rintro e w3_ ⟨⟨nb, rfl, hn⟩, g3⟩
  have hn0 := hn.mono (Nat.zero_le _)
  have HG_3 := Lib.hid (HG_2.out.trans g3)
  have HT_3 := Lib.hid (HT_2.out.grow g3)
  have HR_3 := Lib.hid (HR_2.out.grow g3)
  have HX1_3 := Lib.hid (HX1_2.out.grow g3)
  have HX2_3 := Lib.hid (HX2_2.out.grow g3)
  have HN_3 := Lib.hid hn0
  clear b0_2 b1_2 b2_2 hlt_2
  have b0_3 := HT_3.out.c0
  have b1_3 := HT_3.out.c1
  have b2_3 := HT_3.out.c2
  have hlt_3 := HT_3.out.lt
  clear g3
  go_wp2_with fail
  refine (HRY.out _ HN_3.out HX1_3.out).mono ?_
  rintro e w4_ ⟨⟨rg, rc, rfl, hbr⟩, g4⟩
  clear hq0 hqm
  have HG_4 := Lib.hid (HG_3.out.trans g4)
  have HT_4 := Lib.hid (HT_3.out.grow g4)
  have HR_4 := Lib.hid (HR_3.out.grow g4)
  have HX1_4 := Lib.hid (HX1_3.out.grow g4)
  have HX2_4 := Lib.hid (HX2_3.out.grow g4)
  have HN_4 := Lib.hid (HN_3.out.grow g4)
  have HO_4 := Lib.hid hbr.rd
  clear b0_3 b1_3 b2_3 hlt_3
  have b0_4 := HT_4.out.c0
  have b1_4 := HT_4.out.c1
  have b2_4 := HT_4.out.c2
  have hlt_4 := HT_4.out.lt
  clear g4
  go_wp2_with fail
  refine (HGY.out _ HN_4.out HX1_4.out HX2_4.out).mono ?_
  rintro e w5_ ⟨⟨gg, rfl, hbg⟩, g5⟩
  have HG_5 := Lib.hid (HG_4.out.trans g5)
  have HT_5 := Lib.hid (HT_4.out.grow g5)
  have HR_5 := Lib.hid (HR_4.out.grow g5)
  have HX1_5 := Lib.hid (HX1_4.out.grow g5)
  have HX2_5 := Lib.hid (HX2_4.out.grow g5)
  have HN_5 := Lib.hid (HN_4.out.grow g5)
  have HO_5 := Lib.hid (HO_4.out.grow g5)
  have HA_5 := Lib.hid hbg.rd
  clear b0_4 b1_4 b2_4 hlt_4
  have b0_5 := HT_5.out.c0
  have b1_5 := HT_5.out.c1
  have b2_5 := HT_5.out.c2
  have hlt_5 := HT_5.out.lt
  clear g5
  go_wp2
  go_loopw [94] (fun iv wr => ∃ k : Nat, k ≤ sz zs0 (lnk zs0) ∧ iv = .int .i64 k ∧ Hid (Grew w5_ wr)) (fun iv _ => sz zs0 (lnk zs0) - (intOf iv).toNat)
  case atStart => exact ⟨0, Nat.zero_le _, rfl, Lib.hid (Grew.refl _)⟩
  case round =>
    obtain ⟨k, hk, rfl, HGr⟩ := hrel
    clear b0_5 b1_5 b2_5 hlt_5
    by_cases hks : k < sz zs0 (lnk zs0)
    · obtain ⟨hb1, hb2, hb3⟩ := HGB.out k hks
      obtain ⟨ob, oo, eo, hob, hoc⟩ := (HO_5.out.grow HGr.out).at (k := k) (by rw [HTL.out]; exact hks)
      obtain ⟨rfl, rfl⟩ : rg = ob ∧ 0 = oo := by injection eo with eo; injection eo with e1 e2; exact ⟨e1, e2⟩
      obtain ⟨gb, go, eg, hgb, hgc⟩ := (HA_5.out.grow HGr.out).at (k := nP zs0 - sz zs0 (lnk zs0) + k) (by rw [HGL.out]; exact hb2)
      obtain ⟨rfl, rfl⟩ : gg = gb ∧ 0 = go := by injection eg with eg; injection eg with e1 e2; exact ⟨e1, e2⟩
      obtain ⟨yb, yo, hya, hyb, hyc⟩ := (HX2_5.out.grow HGr.out).at (k := k) (by rw [HYL.out]; exact hks)
      rw [Nat.zero_add] at hoc hgc
      rw [hb3, ← wrapEq9] at hgc
      subst hya
      have hk2 : k < len2 := by rw [HLM.out]; exact hks
      have hk2i : (k : Int) < (len2 : Int) := by omega
      obtain ⟨D, hD⟩ : ∃ D, nP zs0 - sz zs0 (lnk zs0) = D := ⟨_, rfl⟩
      rw [hD] at hgc hb2
      obtain ⟨I, hI⟩ : ∃ I, D + k = I := ⟨_, rfl⟩
      rw [hI] at hgc hb2
      have hd1 : IntKind.i64.wrap ((nP zs0 : Int) - (len2 : Int)) = (D : Int) := by rw [show (nP zs0 : Int) - (len2 : Int) = (D : Int) by have := HLM.out; omega]; exact IntWalk.i64_in _ (by omega)
      have hd2 : IntKind.i64.wrap ((D : Int) + (k : Int)) = (I : Int) := by rw [show (D : Int) + (k : Int) = (I : Int) by omega]; exact IntWalk.i64_in _ (by omega)
      have hIi : (I : Int) < (nP zs0 : Int) := by omega
      generalize el TL k = ov at *
      generalize el zs2 k = yv at *
      clear hb3 hD hI hb1 eo eg
      go_wp2_with fail
      refine wp_region_held_drew (S := (fun W' => W'.cell? ⟨gg, I, none⟩ = some (.int .i64 (IntKind.i64.wrap (ov - yv))) ∧ W'.cell? ⟨yb, yo + k, none⟩ = some (.int .i64 yv))) (by kernel_rfl) ⟨hgc, hyc⟩ (fun hHeld => ?_)
      refine wpAnyH_take (i := 0) (oi := { dst := some 99, op := Go.Op.move (Go.Operand.tmp 11), type := 32, pos := _, after := #[], guard := none }) (v := ?v1) rfl (by kernel_rfl) (by kernel_rfl) (by kernel_rfl) (fun _ _ _ h => h) (Or.inl ⟨by kernel_rfl, ?hy1⟩) (by assumption) ?_
      case hy1 => intro w hSw; (try dsimp only at hSw); first | (go_simp; done) | (go_simp; with_reducible rfl)
      (try simp only [Act.put, List.setIfInBounds_toArray, List.set_cons_zero, List.set_cons_succ])
      refine wpAnyH_take (i := 1) (oi := { dst := some 100, op := Go.Op.move (Go.Operand.tmp 11), type := 32, pos := _, after := #[], guard := none }) (v := ?v2) rfl (by kernel_rfl) (by kernel_rfl) (by kernel_rfl) (fun _ _ _ h => h) (Or.inl ⟨by kernel_rfl, ?hy2⟩) (by assumption) ?_
      case hy2 => intro w hSw; (try dsimp only at hSw); first | (go_simp; done) | (go_simp; with_reducible rfl)
      (try simp only [Act.put, List.setIfInBounds_toArray, List.set_cons_zero, List.set_cons_succ])
      refine wpAnyH_take (i := 2) (oi := { dst := some 101, op := Go.Op.call { callee := Go.Callee.builtin Go.Builtin.len, args := #[Go.Operand.tmp 100], argTypes := #[32] }, type := 3, pos := _, after := #[{ on := 1, ground := Go.Ground.data }], guard := none }) (v := ?v3) rfl (by kernel_rfl) (by kernel_rfl) (by kernel_rfl) (fun _ _ _ h => h) (Or.inl ⟨by kernel_rfl, ?hy3⟩) (by assumption) ?_
      case hy3 => intro w hSw; (try dsimp only at hSw); first | (go_simp; done) | (go_simp; with_reducible rfl)
      (try simp only [Act.put, List.setIfInBounds_toArray, List.set_cons_zero, List.set_cons_succ])
      refine wpAnyH_take (i := 3) (oi := { dst := some 102, op := Go.Op.move (Go.Operand.tmp 2), type := 23, pos := _, after := #[], guard := none }) (v := ?v4) rfl (by kernel_rfl) (by kernel_rfl) (by kernel_rfl) (fun _ _ _ h => h) (Or.inl ⟨by kernel_rfl, ?hy4⟩) (by assumption) ?_
      case hy4 => intro w hSw; (try dsimp only at hSw); first | (go_simp; done) | (go_simp; with_reducible rfl)
      (try simp only [Act.put, List.setIfInBounds_toArray, List.set_cons_zero, List.set_cons_succ])
      refine wpAnyH_take (i := 4) (oi := { dst := some 103, op := Go.Op.call { callee := Go.Callee.builtin Go.Builtin.len, args := #[Go.Operand.tmp 102], argTypes := #[23] }, type := 3, pos := _, after := #[{ on := 3, ground := Go.Ground.data }], guard := none }) (v := ?v5) rfl (by kernel_rfl) (by kernel_rfl) (by kernel_rfl) (fun _ _ _ h => h) (Or.inl ⟨by kernel_rfl, ?hy5⟩) (by assumption) ?_
      case hy5 => intro w hSw; (try dsimp only at hSw); first | (go_simp; done) | (go_simp; with_reducible rfl)
      (try simp only [Act.put, List.setIfInBounds_toArray, List.set_cons_zero, List.set_cons_succ])
      refine wpAnyH_take (i := 5) (oi := { dst := some 104, op := Go.Op.binOp Go.BinOp.sub 3 (Go.Operand.tmp 101) (Go.Operand.tmp 103) 3, type := 3, pos := _, after := #[{ on := 2, ground := Go.Ground.data }, { on := 4, ground := Go.Ground.data }], guard := none }) (v := ?v6) rfl (by kernel_rfl) (by kernel_rfl) (by kernel_rfl) (fun _ _ _ h => h) (Or.inl ⟨by kernel_rfl, ?hy6⟩) (by assumption) ?_
      case hy6 => intro w hSw; (try dsimp only at hSw); first | (go_simp; done) | (go_simp; with_reducible rfl)
      (try simp only [Act.put, List.setIfInBounds_toArray, List.set_cons_zero, List.set_cons_succ])
      refine wpAnyH_take (i := 6) (oi := { dst := some 105, op := Go.Op.move (Go.Operand.tmp 13), type := 3, pos := _, after := #[], guard := none }) (v := ?v7) rfl (by kernel_rfl) (by kernel_rfl) (by kernel_rfl) (fun _ _ _ h => h) (Or.inl ⟨by kernel_rfl, ?hy7⟩) (by assumption) ?_
      case hy7 => intro w hSw; (try dsimp only at hSw); first | (go_simp; done) | (go_simp; with_reducible rfl)
      (try simp only [Act.put, List.setIfInBounds_toArray, List.set_cons_zero, List.set_cons_succ])
      refine wpAnyH_take (i := 7) (oi := { dst := some 106, op := Go.Op.binOp Go.BinOp.add 3 (Go.Operand.tmp 104) (Go.Operand.tmp 105) 3, type := 3, pos := _, after := #[{ on := 5, ground := Go.Ground.data }, { on := 6, ground := Go.Ground.data }], guard := none }) (v := ?v8) rfl (by kernel_rfl) (by kernel_rfl) (by kernel_rfl) (fun _ _ _ h => h) (Or.inl ⟨by kernel_rfl, ?hy8⟩) (by assumption) ?_
      case hy8 => intro w hSw; (try dsimp only at hSw); first | (go_simp; done) | (go_simp; with_reducible rfl)
      (try simp only [Act.put, List.setIfInBounds_toArray, List.set_cons_zero, List.set_cons_succ])
      refine wpAnyH_take (i := 8) (oi := { dst := some 107, op := Go.Op.indexAddr 32 (Go.Operand.tmp 99) (Go.Operand.tmp 106), type := 0, pos := _, after := #[{ on := 0, ground := Go.Ground.data }, { on := 7, ground := Go.Ground.data }], guard := none }) (v := ?v9) rfl (by kernel_rfl) (by kernel_rfl) (by kernel_rfl) (fun _ _ _ h => h) (Or.inl ⟨by kernel_rfl, ?hy9⟩) (by assumption) ?_
      case hy9 => intro w hSw; (try dsimp only at hSw); first | (go_simp; done) | (go_simp; with_reducible rfl)
      (try simp only [Act.put, List.setIfInBounds_toArray, List.set_cons_zero, List.set_cons_succ])
      refine wpAnyH_take (i := 9) (oi := { dst := some 108, op := Go.Op.load 2 (Go.Operand.tmp 107), type := 2, pos := _, after := #[{ on := 8, ground := Go.Ground.data }], guard := none }) (v := ?v10) rfl (by kernel_rfl) (by kernel_rfl) (by kernel_rfl) (fun _ _ _ h => h) (Or.inl ⟨by kernel_rfl, ?hy10⟩) (by assumption) ?_
      case hy10 => intro w hSw; (try dsimp only at hSw); first | (go_simp; done) | (go_simp; with_reducible rfl)
      (try simp only [Act.put, List.setIfInBounds_toArray, List.set_cons_zero, List.set_cons_succ])
      refine wpAnyH_take (i := 10) (oi := { dst := some 109, op := Go.Op.move (Go.Operand.tmp 14), type := 2, pos := _, after := #[], guard := none }) (v := ?v11) rfl (by kernel_rfl) (by kernel_rfl) (by kernel_rfl) (fun _ _ _ h => h) (Or.inl ⟨by kernel_rfl, ?hy11⟩) (by assumption) ?_
      case hy11 => intro w hSw; (try dsimp only at hSw); first | (go_simp; done) | (go_simp; with_reducible rfl)
      (try simp only [Act.put, List.setIfInBounds_toArray, List.set_cons_zero, List.set_cons_succ])
      refine wpAnyH_take (i := 11) (oi := { dst := some 110, op := Go.Op.move (Go.Operand.tmp 2), type := 23, pos := _, after := #[], guard := none }) (v := ?v12) rfl (by kernel_rfl) (by kernel_rfl) (by kernel_rfl) (fun _ _ _ h => h) (Or.inl ⟨by kernel_rfl, ?hy12⟩) (by assumption) ?_
      case hy12 => intro w hSw; (try dsimp only at hSw); first | (go_simp; done) | (go_simp; with_reducible rfl)
      (try simp only [Act.put, List.setIfInBounds_toArray, List.set_cons_zero, List.set_cons_succ])
      refine wpAnyH_take (i := 12) (oi := { dst := some 111, op := Go.Op.move (Go.Operand.tmp 13), type := 3, pos := _, after := #[], guard := none }) (v := ?v13) rfl (by kernel_rfl) (by kernel_rfl) (by kernel_rfl) (fun _ _ _ h => h) (Or.inl ⟨by kernel_rfl, ?hy13⟩) (by assumption) ?_
      case hy13 => intro w hSw; (try dsimp only at hSw); first | (go_simp; done) | (go_simp; with_reducible rfl)
      (try simp only [Act.put, List.setIfInBounds_toArray, List.set_cons_zero, List.set_cons_succ])
      refine wpAnyH_take (i := 13) (oi := { dst := some 112, op := Go.Op.indexAddr 23 (Go.Operand.tmp 110) (Go.Operand.tmp 111), type := 0, pos := _, after := #[{ on := 11, ground := Go.Ground.data }, { on := 12, ground := Go.Ground.data }], guard := none }) (v := ?v14) rfl (by kernel_rfl) (by kernel_rfl) (by kernel_rfl) (fun _ _ _ h => h) (Or.inl ⟨by kernel_rfl, ?hy14⟩) (by assumption) ?_
      case hy14 => intro w hSw; (try dsimp only at hSw); first | (go_simp; done) | (go_simp; with_reducible rfl)
      (try simp only [Act.put, List.setIfInBounds_toArray, List.set_cons_zero, List.set_cons_succ])
      refine wpAnyH_take (i := 14) (oi := { dst := some 113, op := Go.Op.load 2 (Go.Operand.tmp 112), type := 2, pos := _, after := #[{ on := 13, ground := Go.Ground.data }], guard := none }) (v := ?v15) rfl (by kernel_rfl) (by kernel_rfl) (by kernel_rfl) (fun _ _ _ h => h) (Or.inl ⟨by kernel_rfl, ?hy15⟩) (by assumption) ?_
      case hy15 => intro w hSw; (try dsimp only at hSw); first | (go_simp; done) | (go_simp; with_reducible rfl)
      (try simp only [Act.put, List.setIfInBounds_toArray, List.set_cons_zero, List.set_cons_succ])
      refine wpAnyH_take (i := 15) (oi := { dst := some 114, op := Go.Op.binOp Go.BinOp.sub 2 (Go.Operand.tmp 109) (Go.Operand.tmp 113) 2, type := 2, pos := _, after := #[{ on := 10, ground := Go.Ground.data }, { on := 14, ground := Go.Ground.data }], guard := none }) (v := ?v16) rfl (by kernel_rfl) (by kernel_rfl) (by kernel_rfl) (fun _ _ _ h => h) (Or.inl ⟨by kernel_rfl, ?hy16⟩) (by assumption) ?_
      case hy16 => intro w hSw; (try dsimp only at hSw); first | (go_simp; done) | (go_simp; with_reducible rfl)
      (try simp only [Act.put, List.setIfInBounds_toArray, List.set_cons_zero, List.set_cons_succ])
      refine wpAnyH_take (i := 16) (oi := { dst := some 115, op := Go.Op.binOp Go.BinOp.neq 2 (Go.Operand.tmp 108) (Go.Operand.tmp 114) 2, type := 4, pos := _, after := #[{ on := 9, ground := Go.Ground.data }, { on := 15, ground := Go.Ground.data }], guard := none }) (v := ?v17) rfl (by kernel_rfl) (by kernel_rfl) (by kernel_rfl) (fun _ _ _ h => h) (Or.inl ⟨by kernel_rfl, ?hy17⟩) (by assumption) ?_
      case hy17 => intro w hSw; (try dsimp only at hSw); first | (go_simp; done) | (go_simp; with_reducible rfl)
      (try simp only [Act.put, List.setIfInBounds_toArray, List.set_cons_zero, List.set_cons_succ])
      refine wpAnyH_done (by kernel_rfl) ?_ _
      have HGd := Lib.hid (Grew.drew' HGr.out)
      clear hHeld hgc hyc hoc
      go_wp2
      go_roundw
      case rel => exact ⟨k + 1, by omega, by go_num, HGd⟩
      case measure => simp [intOf]; omega
    · obtain rfl : k = sz zs0 (lnk zs0) := by omega
      have HGw := Lib.hid (HG_5.out.trans HGr.out)
      go_wp2_with fail
      refine (trace_nil _ _ _ _).mono ?_
      rintro e wa ⟨rfl, ga⟩
      go_wp2_with fail
      refine (grad_nil _ _ _ _ _ _ _).mono ?_
      rintro e wb ⟨rfl, gb⟩
      go_wp2_with fail
      refine (loss_nil _ _ _ _ _ _ _).mono ?_
      rintro e wc ⟨rfl, gc⟩
      go_wp2_with fail
      refine (alive9_any _).mono ?_
      rintro e wd ⟨rfl, gd⟩
      have HGd := Lib.hid ((((HGw.out.trans ga).trans gb).trans gc).trans gd)
      clear ga gb gc gd
      go_wp2_with fail
      refine (params_nil _).mono ?_
      rintro e we ⟨rfl, rfl⟩
      go_wp2
      go_ret
      exact ⟨rfl, HGd.out⟩

set_option maxRecDepth 100000 in
set_option maxHeartbeats 4000000 in
theorem walk (sa0 : Option Addr) (sl0 sc0 : Nat) (pa0 : Option Addr) (pl0 pc0 : Nat) (q0 : Int) (zs0 ps0 : List Int) (a1 : Option Addr) (len1 cap1 : Nat) (zs1 : List Int) (a2 : Option Addr) (len2 cap2 : Nat) (zs2 : List Int) (w : World) (w0 : CameN w sa0 sl0 sc0 pa0 pl0 pc0 q0 zs0 ps0) (w1 : CameK .i64 w a1 len1 cap1 zs1) (w2 : CameK .i64 w a2 len2 cap2 zs2) :
    Calls Try.prog 8 #[.agg #[.slice sa0 sl0 sc0, .slice pa0 pl0 pc0, .int .i64 q0], .slice a1 len1 cap1, .slice a2 len2 cap2] w fun e w' => e = .returned (.bool true) ∧ Below w.heap.size w w' := by
  have hfit := w0.fit
  obtain ⟨hsl, _, hscm, hsr, _, _⟩ := w0.1
  obtain ⟨hpl, _, hpcm, hpr, hpn, _⟩ := w0.2.1
  subst hsl hpl

  obtain ⟨hl1, hlc1, hr1, hrd1, hnn1, hwf1⟩ := w1
  have hf1 : Fit zs1 := fun j hj => in64_wf (hwf1 j hj)
  have hcm1 : cap1 ≤ 9223372036854775807 := by omega
  clear hwf1

  obtain ⟨hl2, hlc2, hr2, hrd2, hnn2, hwf2⟩ := w2
  have hf2 : Fit zs2 := fun j hj => in64_wf (hwf2 j hj)
  have hcm2 : cap2 ≤ 9223372036854775807 := by omega
  clear hwf2

  have hpcm' : ps0.length ≤ 9223372036854775807 := by have := w0.2.1.2.1; have := w0.2.1.2.2.1; omega
  cases hfew : fewN9 zs0 ps0 with
  | false => exact walk_few sa0 sc0 pa0 pc0 q0 zs0 ps0 a1 len1 cap1 zs1 a2 len2 cap2 zs2 w hsr hpcm' (Lib.hid hfew)
  | true =>
    have hRN := w0.rn hfew
    have hfi := few_in hfew
    have HFew := Lib.hid hfew
    cases hright : rightN9 zs0 ps0 q0 with
    | false => exact walk_right sa0 sc0 pa0 pc0 q0 zs0 ps0 a1 len1 cap1 zs1 a2 len2 cap2 zs2 w hsr hpcm' HFew (Lib.hid hright) hRN
    | true =>
      have HRight := Lib.hid hright
      have hP := rightN9_yes hright hfit
      have hl := lnk_in hP.right
      have hok := hP.right.2.2.1
      have hs0 := sz_in hok (k := 0) (by omega)
      have hsm := sz_in hok (k := lnk zs0) (by omega)
      have hnp := nP_in hP.right
      obtain ⟨sb, so, hsa, hsb, hc0⟩ := hsr.at (k := 0) (by omega)
      obtain ⟨sb', so', hsa', _, hcm⟩ := hsr.at (k := lnk zs0) (by omega)
      subst hsa
      obtain ⟨rfl, rfl⟩ : sb = sb' ∧ so = so' := by injection hsa' with e; injection e with e1 e2; exact ⟨e1, e2⟩
      rw [← sz_eq hok (by omega)] at hc0 hcm
      rw [Nat.add_zero] at hc0
      have HC : Hid (∀ W, Grew w W → W.cell? ⟨sb, so, none⟩ = some (.int .i64 (sz zs0 0)) ∧ W.cell? ⟨sb, so + lnk zs0, none⟩ = some (.int .i64 (sz zs0 (lnk zs0)))) := Lib.hid (fun W g => ⟨kcG (g.by' none) hc0 (fun e => by cases e), kcG (g.by' none) hcm (fun e => by cases e)⟩)
      have hzi : (0 : Int) < (zs0.length : Int) := by omega
      have hzl : 1 ≤ zs0.length := by omega
      by_cases hx0 : len1 = sz zs0 0
      · by_cases hy0 : len2 = sz zs0 (lnk zs0)
        · exact walk_yes sb so sc0 pa0 pc0 q0 zs0 ps0 a1 len1 cap1 zs1 a2 len2 cap2 zs2 w hsr hpcm' HFew HRight hRN hP HC hzi hzl  hl1 hrd1 hf1 hl2 hrd2 hf2 hx0 hy0
        · exact walk_other sb so sc0 pa0 pc0 q0 zs0 ps0 a1 len1 cap1 zs1 a2 len2 cap2 zs2 w hsr hpcm' HFew HRight hRN hP HC hzi hzl  hl1 hrd1 hf1 hl2 hrd2 hf2 hx0 hy0
      · exact walk_no sb so sc0 pa0 pc0 q0 zs0 ps0 a1 len1 cap1 zs1 a2 len2 cap2 zs2 w hsr hpcm' HFew HRight hRN hP HC hzi hzl  hl1 hrd1 hf1 hl2 hrd2 hf2 hx0

set_option maxRecDepth 100000 in
theorem lifted (os : Os) (started : os.Started) (H : Type) (enc : TypeId × Value → H) :
    ReturnsInHanded {} Try.checked os 8 .any (Rows.netBiasesSpec.pre6 enc Try.prog Try.f8 Rows.netBiasesRow.domain false) (Rows.netBiasesSpec.post enc Try.prog Try.f8 false true false false) := by
  refine returnsInHanded_of_change_sized (C := Try.checked) own started (by kernel_rfl) Try.func8
    (ChangeSpec.witness6 (enc := enc) (C := Try.checked) false ⟨#[], #[.agg #[.slice none 0 0, .slice none 0 0, .int .i64 0], .slice none 0 0, .slice none 0 0], []⟩ 8 (by kernel_rfl) (by kernel_rfl) (by kernel_rfl) (by kernel_rfl)) ?_
  intro W base args ds gs before hval0 hW hcnd hsz0 _
  have hsz : (DataW.weightsEach Try.prog (Try.f8.params.toList ++ Rows.netBiasesSpec.plain.varTypes Try.prog) (ds ++ gs)).all (· ≤ reachBytes) = true := hsz0
  have hval : ∀ (j : Nat) t v, Try.f8.params[j]? = some t → args[j]? = some v → Value.okWide Try.prog W .any base t v := hval0
  have hW' := hW
  obtain ⟨p, q, hA0, hV, rfl, hfz, hnd⟩ := hW
  have hA : DataW.TrodAll enc Try.prog W 0 (fun _ => true) true Try.f8.params.toList args.toList ds p := hA0
  rw [Try.params8] at hA hval hsz
  obtain ⟨v0, vs0, d0, ds0, p0, q0, hargs, rfl, rfl, h0, r0⟩ := trodAll_cons hA
  obtain ⟨v1, vs1, d1, ds1, p1, q1, rfl, rfl, rfl, h1, r1⟩ := trodAll_cons r0
  obtain ⟨v2, vs2, d2, ds2, p2, q2, rfl, rfl, rfl, h2, r2⟩ := trodAll_cons r1
  obtain ⟨rfl, rfl, rfl⟩ := trodAll_nil r2
  obtain rfl : args = #[v0, v1, v2] := by cases args; simp_all
  obtain ⟨rfl, rfl⟩ := trodVars_none hV
  have k0 := h0
  have lt0 : ∀ x ∈ p0, x.block < W.heap.size := by obtain ⟨m, hm⟩ := k0; exact DataW.trod_lt m _ _ _ hm
  obtain ⟨c00, c10, c20, y00, y10, y20, m0, rfl, rfl, rfl, hy00, hy10, hy20⟩ := Joins.open_agg3 Try.underlying25 (by kernel_rfl) (by kernel_rfl) (hval 0 25 v0 rfl rfl) h0
  obtain ⟨q0, e00, rfl, wq0⟩ := DataW.trod_int Try.underlying3 hy20
  simp at e00
  subst e00
  obtain ⟨sa0, sl0, sc0, zs0, rfl, sw0⟩ : ∃ a l c us, c00 = .slice a l c ∧ CameI .i64 W a l c us := by
    rcases open_ints Try.underlying22 Try.underlying3 (by kernel_rfl) hy00 with ⟨hcs, _⟩ | ⟨x, l, c, zs, hcs, _, hl, hm, hz, hx, hcell, hwz⟩
    · simp at hcs
      subst hcs
      exact ⟨none, 0, 0, [], rfl, cameI_none _ W⟩
    · simp at hcs
      subst hcs
      simp only [if_true] at hz
      exact ⟨some x, l, c, _, rfl, cameI_some hl hm hz hcell hwz⟩
  obtain ⟨pa0, pl0, pc0, ps0, rfl, pw0⟩ : ∃ a l c us, c10 = .slice a l c ∧ CameI .i64 W a l c us := by
    rcases open_ints Try.underlying23 Try.underlying2 (by kernel_rfl) hy10 with ⟨hcs, _⟩ | ⟨x, l, c, zs, hcs, _, hl, hm, hz, hx, hcell, hwz⟩
    · simp at hcs
      subst hcs
      exact ⟨none, 0, 0, [], rfl, cameI_none _ W⟩
    · simp at hcs
      subst hcs
      simp only [if_true] at hz
      exact ⟨some x, l, c, _, rfl, cameI_some hl hm hz hcell hwz⟩
  have w0 : CameN W sa0 sl0 sc0 pa0 pl0 pc0 q0 zs0 ps0 := ⟨sw0, pw0, wq0⟩
  have k1 := h1
  have lt1 : ∀ x ∈ p1, x.block < W.heap.size := by obtain ⟨m, hm⟩ := k1; exact DataW.trod_lt m _ _ _ hm
  obtain ⟨a1, len1, cap1, rfl⟩ := okWide_slice Try.underlying23 (hval 1 23 v1 rfl rfl)
  obtain ⟨zs1, w1⟩ : ∃ us, CameK .i64 W a1 len1 cap1 us := by
    obtain ⟨fuel, hf⟩ := h1
    rcases open_ints Try.underlying23 Try.underlying2 (by kernel_rfl) hf with ⟨hcs, _⟩ | ⟨x, l, c, zs, hcs, _, hl, hm, hz, hx, hcell, hwz⟩
    · simp [Value.cells] at hcs
      obtain ⟨rfl, rfl, rfl⟩ := hcs
      exact ⟨[], cameK_none _ W⟩
    · simp [Value.cells] at hcs
      obtain ⟨rfl, rfl, rfl⟩ := hcs
      simp only [if_true] at hz
      have hd := congrArg Prod.fst hx
      have hreach : cap1 * 8 ≤ 140737488351232 := by
        have hs := sized_slice hsz (j := 1) (t := 23) (e := 2) rfl (congrArg some hd) Try.underlying23
        rw [show Try.prog.bytesOf 2 = 8 from by kernel_rfl] at hs
        simp only [lits, List.length_map, List.length_take, List.length_drop, reachBytes] at hs
        omega
      exact ⟨_, cameK_some hl hreach hz hcell hwz⟩
  have k2 := h2
  have lt2 : ∀ x ∈ p2, x.block < W.heap.size := by obtain ⟨m, hm⟩ := k2; exact DataW.trod_lt m _ _ _ hm
  obtain ⟨a2, len2, cap2, rfl⟩ := okWide_slice Try.underlying23 (hval 2 23 v2 rfl rfl)
  obtain ⟨zs2, w2⟩ : ∃ us, CameK .i64 W a2 len2 cap2 us := by
    obtain ⟨fuel, hf⟩ := h2
    rcases open_ints Try.underlying23 Try.underlying2 (by kernel_rfl) hf with ⟨hcs, _⟩ | ⟨x, l, c, zs, hcs, _, hl, hm, hz, hx, hcell, hwz⟩
    · simp [Value.cells] at hcs
      obtain ⟨rfl, rfl, rfl⟩ := hcs
      exact ⟨[], cameK_none _ W⟩
    · simp [Value.cells] at hcs
      obtain ⟨rfl, rfl, rfl⟩ := hcs
      simp only [if_true] at hz
      have hd := congrArg Prod.fst hx
      have hreach : cap2 * 8 ≤ 140737488351232 := by
        have hs := sized_slice hsz (j := 2) (t := 23) (e := 2) rfl (congrArg some hd) Try.underlying23
        rw [show Try.prog.bytesOf 2 = 8 from by kernel_rfl] at hs
        simp only [lits, List.length_map, List.length_take, List.length_drop, reachBytes] at hs
        omega
      exact ⟨_, cameK_some hl hreach hz hcell hwz⟩
  clear hA0 hval0 hsz hsz0
  refine (walk sa0 sl0 sc0 pa0 pl0 pc0 q0 zs0 ps0 a1 len1 cap1 zs1 a2 len2 cap2 zs2 W w0 w1 w2).mono fun e W' ⟨he, bel⟩ => ?_
  subst he
  exact ⟨_, rfl, _, _, _, [], _, [], hW', trodAll_mk1 (shut_bool Try.underlying4 _), (trodAll_cons_mk (Below.trod laidOut (by kernel_rfl) (of_decide_eq_true (by kernel_rfl)) k0 bel lt0) (trodAll_cons_mk (Below.trod laidOut (by kernel_rfl) (of_decide_eq_true (by kernel_rfl)) k1 bel lt1) (trodAll_cons_mk (Below.trod laidOut (by kernel_rfl) (of_decide_eq_true (by kernel_rfl)) k2 bel lt2) trodAll_mk0))), rfl, bel.frame _, fun h => by cases h⟩

theorem over : Rows.netBiasesRow.holds Try.pinned (OpenSpec.ofChange Rows.netBiasesSpec) :=
  OpenClaim.holds_of_wide 8 Try.f8 rfl rfl rfl rfl rfl rfl rfl ⟨rfl, rfl, rfl, rfl, rfl⟩ rfl rfl rfl rfl rfl (by kernel_rfl) Try.func8 (by kernel_rfl)
    (of_decide_eq_true (by kernel_rfl)) (by unfold Func.isWrapper; first | (rw [if_pos (by decide +kernel)]; kernel_rfl) | (rw [if_neg (by decide +kernel)]; exact ⟨rfl, rfl⟩))
    (fun os started H enc _ => lifted os started H enc)

theorem proved : Rows.NetBiasesSaid := over
end Go.Proofs.Ytciocdjpgknihaa.netBiases
