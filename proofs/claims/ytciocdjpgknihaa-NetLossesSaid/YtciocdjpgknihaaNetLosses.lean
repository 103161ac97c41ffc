/-
  For all networks and examples, sakialaw09.NetLosses(n, x, y) returns true. No condition.
-/
import Derived.Test.YtciocdjpgknihaaRows
import Derived.Test.YtciocdjpgknihaaKy
import Derived.Lib.SmallJoins
import Derived.WalkKit
import Derived.ProofKit
import Derived.OpenShut
import Derived.ShutString
import Derived.ChangeOld
import Derived.Below
import Derived.SizedLaws
namespace Go.Proofs.Ytciocdjpgknihaa.netLosses
open Go.ChangeShapes Go.WideShapes Go.ChangeAt Go.RowKit
open Go.Proofs.Ytciocdjpgknihaa
set_option linter.unusedVariables false

theorem own : ownKnob Try.prog.godebug = none := by kernel_rfl
theorem laidOut : laidOutB Try.prog = true := by kernel_rfl

set_option maxRecDepth 100000 in
set_option maxHeartbeats 4000000 in
theorem walk_few (sa0 : Option Addr) (sc0 : Nat) (pa0 : Option Addr) (pc0 : Nat) (q0 : Int) (zs0 ps0 : List Int) (a1 : Option Addr) (len1 cap1 : Nat) (zs1 : List Int) (a2 : Option Addr) (len2 cap2 : Nat) (zs2 : List Int) (w : World)
    (hsr : RdK .i64 w.heap.size w sa0 zs0)
    (hpcm' : ps0.length ≤ 9223372036854775807)
    (HFew : Hid (fewN9 zs0 ps0 = false)) :
    Calls Try.prog 6 #[.agg #[.slice sa0 zs0.length sc0, .slice pa0 ps0.length pc0, .int .i64 q0], .slice a1 len1 cap1, .slice a2 len2 cap2] w fun e w' => e = .returned (.bool true) ∧ Below w.heap.size w w' := by
  have gA : Grew w (w.alloc (.cells #[.slice sa0 zs0.length sc0, .slice pa0 ps0.length pc0, .int .i64 q0] 25)) := (Grew.refl w).alloc _
  have HG0 := Lib.hid gA
  have HT0 := Lib.hid (Three.new w 25 (.slice sa0 zs0.length sc0) (.slice pa0 ps0.length pc0) (.int .i64 q0))
  have HSR0 := Lib.hid (hsr.grow gA)
  have b0_0 := HT0.out.c0
  have b1_0 := HT0.out.c1
  have b2_0 := HT0.out.c2
  have hlt_0 := HT0.out.lt
  clear gA 
  go_enter Try.func6, Try.ntmps6
  go_wp2_with fail
  skip
  refine (few9_any (q := q0) HSR0.out hpcm').mono ?_
  rintro e w1_ ⟨rfl, g1⟩
  rw [HFew.out]
  have HG_1 := Lib.hid (HG0.out.trans g1)
  have HT_1 := Lib.hid (HT0.out.grow g1)
  clear b0_0 b1_0 b2_0 hlt_0
  have b0_1 := HT_1.out.c0
  have b1_1 := HT_1.out.c1
  have b2_1 := HT_1.out.c2
  have hlt_1 := HT_1.out.lt
  clear g1
  go_wp2_with fail
  refine (alive9_any _).mono ?_
  rintro e w2_ ⟨rfl, g2⟩
  have HG_2 := Lib.hid (HG_1.out.trans g2)
  have HT_2 := Lib.hid (HT_1.out.grow g2)
  clear b0_1 b1_1 b2_1 hlt_1
  have b0_2 := HT_2.out.c0
  have b1_2 := HT_2.out.c1
  have b2_2 := HT_2.out.c2
  have hlt_2 := HT_2.out.lt
  clear g2
  go_wp2
  go_ret
  exact ⟨rfl, HG_2.out⟩

set_option maxRecDepth 100000 in
set_option maxHeartbeats 4000000 in
theorem walk_right (sa0 : Option Addr) (sc0 : Nat) (pa0 : Option Addr) (pc0 : Nat) (q0 : Int) (zs0 ps0 : List Int) (a1 : Option Addr) (len1 cap1 : Nat) (zs1 : List Int) (a2 : Option Addr) (len2 cap2 : Nat) (zs2 : List Int) (w : World)
    (hsr : RdK .i64 w.heap.size w sa0 zs0)
    (hpcm' : ps0.length ≤ 9223372036854775807)
    (HFew : Hid (fewN9 zs0 ps0 = true))
    (HRight : Hid (rightN9 zs0 ps0 q0 = false))
    (hRN : RN w sa0 sc0 pa0 pc0 zs0 ps0) :
    Calls Try.prog 6 #[.agg #[.slice sa0 zs0.length sc0, .slice pa0 ps0.length pc0, .int .i64 q0], .slice a1 len1 cap1, .slice a2 len2 cap2] w fun e w' => e = .returned (.bool true) ∧ Below w.heap.size w w' := by
  have gA : Grew w (w.alloc (.cells #[.slice sa0 zs0.length sc0, .slice pa0 ps0.length pc0, .int .i64 q0] 25)) := (Grew.refl w).alloc _
  have HG0 := Lib.hid gA
  have HT0 := Lib.hid (Three.new w 25 (.slice sa0 zs0.length sc0) (.slice pa0 ps0.length pc0) (.int .i64 q0))
  have HSR0 := Lib.hid (hsr.grow gA)
  have HR0 := Lib.hid (hRN.grow gA)
  have b0_0 := HT0.out.c0
  have b1_0 := HT0.out.c1
  have b2_0 := HT0.out.c2
  have hlt_0 := HT0.out.lt
  clear gA 
  go_enter Try.func6, Try.ntmps6
  go_wp2_with fail
  skip
  refine (few9_any (q := q0) HSR0.out hpcm').mono ?_
  rintro e w1_ ⟨rfl, g1⟩
  rw [HFew.out]
  have HG_1 := Lib.hid (HG0.out.trans g1)
  have HT_1 := Lib.hid (HT0.out.grow g1)
  have HR_1 := Lib.hid (HR0.out.grow g1)
  clear b0_0 b1_0 b2_0 hlt_0
  have b0_1 := HT_1.out.c0
  have b1_1 := HT_1.out.c1
  have b2_1 := HT_1.out.c2
  have hlt_1 := HT_1.out.lt
  clear g1
  go_wp2_with fail
  refine (right9_any (q := q0) HR_1.out).mono ?_
  rintro e w2_ ⟨rfl, g2⟩
  rw [HRight.out]
  have HG_2 := Lib.hid (HG_1.out.trans g2)
  have HT_2 := Lib.hid (HT_1.out.grow g2)
  have HR_2 := Lib.hid (HR_1.out.grow g2)
  clear b0_1 b1_1 b2_1 hlt_1
  have b0_2 := HT_2.out.c0
  have b1_2 := HT_2.out.c1
  have b2_2 := HT_2.out.c2
  have hlt_2 := HT_2.out.lt
  clear g2
  go_wp2_with fail
  refine (alive9_any _).mono ?_
  rintro e w3_ ⟨rfl, g3⟩
  have HG_3 := Lib.hid (HG_2.out.trans g3)
  have HT_3 := Lib.hid (HT_2.out.grow g3)
  have HR_3 := Lib.hid (HR_2.out.grow g3)
  clear b0_2 b1_2 b2_2 hlt_2
  have b0_3 := HT_3.out.c0
  have b1_3 := HT_3.out.c1
  have b2_3 := HT_3.out.c2
  have hlt_3 := HT_3.out.lt
  clear g3
  go_wp2
  go_ret
  exact ⟨rfl, HG_3.out⟩

set_option maxRecDepth 100000 in
set_option maxHeartbeats 4000000 in
theorem walk_61 (sa0 : Option Addr) (sc0 : Nat) (pa0 : Option Addr) (pc0 : Nat) (q0 : Int) (zs0 ps0 : List Int) (a1 : Option Addr) (len1 cap1 : Nat) (zs1 : List Int) (a2 : Option Addr) (len2 cap2 : Nat) (zs2 : List Int) (w : World)
    (hsr : RdK .i64 w.heap.size w sa0 zs0)
    (hpcm' : ps0.length ≤ 9223372036854775807)
    (HFew : Hid (fewN9 zs0 ps0 = true))
    (HRight : Hid (rightN9 zs0 ps0 q0 = true))
    (hRN : RN w sa0 sc0 pa0 pc0 zs0 ps0)
    (h61 : 600 < len1) :
    Calls Try.prog 6 #[.agg #[.slice sa0 zs0.length sc0, .slice pa0 ps0.length pc0, .int .i64 q0], .slice a1 len1 cap1, .slice a2 len2 cap2] w fun e w' => e = .returned (.bool true) ∧ Below w.heap.size w w' := by
  have h6i1 : (600 : Int) < (len1 : Int) := by omega
  have gA : Grew w (w.alloc (.cells #[.slice sa0 zs0.length sc0, .slice pa0 ps0.length pc0, .int .i64 q0] 25)) := (Grew.refl w).alloc _
  have HG0 := Lib.hid gA
  have HT0 := Lib.hid (Three.new w 25 (.slice sa0 zs0.length sc0) (.slice pa0 ps0.length pc0) (.int .i64 q0))
  have HSR0 := Lib.hid (hsr.grow gA)
  have HR0 := Lib.hid (hRN.grow gA)
  have b0_0 := HT0.out.c0
  have b1_0 := HT0.out.c1
  have b2_0 := HT0.out.c2
  have hlt_0 := HT0.out.lt
  clear gA 
  go_enter Try.func6, Try.ntmps6
  go_wp2_with fail
  skip
  refine (few9_any (q := q0) HSR0.out hpcm').mono ?_
  rintro e w1_ ⟨rfl, g1⟩
  rw [HFew.out]
  have HG_1 := Lib.hid (HG0.out.trans g1)
  have HT_1 := Lib.hid (HT0.out.grow g1)
  have HR_1 := Lib.hid (HR0.out.grow g1)
  clear b0_0 b1_0 b2_0 hlt_0
  have b0_1 := HT_1.out.c0
  have b1_1 := HT_1.out.c1
  have b2_1 := HT_1.out.c2
  have hlt_1 := HT_1.out.lt
  clear g1
  go_wp2_with fail
  refine (right9_any (q := q0) HR_1.out).mono ?_
  rintro e w2_ ⟨rfl, g2⟩
  rw [HRight.out]
  have HG_2 := Lib.hid (HG_1.out.trans g2)
  have HT_2 := Lib.hid (HT_1.out.grow g2)
  have HR_2 := Lib.hid (HR_1.out.grow g2)
  clear b0_1 b1_1 b2_1 hlt_1
  have b0_2 := HT_2.out.c0
  have b1_2 := HT_2.out.c1
  have b2_2 := HT_2.out.c2
  have hlt_2 := HT_2.out.lt
  clear g2
  go_wp2_with fail
  refine (alive9_any _).mono ?_
  rintro e w3_ ⟨rfl, g3⟩
  have HG_3 := Lib.hid (HG_2.out.trans g3)
  have HT_3 := Lib.hid (HT_2.out.grow g3)
  have HR_3 := Lib.hid (HR_2.out.grow g3)
  clear b0_2 b1_2 b2_2 hlt_2
  have b0_3 := HT_3.out.c0
  have b1_3 := HT_3.out.c1
  have b2_3 := HT_3.out.c2
  have hlt_3 := HT_3.out.lt
  clear g3
  go_wp2
  go_ret
  exact ⟨rfl, HG_3.out⟩

set_option maxRecDepth 100000 in
set_option maxHeartbeats 4000000 in
theorem walk_62 (sa0 : Option Addr) (sc0 : Nat) (pa0 : Option Addr) (pc0 : Nat) (q0 : Int) (zs0 ps0 : List Int) (a1 : Option Addr) (len1 cap1 : Nat) (zs1 : List Int) (a2 : Option Addr) (len2 cap2 : Nat) (zs2 : List Int) (w : World)
    (hsr : RdK .i64 w.heap.size w sa0 zs0)
    (hpcm' : ps0.length ≤ 9223372036854775807)
    (HFew : Hid (fewN9 zs0 ps0 = true))
    (HRight : Hid (rightN9 zs0 ps0 q0 = true))
    (hRN : RN w sa0 sc0 pa0 pc0 zs0 ps0)
    (h61 : ¬ 600 < len1)
    (h62 : 600 < len2) :
    Calls Try.prog 6 #[.agg #[.slice sa0 zs0.length sc0, .slice pa0 ps0.length pc0, .int .i64 q0], .slice a1 len1 cap1, .slice a2 len2 cap2] w fun e w' => e = .returned (.bool true) ∧ Below w.heap.size w w' := by
  have h6i1 : ¬ (600 : Int) < (len1 : Int) := by omega
  have h6i2 : (600 : Int) < (len2 : Int) := by omega
  have gA : Grew w (w.alloc (.cells #[.slice sa0 zs0.length sc0, .slice pa0 ps0.length pc0, .int .i64 q0] 25)) := (Grew.refl w).alloc _
  have HG0 := Lib.hid gA
  have HT0 := Lib.hid (Three.new w 25 (.slice sa0 zs0.length sc0) (.slice pa0 ps0.length pc0) (.int .i64 q0))
  have HSR0 := Lib.hid (hsr.grow gA)
  have HR0 := Lib.hid (hRN.grow gA)
  have b0_0 := HT0.out.c0
  have b1_0 := HT0.out.c1
  have b2_0 := HT0.out.c2
  have hlt_0 := HT0.out.lt
  clear gA 
  go_enter Try.func6, Try.ntmps6
  go_wp2_with fail
  skip
  refine (few9_any (q := q0) HSR0.out hpcm').mono ?_
  rintro e w1_ ⟨rfl, g1⟩
  rw [HFew.out]
  have HG_1 := Lib.hid (HG0.out.trans g1)
  have HT_1 := Lib.hid (HT0.out.grow g1)
  have HR_1 := Lib.hid (HR0.out.grow g1)
  clear b0_0 b1_0 b2_0 hlt_0
  have b0_1 := HT_1.out.c0
  have b1_1 := HT_1.out.c1
  have b2_1 := HT_1.out.c2
  have hlt_1 := HT_1.out.lt
  clear g1
  go_wp2_with fail
  refine (right9_any (q := q0) HR_1.out).mono ?_
  rintro e w2_ ⟨rfl, g2⟩
  rw [HRight.out]
  have HG_2 := Lib.hid (HG_1.out.trans g2)
  have HT_2 := Lib.hid (HT_1.out.grow g2)
  have HR_2 := Lib.hid (HR_1.out.grow g2)
  clear b0_1 b1_1 b2_1 hlt_1
  have b0_2 := HT_2.out.c0
  have b1_2 := HT_2.out.c1
  have b2_2 := HT_2.out.c2
  have hlt_2 := HT_2.out.lt
  clear g2
  go_wp2_with fail
  refine (alive9_any _).mono ?_
  rintro e w3_ ⟨rfl, g3⟩
  have HG_3 := Lib.hid (HG_2.out.trans g3)
  have HT_3 := Lib.hid (HT_2.out.grow g3)
  have HR_3 := Lib.hid (HR_2.out.grow g3)
  clear b0_2 b1_2 b2_2 hlt_2
  have b0_3 := HT_3.out.c0
  have b1_3 := HT_3.out.c1
  have b2_3 := HT_3.out.c2
  have hlt_3 := HT_3.out.lt
  clear g3
  go_wp2
  go_ret
  exact ⟨rfl, HG_3.out⟩

set_option maxRecDepth 100000 in
set_option maxHeartbeats 4000000 in
theorem walk_no (sb so : Nat) (sc0 : Nat) (pa0 : Option Addr) (pc0 : Nat) (q0 : Int) (zs0 ps0 : List Int) (a1 : Option Addr) (len1 cap1 : Nat) (zs1 : List Int) (a2 : Option Addr) (len2 cap2 : Nat) (zs2 : List Int) (w : World)
    (hsr : RdK .i64 w.heap.size w (some ⟨sb, so, none⟩) zs0)
    (hpcm' : ps0.length ≤ 9223372036854775807)
    (HFew : Hid (fewN9 zs0 ps0 = true))
    (HRight : Hid (rightN9 zs0 ps0 q0 = true))
    (hRN : RN w (some ⟨sb, so, none⟩) sc0 pa0 pc0 zs0 ps0)
    (hP : NetP zs0 ps0 q0)
    (HC : Hid (∀ W, Grew w W → W.cell? ⟨sb, so, none⟩ = some (.int .i64 (sz zs0 0)) ∧ W.cell? ⟨sb, so + lnk zs0, none⟩ = some (.int .i64 (sz zs0 (lnk zs0)))))
    (hzi : (0 : Int) < (zs0.length : Int))
    (hzl : 1 ≤ zs0.length)
    (h6i1 : ¬ (600 : Int) < (len1 : Int))
    (h6i2 : ¬ (600 : Int) < (len2 : Int))
    (hl1 : zs1.length = len1)
    (hrd1 : Rd w.heap.size w a1 zs1)
    (hf1 : Fit zs1)
    (hl2 : zs2.length = len2)
    (hrd2 : Rd w.heap.size w a2 zs2)
    (hf2 : Fit zs2)
    (hx0 : len1 ≠ sz zs0 0) :
    Calls Try.prog 6 #[.agg #[.slice (some ⟨sb, so, none⟩) zs0.length sc0, .slice pa0 ps0.length pc0, .int .i64 q0], .slice a1 len1 cap1, .slice a2 len2 cap2] w fun e w' => e = .returned (.bool true) ∧ Below w.heap.size w w' := by
  have HP := Lib.hid hP
  have hzm : (zs0.length : Int) - 1 = (lnk zs0 : Int) := by unfold lnk; omega
  have hzt : zs0.length - 1 = lnk zs0 := rfl
  have hmz : lnk zs0 < zs0.length := by unfold lnk; omega
  have hwz : wrap64 (lnk zs0 : Int) = (lnk zs0 : Int) := by have := (lnk_in hP.right).2.1; exact wrap64_id (by omega) (by omega)
  have hmzi : (lnk zs0 : Int) < (zs0.length : Int) := by omega
  have hnx : ((len1 : Int) != (sz zs0 0 : Int)) = true := bne_iff_ne.2 (by omega)
  have H_hx0 := Lib.hid hx0
  have H_hl1 := Lib.hid hl1
  have H_hf1 := Lib.hid hf1
  have H_hl2 := Lib.hid hl2
  have H_hf2 := Lib.hid hf2
  have H_hP := Lib.hid hP
  clear hx0 hl1 hf1 hl2 hf2 hP
  have gA : Grew w (w.alloc (.cells #[.slice (some ⟨sb, so, none⟩) zs0.length sc0, .slice pa0 ps0.length pc0, .int .i64 q0] 25)) := (Grew.refl w).alloc _
  have HG0 := Lib.hid gA
  have HT0 := Lib.hid (Three.new w 25 (.slice (some ⟨sb, so, none⟩) zs0.length sc0) (.slice pa0 ps0.length pc0) (.int .i64 q0))
  have HSR0 := Lib.hid (hsr.grow gA)
  have HR0 := Lib.hid (hRN.grow gA)
  have HX1_0 := Lib.hid (hrd1.grow gA)
  have HX2_0 := Lib.hid (hrd2.grow gA)
  have b0_0 := HT0.out.c0
  have b1_0 := HT0.out.c1
  have b2_0 := HT0.out.c2
  have hlt_0 := HT0.out.lt
  clear gA 
  go_enter Try.func6, Try.ntmps6
  go_wp2_with fail
  skip
  refine (few9_any (q := q0) HSR0.out hpcm').mono ?_
  rintro e w1_ ⟨rfl, g1⟩
  rw [HFew.out]
  have HG_1 := Lib.hid (HG0.out.trans g1)
  have HT_1 := Lib.hid (HT0.out.grow g1)
  have HR_1 := Lib.hid (HR0.out.grow g1)
  have HX1_1 := Lib.hid (HX1_0.out.grow g1)
  have HX2_1 := Lib.hid (HX2_0.out.grow g1)
  clear b0_0 b1_0 b2_0 hlt_0
  have b0_1 := HT_1.out.c0
  have b1_1 := HT_1.out.c1
  have b2_1 := HT_1.out.c2
  have hlt_1 := HT_1.out.lt
  clear g1
  go_wp2_with fail
  refine (right9_any (q := q0) HR_1.out).mono ?_
  rintro e w2_ ⟨rfl, g2⟩
  rw [HRight.out]
  have HG_2 := Lib.hid (HG_1.out.trans g2)
  have HT_2 := Lib.hid (HT_1.out.grow g2)
  have HR_2 := Lib.hid (HR_1.out.grow g2)
  have HX1_2 := Lib.hid (HX1_1.out.grow g2)
  have HX2_2 := Lib.hid (HX2_1.out.grow g2)
  clear b0_1 b1_1 b2_1 hlt_1
  have b0_2 := HT_2.out.c0
  have b1_2 := HT_2.out.c1
  have b2_2 := HT_2.out.c2
  have hlt_2 := HT_2.out.lt
  clear g2
  go_wp2_with fail
  refine (lnew_yes HP.out HR_2.out).mono ?_
  rintro e w3_ ⟨⟨nb, rfl, hn⟩, g3⟩
  have hn0 := hn.mono (Nat.zero_le _)
  have HG_3 := Lib.hid (HG_2.out.trans g3)
  have HT_3 := Lib.hid (HT_2.out.grow g3)
  have HR_3 := Lib.hid (HR_2.out.grow g3)
  have HX1_3 := Lib.hid (HX1_2.out.grow g3)
  have HX2_3 := Lib.hid (HX2_2.out.grow g3)
  have HN_3 := Lib.hid hn0
  clear b0_2 b1_2 b2_2 hlt_2
  have b0_3 := HT_3.out.c0
  have b1_3 := HT_3.out.c1
  have b2_3 := HT_3.out.c2
  have hlt_3 := HT_3.out.lt
  clear g3
  go_wp2_with fail
  refine (loss_no a1 a2 len1 cap1 len2 cap2 _ HP.out HN_3.out H_hx0.out).mono ?_
  rintro e w4_ ⟨rfl, g4⟩
  have HG_4 := Lib.hid (HG_3.out.trans g4)
  have HT_4 := Lib.hid (HT_3.out.grow g4)
  have HR_4 := Lib.hid (HR_3.out.grow g4)
  have HX1_4 := Lib.hid (HX1_3.out.grow g4)
  have HX2_4 := Lib.hid (HX2_3.out.grow g4)
  have HN_4 := Lib.hid (HN_3.out.grow g4)
  clear b0_3 b1_3 b2_3 hlt_3
  have b0_4 := HT_4.out.c0
  have b1_4 := HT_4.out.c1
  have b2_4 := HT_4.out.c2
  have hlt_4 := HT_4.out.lt
  clear g4
  have hq0 := (HC.out _ HG_4.out).1
  have hqm := (HC.out _ HG_4.out).2
  go_wp2_with fail
  refine (alive9_any _).mono ?_
  rintro e w5_ ⟨rfl, g5⟩
  have HG_5 := Lib.hid (HG_4.out.trans g5)
  have HT_5 := Lib.hid (HT_4.out.grow g5)
  have HR_5 := Lib.hid (HR_4.out.grow g5)
  have HX1_5 := Lib.hid (HX1_4.out.grow g5)
  have HX2_5 := Lib.hid (HX2_4.out.grow g5)
  have HN_5 := Lib.hid (HN_4.out.grow g5)
  clear b0_4 b1_4 b2_4 hlt_4
  have b0_5 := HT_5.out.c0
  have b1_5 := HT_5.out.c1
  have b2_5 := HT_5.out.c2
  have hlt_5 := HT_5.out.lt
  clear g5
  go_wp2
  go_ret
  exact ⟨rfl, HG_5.out⟩

set_option maxRecDepth 100000 in
set_option maxHeartbeats 4000000 in
theorem walk_other (sb so : Nat) (sc0 : Nat) (pa0 : Option Addr) (pc0 : Nat) (q0 : Int) (zs0 ps0 : List Int) (a1 : Option Addr) (len1 cap1 : Nat) (zs1 : List Int) (a2 : Option Addr) (len2 cap2 : Nat) (zs2 : List Int) (w : World)
    (hsr : RdK .i64 w.heap.size w (some ⟨sb, so, none⟩) zs0)
    (hpcm' : ps0.length ≤ 9223372036854775807)
    (HFew : Hid (fewN9 zs0 ps0 = true))
    (HRight : Hid (rightN9 zs0 ps0 q0 = true))
    (hRN : RN w (some ⟨sb, so, none⟩) sc0 pa0 pc0 zs0 ps0)
    (hP : NetP zs0 ps0 q0)
    (HC : Hid (∀ W, Grew w W → W.cell? ⟨sb, so, none⟩ = some (.int .i64 (sz zs0 0)) ∧ W.cell? ⟨sb, so + lnk zs0, none⟩ = some (.int .i64 (sz zs0 (lnk zs0)))))
    (hzi : (0 : Int) < (zs0.length : Int))
    (hzl : 1 ≤ zs0.length)
    (h6i1 : ¬ (600 : Int) < (len1 : Int))
    (h6i2 : ¬ (600 : Int) < (len2 : Int))
    (hl1 : zs1.length = len1)
    (hrd1 : Rd w.heap.size w a1 zs1)
    (hf1 : Fit zs1)
    (hl2 : zs2.length = len2)
    (hrd2 : Rd w.heap.size w a2 zs2)
    (hf2 : Fit zs2)
    (hx0 : len1 = sz zs0 0)
    (hy0 : len2 ≠ sz zs0 (lnk zs0)) :
    Calls Try.prog 6 #[.agg #[.slice (some ⟨sb, so, none⟩) zs0.length sc0, .slice pa0 ps0.length pc0, .int .i64 q0], .slice a1 len1 cap1, .slice a2 len2 cap2] w fun e w' => e = .returned (.bool true) ∧ Below w.heap.size w w' := by
  have HP := Lib.hid hP
  have hzm : (zs0.length : Int) - 1 = (lnk zs0 : Int) := by unfold lnk; omega
  have hzt : zs0.length - 1 = lnk zs0 := rfl
  have hmz : lnk zs0 < zs0.length := by unfold lnk; omega
  have hwz : wrap64 (lnk zs0 : Int) = (lnk zs0 : Int) := by have := (lnk_in hP.right).2.1; exact wrap64_id (by omega) (by omega)
  have hmzi : (lnk zs0 : Int) < (zs0.length : Int) := by omega
  have hnx : ((len1 : Int) != (sz zs0 0 : Int)) = false := by rw [hx0]; exact bne_self_eq_false _
  have hny : ((len2 : Int) != (sz zs0 (lnk zs0) : Int)) = true := bne_iff_ne.2 (by omega)
  have H_hx0 := Lib.hid hx0
  have H_hy0 := Lib.hid hy0
  have H_hl1 := Lib.hid hl1
  have H_hf1 := Lib.hid hf1
  have H_hl2 := Lib.hid hl2
  have H_hf2 := Lib.hid hf2
  have H_hP := Lib.hid hP
  clear hx0 hy0 hl1 hf1 hl2 hf2 hP
  have gA : Grew w (w.alloc (.cells #[.slice (some ⟨sb, so, none⟩) zs0.length sc0, .slice pa0 ps0.length pc0, .int .i64 q0] 25)) := (Grew.refl w).alloc _
  have HG0 := Lib.hid gA
  have HT0 := Lib.hid (Three.new w 25 (.slice (some ⟨sb, so, none⟩) zs0.length sc0) (.slice pa0 ps0.length pc0) (.int .i64 q0))
  have HSR0 := Lib.hid (hsr.grow gA)
  have HR0 := Lib.hid (hRN.grow gA)
  have HX1_0 := Lib.hid (hrd1.grow gA)
  have HX2_0 := Lib.hid (hrd2.grow gA)
  have b0_0 := HT0.out.c0
  have b1_0 := HT0.out.c1
  have b2_0 := HT0.out.c2
  have hlt_0 := HT0.out.lt
  clear gA 
  go_enter Try.func6, Try.ntmps6
  go_wp2_with fail
  skip
  refine (few9_any (q := q0) HSR0.out hpcm').mono ?_
  rintro e w1_ ⟨rfl, g1⟩
  rw [HFew.out]
  have HG_1 := Lib.hid (HG0.out.trans g1)
  have HT_1 := Lib.hid (HT0.out.grow g1)
  have HR_1 := Lib.hid (HR0.out.grow g1)
  have HX1_1 := Lib.hid (HX1_0.out.grow g1)
  have HX2_1 := Lib.hid (HX2_0.out.grow g1)
  clear b0_0 b1_0 b2_0 hlt_0
  have b0_1 := HT_1.out.c0
  have b1_1 := HT_1.out.c1
  have b2_1 := HT_1.out.c2
  have hlt_1 := HT_1.out.lt
  clear g1
  go_wp2_with fail
  refine (right9_any (q := q0) HR_1.out).mono ?_
  rintro e w2_ ⟨rfl, g2⟩
  rw [HRight.out]
  have HG_2 := Lib.hid (HG_1.out.trans g2)
  have HT_2 := Lib.hid (HT_1.out.grow g2)
  have HR_2 := Lib.hid (HR_1.out.grow g2)
  have HX1_2 := Lib.hid (HX1_1.out.grow g2)
  have HX2_2 := Lib.hid (HX2_1.out.grow g2)
  clear b0_1 b1_1 b2_1 hlt_1
  have b0_2 := HT_2.out.c0
  have b1_2 := HT_2.out.c1
  have b2_2 := HT_2.out.c2
  have hlt_2 := HT_2.out.lt
  clear g2
  go_wp2_with fail
  refine (lnew_yes HP.out HR_2.out).mono ?_
  rintro e w3_ ⟨⟨nb, rfl, hn⟩, g3⟩
  have hn0 := hn.mono (Nat.zero_le _)
  have HG_3 := Lib.hid (HG_2.out.trans g3)
  have HT_3 := Lib.hid (HT_2.out.grow g3)
  have HR_3 := Lib.hid (HR_2.out.grow g3)
  have HX1_3 := Lib.hid (HX1_2.out.grow g3)
  have HX2_3 := Lib.hid (HX2_2.out.grow g3)
  have HN_3 := Lib.hid hn0
  clear b0_2 b1_2 b2_2 hlt_2
  have b0_3 := HT_3.out.c0
  have b1_3 := HT_3.out.c1
  have b2_3 := HT_3.out.c2
  have hlt_3 := HT_3.out.lt
  clear g3
  go_wp2_with fail
  refine (loss_other (c := cap1) a2 len2 cap2 _ HP.out HN_3.out H_hl1.out H_hx0.out HX1_3.out H_hf1.out H_hy0.out).mono ?_
  rintro e w4_ ⟨rfl, g4⟩
  have HG_4 := Lib.hid (HG_3.out.trans g4)
  have HT_4 := Lib.hid (HT_3.out.grow g4)
  have HR_4 := Lib.hid (HR_3.out.grow g4)
  have HX1_4 := Lib.hid (HX1_3.out.grow g4)
  have HX2_4 := Lib.hid (HX2_3.out.grow g4)
  have HN_4 := Lib.hid (HN_3.out.grow g4)
  clear b0_3 b1_3 b2_3 hlt_3
  have b0_4 := HT_4.out.c0
  have b1_4 := HT_4.out.c1
  have b2_4 := HT_4.out.c2
  have hlt_4 := HT_4.out.lt
  clear g4
  have hq0 := (HC.out _ HG_4.out).1
  have hqm := (HC.out _ HG_4.out).2
  go_wp2_with fail
  refine (alive9_any _).mono ?_
  rintro e w5_ ⟨rfl, g5⟩
  have HG_5 := Lib.hid (HG_4.out.trans g5)
  have HT_5 := Lib.hid (HT_4.out.grow g5)
  have HR_5 := Lib.hid (HR_4.out.grow g5)
  have HX1_5 := Lib.hid (HX1_4.out.grow g5)
  have HX2_5 := Lib.hid (HX2_4.out.grow g5)
  have HN_5 := Lib.hid (HN_4.out.grow g5)
  clear b0_4 b1_4 b2_4 hlt_4
  have b0_5 := HT_5.out.c0
  have b1_5 := HT_5.out.c1
  have b2_5 := HT_5.out.c2
  have hlt_5 := HT_5.out.lt
  clear g5
  go_wp2
  go_ret
  exact ⟨rfl, HG_5.out⟩

set_option maxRecDepth 100000 in
set_option maxHeartbeats 4000000 in
theorem walk_yes (sb so : Nat) (sc0 : Nat) (pa0 : Option Addr) (pc0 : Nat) (q0 : Int) (zs0 ps0 : List Int) (a1 : Option Addr) (len1 cap1 : Nat) (zs1 : List Int) (a2 : Option Addr) (len2 cap2 : Nat) (zs2 : List Int) (w : World)
    (hsr : RdK .i64 w.heap.size w (some ⟨sb, so, none⟩) zs0)
    (hpcm' : ps0.length ≤ 9223372036854775807)
    (HFew : Hid (fewN9 zs0 ps0 = true))
    (HRight : Hid (rightN9 zs0 ps0 q0 = true))
    (hRN : RN w (some ⟨sb, so, none⟩) sc0 pa0 pc0 zs0 ps0)
    (hP : NetP zs0 ps0 q0)
    (HC : Hid (∀ W, Grew w W → W.cell? ⟨sb, so, none⟩ = some (.int .i64 (sz zs0 0)) ∧ W.cell? ⟨sb, so + lnk zs0, none⟩ = some (.int .i64 (sz zs0 (lnk zs0)))))
    (hzi : (0 : Int) < (zs0.length : Int))
    (hzl : 1 ≤ zs0.length)
    (h6i1 : ¬ (600 : Int) < (len1 : Int))
    (h6i2 : ¬ (600 : Int) < (len2 : Int))
    (hl1 : zs1.length = len1)
    (hrd1 : Rd w.heap.size w a1 zs1)
    (hf1 : Fit zs1)
    (hl2 : zs2.length = len2)
    (hrd2 : Rd w.heap.size w a2 zs2)
    (hf2 : Fit zs2)
    (hx0 : len1 = sz zs0 0)
    (hy0 : len2 = sz zs0 (lnk zs0))
    (hlc1 : len1 ≤ cap1)
    (hcm1 : cap1 ≤ 9223372036854775807) :
    Calls Try.prog 6 #[.agg #[.slice (some ⟨sb, so, none⟩) zs0.length sc0, .slice pa0 ps0.length pc0, .int .i64 q0], .slice a1 len1 cap1, .slice a2 len2 cap2] w fun e w' => e = .returned (.bool true) ∧ Below w.heap.size w w' := by
  have HP := Lib.hid hP
  have hzm : (zs0.length : Int) - 1 = (lnk zs0 : Int) := by unfold lnk; omega
  have hzt : zs0.length - 1 = lnk zs0 := rfl
  have hmz : lnk zs0 < zs0.length := by unfold lnk; omega
  have hwz : wrap64 (lnk zs0 : Int) = (lnk zs0 : Int) := by have := (lnk_in hP.right).2.1; exact wrap64_id (by omega) (by omega)
  have hmzi : (lnk zs0 : Int) < (zs0.length : Int) := by omega
  have hnx : ((len1 : Int) != (sz zs0 0 : Int)) = false := by rw [hx0]; exact bne_self_eq_false _
  have hny : ((len2 : Int) != (sz zs0 (lnk zs0) : Int)) = false := by rw [hy0]; exact bne_self_eq_false _
  have hnp := nP_in hP.right
  have HGR := Lib.hid (fun (W : World) (hR : RN W (some ⟨sb, so, none⟩) sc0 pa0 pc0 zs0 ps0) (h1 : Rd W.heap.size W a1 zs1) (h2 : Rd W.heap.size W a2 zs2) => loss9_any (yc := cap2) (y := a2) hP hR (hl1.trans hx0) (by rw [← hx0]; exact hlc1) hcm1 h1 hf1 hl2 hy0 h2)
  have HLY := Lib.hid (fun (W : World) {nb : Nat} (hN : NetM 0 W nb zs0 ps0 q0) (h1 : Rd W.heap.size W a1 zs1) (h2 : Rd W.heap.size W a2 zs2) => loss_yes (c := cap1) (c' := cap2) W hP hN hl1 hx0 h1 hf1 hl2 hy0 h2)
  rw [← hx0] at HGR
  generalize lossV zs0 ps0 q0 zs1 zs2 = Lv at *
  have hLL : (Lv == Lv) = true := beq_self_eq_true Lv
  clear hlc1 hcm1
  have H_hx0 := Lib.hid hx0
  have H_hy0 := Lib.hid hy0
  have H_hl1 := Lib.hid hl1
  have H_hf1 := Lib.hid hf1
  have H_hl2 := Lib.hid hl2
  have H_hf2 := Lib.hid hf2
  have H_hP := Lib.hid hP
  clear hx0 hy0 hl1 hf1 hl2 hf2 hP
  have gA : Grew w (w.alloc (.cells #[.slice (some ⟨sb, so, none⟩) zs0.length sc0, .slice pa0 ps0.length pc0, .int .i64 q0] 25)) := (Grew.refl w).alloc _
  have HG0 := Lib.hid gA
  have HT0 := Lib.hid (Three.new w 25 (.slice (some ⟨sb, so, none⟩) zs0.length sc0) (.slice pa0 ps0.length pc0) (.int .i64 q0))
  have HSR0 := Lib.hid (hsr.grow gA)
  have HR0 := Lib.hid (hRN.grow gA)
  have HX1_0 := Lib.hid (hrd1.grow gA)
  have HX2_0 := Lib.hid (hrd2.grow gA)
  have b0_0 := HT0.out.c0
  have b1_0 := HT0.out.c1
  have b2_0 := HT0.out.c2
  have hlt_0 := HT0.out.lt
  clear gA 
  go_enter Try.func6, Try.ntmps6
  go_wp2_with fail
  skip
  refine (few9_any (q := q0) HSR0.out hpcm').mono ?_
  rintro e w1_ ⟨rfl, g1⟩
  rw [HFew.out]
  have HG_1 := Lib.hid (HG0.out.trans g1)
  have HT_1 := Lib.hid (HT0.out.grow g1)
  have HR_1 := Lib.hid (HR0.out.grow g1)
  have HX1_1 := Lib.hid (HX1_0.out.grow g1)
  have HX2_1 := Lib.hid (HX2_0.out.grow g1)
  clear b0_0 b1_0 b2_0 hlt_0
  have b0_1 := HT_1.out.c0
  have b1_1 := HT_1.out.c1
  have b2_1 := HT_1.out.c2
  have hlt_1 := HT_1.out.lt
  clear g1
  go_wp2_with fail
  refine (right9_any (q := q0) HR_1.out).mono ?_
  rintro e w2_ ⟨rfl, g2⟩
  rw [HRight.out]
  have HG_2 := Lib.hid (HG_1.out.trans g2)
  have HT_2 := Lib.hid (HT_1.out.grow g2)
  have HR_2 := Lib.hid (HR_1.out.grow g2)
  have HX1_2 := Lib.hid (HX1_1.out.grow g2)
  have HX2_2 := Lib.hid (HX2_1.out.grow g2)
  clear b0_1 b1_1 b2_1 hlt_1
  have b0_2 := HT_2.out.c0
  have b1_2 := HT_2.out.c1
  have b2_2 := HT_2.out.c2
  have hlt_2 := HT_2.out.lt
  clear g2
  go_wp2_with fail
  refine (lnew_yes HP.out HR_2.out).mono ?_
  rintro e w3_ ⟨⟨nb, rfl, hn⟩, g3⟩
  have hn0 := hn.mono (Nat.zero_le _)
  have HG_3 := Lib.hid (HG_2.out.trans g3)
  have HT_3 := Lib.hid (HT_2.out.grow g3)
  have HR_3 := Lib.hid (HR_2.out.grow g3)
  have HX1_3 := Lib.hid (HX1_2.out.grow g3)
  have HX2_3 := Lib.hid (HX2_2.out.grow g3)
  have HN_3 := Lib.hid hn0
  clear b0_2 b1_2 b2_2 hlt_2
  have b0_3 := HT_3.out.c0
  have b1_3 := HT_3.out.c1
  have b2_3 := HT_3.out.c2
  have hlt_3 := HT_3.out.lt
  clear g3
  go_wp2_with fail
  refine (HLY.out _ HN_3.out HX1_3.out HX2_3.out).mono ?_
  rintro e w4_ ⟨rfl, g4⟩
  have HG_4 := Lib.hid (HG_3.out.trans g4)
  have HT_4 := Lib.hid (HT_3.out.grow g4)
  have HR_4 := Lib.hid (HR_3.out.grow g4)
  have HX1_4 := Lib.hid (HX1_3.out.grow g4)
  have HX2_4 := Lib.hid (HX2_3.out.grow g4)
  have HN_4 := Lib.hid (HN_3.out.grow g4)
  clear b0_3 b1_3 b2_3 hlt_3
  have b0_4 := HT_4.out.c0
  have b1_4 := HT_4.out.c1
  have b2_4 := HT_4.out.c2
  have hlt_4 := HT_4.out.lt
  clear g4
  have hq0 := (HC.out _ HG_4.out).1
  have hqm := (HC.out _ HG_4.out).2
  go_wp2_with fail
  refine (alive9_any _).mono ?_
  rintro e w5_ ⟨rfl, g5⟩
  have HG_5 := Lib.hid (HG_4.out.trans g5)
  have HT_5 := Lib.hid (HT_4.out.grow g5)
  have HR_5 := Lib.hid (HR_4.out.grow g5)
  have HX1_5 := Lib.hid (HX1_4.out.grow g5)
  have HX2_5 := Lib.hid (HX2_4.out.grow g5)
  have HN_5 := Lib.hid (HN_4.out.grow g5)
  clear b0_4 b1_4 b2_4 hlt_4
  have b0_5 := HT_5.out.c0
  have b1_5 := HT_5.out.c1
  have b2_5 := HT_5.out.c2
  have hlt_5 := HT_5.out.lt
  clear g5
  go_wp2_with fail
  refine (HGR.out _ HR_5.out HX1_5.out HX2_5.out).mono ?_
  rintro e w6_ ⟨rfl, g6⟩
  have HG_6 := Lib.hid (HG_5.out.trans g6)
  have HT_6 := Lib.hid (HT_5.out.grow g6)
  have HR_6 := Lib.hid (HR_5.out.grow g6)
  have HX1_6 := Lib.hid (HX1_5.out.grow g6)
  have HX2_6 := Lib.hid (HX2_5.out.grow g6)
  have HN_6 := Lib.hid (HN_5.out.grow g6)
  clear b0_5 b1_5 b2_5 hlt_5
  have b0_6 := HT_6.out.c0
  have b1_6 := HT_6.out.c1
  have b2_6 := HT_6.out.c2
  have hlt_6 := HT_6.out.lt
  clear g6
  go_wp2
  go_ret
  exact ⟨rfl, HG_6.out⟩

set_option maxRecDepth 100000 in
set_option maxHeartbeats 4000000 in
theorem walk (sa0 : Option Addr) (sl0 sc0 : Nat) (pa0 : Option Addr) (pl0 pc0 : Nat) (q0 : Int) (zs0 ps0 : List Int) (a1 : Option Addr) (len1 cap1 : Nat) (zs1 : List Int) (a2 : Option Addr) (len2 cap2 : Nat) (zs2 : List Int) (w : World) (w0 : CameN w sa0 sl0 sc0 pa0 pl0 pc0 q0 zs0 ps0) (w1 : CameK .i64 w a1 len1 cap1 zs1) (w2 : CameK .i64 w a2 len2 cap2 zs2) :
    Calls Try.prog 6 #[.agg #[.slice sa0 sl0 sc0, .slice pa0 pl0 pc0, .int .i64 q0], .slice a1 len1 cap1, .slice a2 len2 cap2] w fun e w' => e = .returned (.bool true) ∧ Below w.heap.size w w' := by
  have hfit := w0.fit
  obtain ⟨hsl, _, hscm, hsr, _, _⟩ := w0.1
  obtain ⟨hpl, _, hpcm, hpr, hpn, _⟩ := w0.2.1
  subst hsl hpl

  obtain ⟨hl1, hlc1, hr1, hrd1, hnn1, hwf1⟩ := w1
  have hf1 : Fit zs1 := fun j hj => in64_wf (hwf1 j hj)
  have hcm1 : cap1 ≤ 9223372036854775807 := by omega
  clear hwf1

  obtain ⟨hl2, hlc2, hr2, hrd2, hnn2, hwf2⟩ := w2
  have hf2 : Fit zs2 := fun j hj => in64_wf (hwf2 j hj)
  have hcm2 : cap2 ≤ 9223372036854775807 := by omega
  clear hwf2

  have hpcm' : ps0.length ≤ 9223372036854775807 := by have := w0.2.1.2.1; have := w0.2.1.2.2.1; omega
  cases hfew : fewN9 zs0 ps0 with
  | false => exact walk_few sa0 sc0 pa0 pc0 q0 zs0 ps0 a1 len1 cap1 zs1 a2 len2 cap2 zs2 w hsr hpcm' (Lib.hid hfew)
  | true =>
    have hRN := w0.rn hfew
    have hfi := few_in hfew
    have HFew := Lib.hid hfew
    cases hright : rightN9 zs0 ps0 q0 with
    | false => exact walk_right sa0 sc0 pa0 pc0 q0 zs0 ps0 a1 len1 cap1 zs1 a2 len2 cap2 zs2 w hsr hpcm' HFew (Lib.hid hright) hRN
    | true =>
      have HRight := Lib.hid hright
      have hP := rightN9_yes hright hfit
      have hl := lnk_in hP.right
      have hok := hP.right.2.2.1
      have hs0 := sz_in hok (k := 0) (by omega)
      have hsm := sz_in hok (k := lnk zs0) (by omega)
      have hnp := nP_in hP.right
      by_cases h61 : 600 < len1
      · exact walk_61 sa0 sc0 pa0 pc0 q0 zs0 ps0 a1 len1 cap1 zs1 a2 len2 cap2 zs2 w hsr hpcm' HFew HRight hRN h61
      by_cases h62 : 600 < len2
      · exact walk_62 sa0 sc0 pa0 pc0 q0 zs0 ps0 a1 len1 cap1 zs1 a2 len2 cap2 zs2 w hsr hpcm' HFew HRight hRN h61 h62
      obtain ⟨sb, so, hsa, hsb, hc0⟩ := hsr.at (k := 0) (by omega)
      obtain ⟨sb', so', hsa', _, hcm⟩ := hsr.at (k := lnk zs0) (by omega)
      subst hsa
      obtain ⟨rfl, rfl⟩ : sb = sb' ∧ so = so' := by injection hsa' with e; injection e with e1 e2; exact ⟨e1, e2⟩
      rw [← sz_eq hok (by omega)] at hc0 hcm
      rw [Nat.add_zero] at hc0
      have HC : Hid (∀ W, Grew w W → W.cell? ⟨sb, so, none⟩ = some (.int .i64 (sz zs0 0)) ∧ W.cell? ⟨sb, so + lnk zs0, none⟩ = some (.int .i64 (sz zs0 (lnk zs0)))) := Lib.hid (fun W g => ⟨kcG (g.by' none) hc0 (fun e => by cases e), kcG (g.by' none) hcm (fun e => by cases e)⟩)
      have hzi : (0 : Int) < (zs0.length : Int) := by omega
      have hzl : 1 ≤ zs0.length := by omega
      by_cases hx0 : len1 = sz zs0 0
      · by_cases hy0 : len2 = sz zs0 (lnk zs0)
        · exact walk_yes sb so sc0 pa0 pc0 q0 zs0 ps0 a1 len1 cap1 zs1 a2 len2 cap2 zs2 w hsr hpcm' HFew HRight hRN hP HC hzi hzl (by omega) (by omega) hl1 hrd1 hf1 hl2 hrd2 hf2 hx0 hy0 hlc1 hcm1
        · exact walk_other sb so sc0 pa0 pc0 q0 zs0 ps0 a1 len1 cap1 zs1 a2 len2 cap2 zs2 w hsr hpcm' HFew HRight hRN hP HC hzi hzl (by omega) (by omega) hl1 hrd1 hf1 hl2 hrd2 hf2 hx0 hy0
      · exact walk_no sb so sc0 pa0 pc0 q0 zs0 ps0 a1 len1 cap1 zs1 a2 len2 cap2 zs2 w hsr hpcm' HFew HRight hRN hP HC hzi hzl (by omega) (by omega) hl1 hrd1 hf1 hl2 hrd2 hf2 hx0

set_option maxRecDepth 100000 in
theorem lifted (os : Os) (started : os.Started) (H : Type) (enc : TypeId × Value → H) :
    ReturnsInHanded {} Try.checked os 6 .any (Rows.netLossesSpec.pre6 enc Try.prog Try.f6 Rows.netLossesRow.domain false) (Rows.netLossesSpec.post enc Try.prog Try.f6 false true false false) := by
  refine returnsInHanded_of_change_sized (C := Try.checked) own started (by kernel_rfl) Try.func6
    (ChangeSpec.witness6 (enc := enc) (C := Try.checked) false ⟨#[], #[.agg #[.slice none 0 0, .slice none 0 0, .int .i64 0], .slice none 0 0, .slice none 0 0], []⟩ 8 (by kernel_rfl) (by kernel_rfl) (by kernel_rfl) (by kernel_rfl)) ?_
  intro W base args ds gs before hval0 hW hcnd hsz0 _
  have hsz : (DataW.weightsEach Try.prog (Try.f6.params.toList ++ Rows.netLossesSpec.plain.varTypes Try.prog) (ds ++ gs)).all (· ≤ reachBytes) = true := hsz0
  have hval : ∀ (j : Nat) t v, Try.f6.params[j]? = some t → args[j]? = some v → Value.okWide Try.prog W .any base t v := hval0
  have hW' := hW
  obtain ⟨p, q, hA0, hV, rfl, hfz, hnd⟩ := hW
  have hA : DataW.TrodAll enc Try.prog W 0 (fun _ => true) true Try.f6.params.toList args.toList ds p := hA0
  rw [Try.params6] at hA hval hsz
  obtain ⟨v0, vs0, d0, ds0, p0, q0, hargs, rfl, rfl, h0, r0⟩ := trodAll_cons hA
  obtain ⟨v1, vs1, d1, ds1, p1, q1, rfl, rfl, rfl, h1, r1⟩ := trodAll_cons r0
  obtain ⟨v2, vs2, d2, ds2, p2, q2, rfl, rfl, rfl, h2, r2⟩ := trodAll_cons r1
  obtain ⟨rfl, rfl, rfl⟩ := trodAll_nil r2
  obtain rfl : args = #[v0, v1, v2] := by cases args; simp_all
  obtain ⟨rfl, rfl⟩ := trodVars_none hV
  have k0 := h0
  have lt0 : ∀ x ∈ p0, x.block < W.heap.size := by obtain ⟨m, hm⟩ := k0; exact DataW.trod_lt m _ _ _ hm
  obtain ⟨c00, c10, c20, y00, y10, y20, m0, rfl, rfl, rfl, hy00, hy10, hy20⟩ := Joins.open_agg3 Try.underlying25 (by kernel_rfl) (by kernel_rfl) (hval 0 25 v0 rfl rfl) h0
  obtain ⟨q0, e00, rfl, wq0⟩ := DataW.trod_int Try.underlying3 hy20
  simp at e00
  subst e00
  obtain ⟨sa0, sl0, sc0, zs0, rfl, sw0⟩ : ∃ a l c us, c00 = .slice a l c ∧ CameI .i64 W a l c us := by
    rcases open_ints Try.underlying22 Try.underlying3 (by kernel_rfl) hy00 with ⟨hcs, _⟩ | ⟨x, l, c, zs, hcs, _, hl, hm, hz, hx, hcell, hwz⟩
    · simp at hcs
      subst hcs
      exact ⟨none, 0, 0, [], rfl, cameI_none _ W⟩
    · simp at hcs
      subst hcs
      simp only [if_true] at hz
      exact ⟨some x, l, c, _, rfl, cameI_some hl hm hz hcell hwz⟩
  obtain ⟨pa0, pl0, pc0, ps0, rfl, pw0⟩ : ∃ a l c us, c10 = .slice a l c ∧ CameI .i64 W a l c us := by
    rcases open_ints Try.underlying23 Try.underlying2 (by kernel_rfl) hy10 with ⟨hcs, _⟩ | ⟨x, l, c, zs, hcs, _, hl, hm, hz, hx, hcell, hwz⟩
    · simp at hcs
      subst hcs
      exact ⟨none, 0, 0, [], rfl, cameI_none _ W⟩
    · simp at hcs
      subst hcs
      simp only [if_true] at hz
      exact ⟨some x, l, c, _, rfl, cameI_some hl hm hz hcell hwz⟩
  have w0 : CameN W sa0 sl0 sc0 pa0 pl0 pc0 q0 zs0 ps0 := ⟨sw0, pw0, wq0⟩
  have k1 := h1
  have lt1 : ∀ x ∈ p1, x.block < W.heap.size := by obtain ⟨m, hm⟩ := k1; exact DataW.trod_lt m _ _ _ hm
  obtain ⟨a1, len1, cap1, rfl⟩ := okWide_slice Try.underlying23 (hval 1 23 v1 rfl rfl)
  obtain ⟨zs1, w1⟩ : ∃ us, CameK .i64 W a1 len1 cap1 us := by
    obtain ⟨fuel, hf⟩ := h1
    rcases open_ints Try.underlying23 Try.underlying2 (by kernel_rfl) hf with ⟨hcs, _⟩ | ⟨x, l, c, zs, hcs, _, hl, hm, hz, hx, hcell, hwz⟩
    · simp [Value.cells] at hcs
      obtain ⟨rfl, rfl, rfl⟩ := hcs
      exact ⟨[], cameK_none _ W⟩
    · simp [Value.cells] at hcs
      obtain ⟨rfl, rfl, rfl⟩ := hcs
      simp only [if_true] at hz
      have hd := congrArg Prod.fst hx
      have hreach : cap1 * 8 ≤ 140737488351232 := by
        have hs := sized_slice hsz (j := 1) (t := 23) (e := 2) rfl (congrArg some hd) Try.underlying23
        rw [show Try.prog.bytesOf 2 = 8 from by kernel_rfl] at hs
        simp only [lits, List.length_map, List.length_take, List.length_drop, reachBytes] at hs
        omega
      exact ⟨_, cameK_some hl hreach hz hcell hwz⟩
  have k2 := h2
  have lt2 : ∀ x ∈ p2, x.block < W.heap.size := by obtain ⟨m, hm⟩ := k2; exact DataW.trod_lt m _ _ _ hm
  obtain ⟨a2, len2, cap2, rfl⟩ := okWide_slice Try.underlying23 (hval 2 23 v2 rfl rfl)
  obtain ⟨zs2, w2⟩ : ∃ us, CameK .i64 W a2 len2 cap2 us := by
    obtain ⟨fuel, hf⟩ := h2
    rcases open_ints Try.underlying23 Try.underlying2 (by kernel_rfl) hf with ⟨hcs, _⟩ | ⟨x, l, c, zs, hcs, _, hl, hm, hz, hx, hcell, hwz⟩
    · simp [Value.cells] at hcs
      obtain ⟨rfl, rfl, rfl⟩ := hcs
      exact ⟨[], cameK_none _ W⟩
    · simp [Value.cells] at hcs
      obtain ⟨rfl, rfl, rfl⟩ := hcs
      simp only [if_true] at hz
      have hd := congrArg Prod.fst hx
      have hreach : cap2 * 8 ≤ 140737488351232 := by
        have hs := sized_slice hsz (j := 2) (t := 23) (e := 2) rfl (congrArg some hd) Try.underlying23
        rw [show Try.prog.bytesOf 2 = 8 from by kernel_rfl] at hs
        simp only [lits, List.length_map, List.length_take, List.length_drop, reachBytes] at hs
        omega
      exact ⟨_, cameK_some hl hreach hz hcell hwz⟩
  clear hA0 hval0 hsz hsz0
  refine (walk sa0 sl0 sc0 pa0 pl0 pc0 q0 zs0 ps0 a1 len1 cap1 zs1 a2 len2 cap2 zs2 W w0 w1 w2).mono fun e W' ⟨he, bel⟩ => ?_
  subst he
  exact ⟨_, rfl, _, _, _, [], _, [], hW', trodAll_mk1 (shut_bool Try.underlying4 _), (trodAll_cons_mk (Below.trod laidOut (by kernel_rfl) (of_decide_eq_true (by kernel_rfl)) k0 bel lt0) (trodAll_cons_mk (Below.trod laidOut (by kernel_rfl) (of_decide_eq_true (by kernel_rfl)) k1 bel lt1) (trodAll_cons_mk (Below.trod laidOut (by kernel_rfl) (of_decide_eq_true (by kernel_rfl)) k2 bel lt2) trodAll_mk0))), rfl, bel.frame _, fun h => by cases h⟩

theorem over : Rows.netLossesRow.holds Try.pinned (OpenSpec.ofChange Rows.netLossesSpec) :=
  OpenClaim.holds_of_wide 6 Try.f6 rfl rfl rfl rfl rfl rfl rfl ⟨rfl, rfl, rfl, rfl, rfl⟩ rfl rfl rfl rfl rfl (by kernel_rfl) Try.func6 (by kernel_rfl)
    (of_decide_eq_true (by kernel_rfl)) (by unfold Func.isWrapper; first | (rw [if_pos (by decide +kernel)]; kernel_rfl) | (rw [if_neg (by decide +kernel)]; exact ⟨rfl, rfl⟩))
    (fun os started H enc _ => lifted os started H enc)

theorem proved : Rows.NetLossesSaid := over
end Go.Proofs.Ytciocdjpgknihaa.netLosses
