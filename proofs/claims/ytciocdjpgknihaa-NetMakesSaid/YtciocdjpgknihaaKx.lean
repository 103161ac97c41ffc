/- Loss and Gradient of package net, of a network and of none. Conditions: the example's numbers can be read, within the bounds of int64.
   Gradient of package net, of an example that fits. Conditions: the example's numbers can be read, within the bounds of int64.
   The reference of layer 9, first part: Few, Right, last, bias, weight, sum. Conditions: sizes and parameters can be read; where a parameter is read, the network is right. -/
import Derived.Test.YtciocdjpgknihaaKh
import Derived.Test.YtciocdjpgknihaaHm
namespace Go.Proofs.Ytciocdjpgknihaa
open Go.RowKit Go.Shelf

theorem loss_nil (a a' : Option Addr) (n c n' c' : Nat) (w : World) : Calls Try.prog 21 #[.pointer none, .slice a n c, .slice a' n' c'] w fun e w' => e = .returned (.tuple #[.int .i64 0, .bool false]) ∧ Grew w w' := by
  go_enter Try.func21, Try.ntmps21
  go_wp2_with fail
  refine (run_nil _ _ _ _).mono ?_
  rintro e w1 ⟨rfl, g1⟩
  go_wp2
  go_ret2
  exact ⟨rfl, g1⟩
theorem loss_no {D b : Nat} {zs ps : List Int} {q : Int} (a a' : Option Addr) (n c n' c' : Nat) (w : World) (hP : NetP zs ps q) (hN : NetM D w b zs ps q) (hn : n ≠ sz zs 0) :
    Calls Try.prog 21 #[.pointer (some ⟨b, 0, none⟩), .slice a n c, .slice a' n' c'] w fun e w' => e = .returned (.tuple #[.int .i64 0, .bool false]) ∧ Grew w w' := by
  have HF := Lib.hid (run_no a n c w hP hN hn)
  clear hP hN hn
  go_enter Try.func21, Try.ntmps21
  go_wp2_with fail
  refine HF.out.mono ?_
  rintro e w1 ⟨rfl, g1⟩
  go_wp2
  go_ret2
  exact ⟨rfl, g1⟩
theorem loss_other {D b n c : Nat} {a : Option Addr} {zs ps xs : List Int} {q : Int} (a' : Option Addr) (n' c' : Nat) (w : World) (hP : NetP zs ps q) (hN : NetM D w b zs ps q) (hx : xs.length = n) (hn : n = sz zs 0) (hxr : Rd w.heap.size w a xs) (hxf : Fit xs) (hn' : n' ≠ sz zs (lnk zs)) :
    Calls Try.prog 21 #[.pointer (some ⟨b, 0, none⟩), .slice a n c, .slice a' n' c'] w fun e w' => e = .returned (.tuple #[.int .i64 0, .bool false]) ∧ Grew w w' := by
  have HF := Lib.hid (run_yes (c := c) w hP hN hx hn hxr hxf)
  have hne : ((n' : Int) != (sz zs (lnk zs) : Int)) = true := bne_iff_ne.2 (by omega)
  clear hP hN hx hn hxr hxf hn'
  generalize sz zs (lnk zs) = m at *
  go_enter Try.func21, Try.ntmps21
  go_wp2_with fail
  refine HF.out.mono ?_
  rintro e w1 ⟨⟨g, c1, rfl, hb⟩, g1⟩
  clear hb
  go_wp2
  go_ret2
  exact ⟨rfl, g1⟩
set_option maxHeartbeats 1000000 in
theorem loss_yes {D b n c n' c' : Nat} {a a' : Option Addr} {zs ps xs ys : List Int} {q : Int} (w : World) (hP : NetP zs ps q) (hN : NetM D w b zs ps q) (hx : xs.length = n) (hn : n = sz zs 0) (hxr : Rd w.heap.size w a xs) (hxf : Fit xs)
    (hy : ys.length = n') (hn' : n' = sz zs (lnk zs)) (hyr : Rd w.heap.size w a' ys) :
    Calls Try.prog 21 #[.pointer (some ⟨b, 0, none⟩), .slice a n c, .slice a' n' c'] w fun e w' => e = .returned (.tuple #[.int .i64 (lossV zs ps q xs ys), .bool true]) ∧ Grew w w' := by
  subst hn'
  have HF := Lib.hid (run_yes (c := c) w hP hN hx hn hxr hxf)
  have HTL := Lib.hid (trV_len (zs := zs) (ps := ps) (q := q) (hx.trans hn) (lnk zs))
  have HE : Hid (pairL (fun a b => wrap64 (a - b)) (trV zs ps q xs (lnk zs)) ys = erV zs ps q xs ys (lnk zs)) := Lib.hid (by rw [erV_last]; unfold pairL; rw [HTL.out])
  have HL : Hid ((erV zs ps q xs ys (lnk zs)).length = sz zs (lnk zs)) := Lib.hid (erV_len (Nat.le_refl _))
  have HV : Hid (dotV (erV zs ps q xs ys (lnk zs)) (erV zs ps q xs ys (lnk zs)) q = lossV zs ps q xs ys) := Lib.hid (by unfold dotV lossV; rw [if_pos rfl, dK_pS, HL.out])
  have HFE : Hid (Fit (erV zs ps q xs ys (lnk zs))) := Lib.hid (erV_fit (Nat.le_refl _))
  have hs := sz_in hP.right.2.2.1 (k := lnk zs) (by have := (lnk_in hP.right).2.2; omega)
  have HN := Lib.hid hN
  have HY := Lib.hid hyr
  have HYL := Lib.hid hy
  have hne : ((sz zs (lnk zs) : Int) != (sz zs (lnk zs) : Int)) = false := bne_self_eq_false _
  clear hP hN hx hn hxr hxf hy hyr
  generalize sz zs (lnk zs) = m at *
  generalize trV zs ps q xs (lnk zs) = T at *
  generalize erV zs ps q xs ys (lnk zs) = E at *
  generalize lossV zs ps q xs ys = L at *
  go_enter Try.func21, Try.ntmps21
  go_wp2_with fail
  refine HF.out.mono ?_
  rintro e w1 ⟨⟨g, c1, rfl, hb⟩, g1⟩
  have HB := Lib.hid hb
  have HG := Lib.hid g1
  clear hb g1
  go_wp2_with fail
  refine (pairs_any (gs := 43) (F := fun a b => wrap64 (a - b)) (enters_of Try.func43 (by kernel_rfl) rfl) (fun a b w => sub_any a b w) _ hs.2 HTL.out HYL.out HB.out.rd (HY.out.grow HG.out)).mono ?_
  rintro e w2 ⟨⟨g', rfl, hb2⟩, g2⟩
  rw [HE.out] at hb2
  have HB2 := Lib.hid hb2
  have HG2 := Lib.hid (HG.out.trans g2)
  obtain ⟨sb, P, la, lc, hX⟩ := (HN.out.grow HG2.out).x
  have c3 := hX.1.c3
  have hbl := hX.1.lt
  clear hb2 g2 hX
  go_wp2_with fail
  refine (vdot_n (n := m) _ _ m m E E q _ HL.out HL.out (by omega) HB2.out.rd HB2.out.rd HFE.out HFE.out).mono ?_
  rintro e w3 ⟨rfl, g3⟩
  rw [HV.out]
  have HG3 := Lib.hid (HG2.out.trans g3)
  clear g3
  go_wp2
  go_ret2
  exact ⟨rfl, HG3.out⟩

theorem grad_nil (a a' : Option Addr) (n c n' c' : Nat) (w : World) : Calls Try.prog 19 #[.pointer none, .slice a n c, .slice a' n' c'] w fun e w' => e = .returned (.tuple #[.slice none 0 0, .bool false]) ∧ Grew w w' := by
  go_enter Try.func19, Try.ntmps19
  go_wp2_with fail
  refine (trace_nil _ _ _ _).mono ?_
  rintro e w1 ⟨rfl, g1⟩
  go_wp2
  go_ret2
  exact ⟨rfl, g1⟩
theorem grad_no {D b : Nat} {zs ps : List Int} {q : Int} (a a' : Option Addr) (n c n' c' : Nat) (w : World) (hP : NetP zs ps q) (hN : NetM D w b zs ps q) (hn : n ≠ sz zs 0) :
    Calls Try.prog 19 #[.pointer (some ⟨b, 0, none⟩), .slice a n c, .slice a' n' c'] w fun e w' => e = .returned (.tuple #[.slice none 0 0, .bool false]) ∧ Grew w w' := by
  have HF := Lib.hid (trace_no a n c w hP hN hn)
  clear hP hN hn
  go_enter Try.func19, Try.ntmps19
  go_wp2_with fail
  refine HF.out.mono ?_
  rintro e w1 ⟨rfl, g1⟩
  go_wp2
  go_ret2
  exact ⟨rfl, g1⟩
theorem vals_at {w : World} {l : Option Addr} {cap : Nat} {vs : List Vec} {zs ps xs : List Int} {q : Int} {j : Nat} (h : Vals w l cap vs zs ps xs q) (hx : xs.length = sz zs 0) (hj : j ≤ lnk zs) :
    ∃ hb off, l = some ⟨hb, off, none⟩ ∧ hb < w.heap.size ∧ lnk zs + 1 ≤ cap ∧ w.cell? ⟨hb, off + j, none⟩ = some (.slice (va vs j).a (sz zs j) (va vs j).cap) ∧ Rd w.heap.size w (va vs j).a (trV zs ps q xs j) := by
  obtain ⟨hb, off, e, hlt, hc⟩ := h.1.heads.at (k := j) (by rw [h.2.1]; omega)
  have hr := h.1.bodies j (by rw [h.2.1]; omega)
  have hcap := h.1.cap
  rw [h.2.2 j hj] at hc hr
  rw [trV_len hx] at hc
  rw [h.2.1] at hcap
  exact ⟨hb, off, e, hlt, hcap, hc, hr⟩
theorem errs_at {w : World} {g cap : Nat} {es : List Vec} {zs ps xs ys : List Int} {q : Int} {j : Nat} (h : Errs w (some ⟨g, 0, none⟩) cap es zs ps xs ys q) (h1 : 1 ≤ j) (hj : j ≤ lnk zs) :
    g < w.heap.size ∧ w.cell? ⟨g, j, none⟩ = some (.slice (va es j).a (sz zs j) (va es j).cap) ∧ Rd w.heap.size w (va es j).a (erV zs ps q xs ys j) := by
  obtain ⟨hb, off, e, hlt, hc⟩ := h.1.heads.at (k := j) (by rw [h.2.1]; omega)
  obtain ⟨rfl, rfl⟩ : g = hb ∧ 0 = off := by injection e with e; injection e with e1 e2; exact ⟨e1, e2⟩
  have hr := h.1.bodies j (by rw [h.2.1]; omega)
  rw [h.2.2 j h1 hj] at hc hr
  rw [erV_len hj, Nat.zero_add] at hc
  exact ⟨hlt, hc, hr⟩
set_option maxHeartbeats 1000000 in
theorem grad_other {D b n c : Nat} {a : Option Addr} {zs ps xs : List Int} {q : Int} (a' : Option Addr) (n' c' : Nat) (w : World) (hP : NetP zs ps q) (hN : NetM D w b zs ps q) (hx : xs.length = n) (hn : n = sz zs 0) (hxr : Rd w.heap.size w a xs) (hxf : Fit xs) (hn' : n' ≠ sz zs (lnk zs)) :
    Calls Try.prog 19 #[.pointer (some ⟨b, 0, none⟩), .slice a n c, .slice a' n' c'] w fun e w' => e = .returned (.tuple #[.slice none 0 0, .bool false]) ∧ Grew w w' := by
  have HF := Lib.hid (trace_yes (c := c) w hP hN hx hn hxr hxf)
  have hne : ((n' : Int) != (sz zs (lnk zs) : Int)) = true := bne_iff_ne.2 (by omega)
  have HN := Lib.hid hN
  have HXL := Lib.hid (hx.trans hn)
  have hm15 := (lnk_in hP.right).2.1
  obtain ⟨N, hNm⟩ : ∃ N, lnk zs + 1 = N := ⟨_, rfl⟩
  have hmN : lnk zs < N := by omega
  have HNM := Lib.hid hNm
  rw [hNm] at HF
  clear hP hN hx hn hxr hxf hn' hNm
  go_enter Try.func19, Try.ntmps19
  go_wp2_with fail
  refine HF.out.mono ?_
  rintro e w1 ⟨⟨l, cap, vs, rfl, hv⟩, g1⟩
  obtain ⟨hb, off, rfl, hlt, _, hc, _⟩ := vals_at hv HXL.out (Nat.le_refl _)
  obtain ⟨sb, P, la, lc, hX⟩ := (HN.out.grow g1).x
  have c2 := hX.1.c2
  have hbl := hX.1.lt
  generalize (va vs (lnk zs)).a = va1 at *
  generalize (va vs (lnk zs)).cap = vc1 at *
  generalize sz zs (lnk zs) = s at *
  clear hX hv
  generalize lnk zs = m at *
  go_wp2
  go_ret2
  exact ⟨rfl, g1⟩
end Go.Proofs.Ytciocdjpgknihaa

namespace Go.Proofs.Ytciocdjpgknihaa
open Go.RowKit Go.Shelf

theorem outer_n {R C cy cx : Nat} {ay ax : Option Addr} {ys xs : List Int} {q : Int} (w : World) (hy : ys.length = R) (hx : xs.length = C) (hR : 1 ≤ R) (hC : 1 ≤ C) (hn : R * C ≤ 1048576) (hyr : Rd w.heap.size w ay ys) (hxr : Rd w.heap.size w ax xs) (hyf : Fit ys) (hxf : Fit xs) :
    Calls Try.prog 38 #[.slice ay R cy, .slice ax C cx, .int .i64 q] w fun e w' => (∃ g, e = .returned (.agg #[.int .i64 R, .int .i64 C, .slice (some ⟨g, 0, none⟩) (R * C : Nat) (R * C : Nat)]) ∧ Buf w.heap.size w' (some ⟨g, 0, none⟩) (R * C) (R * C) (outL ys xs q)) ∧ Grew w w' := by
  subst hy hx
  exact outer_yes w hR hC hn hyr hxr hyf hxf
theorem field_v (w : World) (x y : Int) (a : Option Addr) (n c : Nat) : (Instr.field 68 (.agg #[.int .i64 x, .int .i64 y, .slice a n c]) 2).run Try.prog w = .ok (.slice a n c) w := by kernel_rfl

set_option linter.unusedSimpArgs false in
set_option maxRecDepth 100000 in
set_option maxHeartbeats 8000000 in
theorem grad_yes {D b n c n' c' : Nat} {a a' : Option Addr} {zs ps xs ys : List Int} {q : Int} (w : World) (hP : NetP zs ps q) (hN : NetM D w b zs ps q) (hx : xs.length = n) (hn : n = sz zs 0) (hxr : Rd w.heap.size w a xs) (hxf : Fit xs)
    (hy : ys.length = n') (hn' : n' = sz zs (lnk zs)) (hyr : Rd w.heap.size w a' ys) :
    Calls Try.prog 19 #[.pointer (some ⟨b, 0, none⟩), .slice a n c, .slice a' n' c'] w fun e w' => (∃ g, e = .returned (.tuple #[.slice (some ⟨g, 0, none⟩) (nP zs) (nP zs), .bool true]) ∧ Buf w.heap.size w' (some ⟨g, 0, none⟩) (nP zs) (nP zs) (grL zs ps q xs ys)) ∧ Grew w w' := by
  subst hn'
  have hXL := hx.trans hn
  have HF := Lib.hid (trace_yes (c := c) w hP hN hx hn hxr hxf)
  have HN := Lib.hid hN
  have HP := Lib.hid hP
  have HXL := Lib.hid hXL
  have HXF := Lib.hid hxf
  have HY := Lib.hid hyr
  have HYL := Lib.hid hy
  have hl := lnk_in hP.right
  have hnp := nP_in hP.right
  have HZL := Lib.hid hl.2.2
  obtain ⟨N, hNm⟩ : ∃ N, lnk zs + 1 = N := ⟨_, rfl⟩
  have HNM := Lib.hid hNm
  have hmN : lnk zs < N := by omega
  have hm1 := hl.1
  have hm15 := hl.2.1
  have hmk := run_make_row' (P := Try.prog) 32 2 (.int .i64 0) 8 Try.underlying32 (by kernel_rfl) rfl .i64 .i64 (nP zs) (by omega) (by omega)
  have hfd := field_v
  rw [hNm] at HF
  have hne : ((sz zs (lnk zs) : Int) != (sz zs (lnk zs) : Int)) = false := bne_self_eq_false _
  clear hP hN hx hn hxr hxf hy hyr hNm hl hXL
  go_enter Try.func19, Try.ntmps19
  go_wp2_with fail
  refine HF.out.mono ?_
  rintro e w1 ⟨⟨l, cap, vs, rfl, hv⟩, g1⟩
  obtain ⟨hb, off, rfl, hlt, hcap, hc, _⟩ := vals_at hv HXL.out (Nat.le_refl _)
  obtain ⟨sb, P, la, lc, hX⟩ := (HN.out.grow g1).x
  have c2 := hX.1.c2
  have hbl := hX.1.lt
  have HV := Lib.hid hv
  have HG1 := Lib.hid g1
  have HX1 := Lib.hid hX
  have HBK := Lib.hid (nback_any (cy := c') (q := q) w1 HP.out (HN.out.grow g1) HXL.out HXF.out hv HYL.out rfl (HY.out.grow g1))
  rw [HNM.out] at HBK
  generalize (va vs (lnk zs)).a = va1 at *
  generalize (va vs (lnk zs)).cap = vc1 at *
  clear hX hv g1
  go_wp2_with fail
  refine HBK.out.mono ?_
  rintro e w2 ⟨⟨eg, es, rfl, he⟩, g2⟩
  have HE := Lib.hid he
  have HG2 := Lib.hid (HG1.out.trans g2)
  have HV2 := Lib.hid (HV.out.grow g2)
  have HX2 := Lib.hid (HX1.out.grow g2)
  have n0 := HX2.out.1.c0
  have n1 := HX2.out.1.c1
  have n2 := HX2.out.1.c2
  have hbl2 := HX2.out.1.lt
  clear he g2 hc c2 hbl hlt HBK HV HX1
  have gA : Grew w2 (w2.alloc (.cells (madeCells #[.int .i64 0] (nP zs)) 2)) := (Grew.refl _).alloc _
  have hbm := Buf.made w2 (nP zs) (by omega)
  have HSA : Hid ((w2.alloc (.cells (madeCells #[.int .i64 0] (nP zs)) 2)).heap.size = w2.heap.size + 1) := Lib.hid (by simp)
  have HXA := Lib.hid (HX2.out.grow gA)
  have HGA := Lib.hid gA
  have HBM : Hid (Buf w2.heap.size (w2.alloc (.cells (madeCells #[.int .i64 0] (nP zs)) 2)) (some ⟨w2.heap.size, 0, none⟩) (nP zs) (nP zs) (grN zs ps q xs ys 0)) := Lib.hid (by rw [grN_zero]; exact hbm)
  have hsp := split_any (P := w2.heap.size) HP.out.right HXA.out.2.1
  have HSP := Lib.hid hsp
  clear gA hbm hsp
  go_wp2_with fail
  generalize w2.alloc (.cells (madeCells #[.int .i64 0] (nP zs)) 2) = wa at *
  refine HSP.out.mono ?_
  rintro e w3 ⟨⟨ga, gc, rfl, hown⟩, g3⟩
  have HL3 : Hid (w3.ownsRow (w2.heap.size + 1) 70 4 (.slice ga (lnk zs) gc) (lnk zs) (lcells w2.heap.size zs (lnk zs))) := Lib.hid (by rw [← HSA.out]; exact hown)
  have HB3 := Lib.hid (HBM.out.grow g3)
  have HG3 := Lib.hid (HGA.out.trans g3)
  have HLA := Lib.hid (link_at hown rfl (k := 0) (by omega))
  obtain ⟨lg, hlg, _, hlgl, hgc, hgm, _⟩ := HLA.out
  subst hlg
  clear hown g3 HSP HLA hmk n0 n1 n2 HBM HXA HGA
  go_wp2
  rename World => W3
  go_loopw [53] (fun x wr => ∃ k : Nat, k ≤ lnk zs ∧ x = .int .i64 k ∧ Hid (Buf w2.heap.size wr (some ⟨w2.heap.size, 0, none⟩) (nP zs) (nP zs) (grN zs ps q xs ys k)) ∧ Hid (wr.ownsRow (w2.heap.size + 1) 70 4 (.slice (some ⟨lg, 0, none⟩) (lnk zs) gc) (lnk zs) (lcells w2.heap.size zs (lnk zs))) ∧ Hid (Grew w2 wr)) (fun x _ => lnk zs - (intOf x).toNat)
  case atStart => exact ⟨0, Nat.zero_le _, rfl, HB3, HL3, HG3⟩
  case round =>
    obtain ⟨k, hk, rfl, HB, HL, HG⟩ := hrel
    by_cases hlt : k < lnk zs
    · have hok := HP.out.right.2.2.1
      obtain ⟨lg', e', _, hgl', _, _, k0, k1, k2, k3⟩ := link_at HL.out rfl hlt
      obtain rfl : lg = lg' := by injection e' with e'; injection e'
      have hs0 := sz_in hok (k := k) (by have := HZL.out; omega)
      have hs1 := sz_in hok (k := k + 1) (by have := HZL.out; omega)
      have hob := oB_eq hok hlt
      have hin := oB_in hok hlt
      have hfw : oW zs k + sz zs (k + 1) * sz zs k ≤ nP zs := by omega
      clear hob
      have HST := Lib.hid (grN_step (zs := zs) (ps := ps) (q := q) (x := xs) (y := ys) hok HXL.out hlt)
      have hpr := layer_prod HP.out.right hlt
      have HEF : Hid (Fit (erV zs ps q xs ys (k + 1))) := Lib.hid (erV_fit (by omega))
      have HTF := Lib.hid (trV_fit (zs := zs) (ps := ps) (q := q) HXF.out k)
      have HEL : Hid ((erV zs ps q xs ys (k + 1)).length = sz zs (k + 1)) := Lib.hid (erV_len (by omega))
      have HTL := Lib.hid (trV_len (zs := zs) (ps := ps) (q := q) HXL.out k)
      have gV : Grew wr (wr.alloc (.cells #[.int .i64 (sz zs (k + 1)), .int .i64 (sz zs k), .slice (some ⟨w2.heap.size, oW zs k, none⟩) (sz zs (k + 1) * sz zs k : Nat) (nP zs - oW zs k : Nat), .slice (some ⟨w2.heap.size, oB zs k, none⟩) (sz zs (k + 1)) (nP zs - oB zs k : Nat)] 70)) := (Grew.refl _).alloc _
      have HF4 : Hid (Four (wr.alloc (.cells #[.int .i64 (sz zs (k + 1)), .int .i64 (sz zs k), .slice (some ⟨w2.heap.size, oW zs k, none⟩) (sz zs (k + 1) * sz zs k : Nat) (nP zs - oW zs k : Nat), .slice (some ⟨w2.heap.size, oB zs k, none⟩) (sz zs (k + 1)) (nP zs - oB zs k : Nat)] 70)) wr.heap.size 70 (.int .i64 (sz zs (k + 1))) (.int .i64 (sz zs k)) (.slice (some ⟨w2.heap.size, oW zs k, none⟩) (sz zs (k + 1) * sz zs k : Nat) (nP zs - oW zs k : Nat)) (.slice (some ⟨w2.heap.size, oB zs k, none⟩) (sz zs (k + 1)) (nP zs - oB zs k : Nat))) := Lib.hid (Four.new _ _ _ _ _ _)
      have HBV := Lib.hid (HB.out.grow gV)
      have HLV := Lib.hid (own_grow HL.out gV)
      have HGV := Lib.hid (HG.out.trans gV)
      have hgw : w2.heap.size < wr.heap.size := by
        obtain ⟨g, e, _, hlt', _⟩ := HB.out.at (k := 0) (by omega)
        obtain rfl : w2.heap.size = g := by injection e with e; injection e
        exact hlt'
      clear e' gV hgl'
      go_wp2_with fail
      generalize wr.alloc (.cells #[.int .i64 (sz zs (k + 1)), .int .i64 (sz zs k), .slice (some ⟨w2.heap.size, oW zs k, none⟩) (sz zs (k + 1) * sz zs k : Nat) (nP zs - oW zs k : Nat), .slice (some ⟨w2.heap.size, oB zs k, none⟩) (sz zs (k + 1)) (nP zs - oB zs k : Nat)] 70) = wv at *
      generalize wr.heap.size = L9 at *
      clear k0 k1 k2 k3
      have f2 := HF4.out.c2
      obtain ⟨hb', off', ev, hvb, hvc, hv1, hv2⟩ := vals_at (HV2.out.grow HGV.out) HXL.out (j := k) (by omega)
      obtain ⟨rfl, rfl⟩ : hb = hb' ∧ off = off' := by injection ev with ev; injection ev with e1 e2; exact ⟨e1, e2⟩
      obtain ⟨heb, he1, he2⟩ := errs_at (HE.out.grow HGV.out) (j := k + 1) (by omega) (by omega)
      have n3 := (HX2.out.grow HGV.out).1.c3
      have hbv := (HX2.out.grow HGV.out).1.lt
      have hvb0 : hb < w2.heap.size := by
        obtain ⟨hb', off', ev', hvb', _⟩ := vals_at HV2.out HXL.out (j := k) (by omega)
        obtain ⟨rfl, rfl⟩ : hb = hb' ∧ off = off' := by injection ev' with ev'; injection ev' with e1 e2; exact ⟨e1, e2⟩
        exact hvb'
      have heb0 : eg < w2.heap.size := (errs_at HE.out (j := k + 1) (by omega) (by omega)).1
      have HVR := Lib.hid hv2
      have HER := Lib.hid he2
      have hwk : IntKind.i64.wrap ((k : Int) + 1) = (k : Int) + 1 := IntWalk.i64_in _ (by omega)
      have h0k : (0 : Int) ≤ (k : Int) + 1 := by omega
      have h1k : (k : Int) + 1 < (N : Int) := by have := HNM.out; omega
      have htk : ((k : Int) + 1).toNat = k + 1 := by omega
      have h2k : (k : Int) < (N : Int) := by have := HNM.out; omega
      have h3k : k < N := by have := HNM.out; omega
      have HERR : Hid (∀ W, Grew w2 W → W.cell? ⟨eg, k + 1, none⟩ = some (.slice (va es (k + 1)).a (sz zs (k + 1)) (va es (k + 1)).cap) ∧ Rd W.heap.size W (va es (k + 1)).a (erV zs ps q xs ys (k + 1))) := Lib.hid (fun W g => (errs_at (HE.out.grow g) (by omega) (by omega)).2)
      generalize (va vs k).a = va2 at *
      generalize (va vs k).cap = vc2 at *
      generalize (va es (k + 1)).a = ea2 at *
      generalize (va es (k + 1)).cap = ec2 at *
      clear ev hv2 he2
      refine wp_region_held_drew (S := (fun W' => Grew w2 W' ∧ W'.cell? ⟨L9, 2, none⟩ = some (.slice (some ⟨w2.heap.size, oW zs k, none⟩) (sz zs (k + 1) * sz zs k : Nat) (nP zs - oW zs k : Nat)) ∧ W'.cell? ⟨eg, k + 1, none⟩ = some (.slice ea2 (sz zs (k + 1)) ec2) ∧ W'.cell? ⟨hb, off + k, none⟩ = some (.slice va2 (sz zs k) vc2) ∧ W'.cell? ⟨b, 3, none⟩ = some (.int .i64 q))) (by kernel_rfl) ⟨Grew.drew' HGV.out, f2, he1, hv1, n3⟩ (fun hHeld => ?_)
      refine wpAnyH_take (i := 0) (oi := { dst := some 58, op := Go.Op.fieldAddr 70 (Go.Operand.tmp 13) 0, type := 0, pos := _, after := #[], guard := none }) (v := ?v1) rfl (by kernel_rfl) (by kernel_rfl) (by kernel_rfl) (fun _ _ _ h => h) (Or.inl ⟨by kernel_rfl, ?hy1⟩) (by assumption) ?_
      case hy1 => intro w hSw; (try dsimp only at hSw); first | (go_simp; done) | (go_simp; with_reducible rfl)
      (try simp only [Act.put, List.setIfInBounds_toArray, List.set_cons_zero, List.set_cons_succ])
      refine wpAnyH_take (i := 1) (oi := { dst := some 59, op := Go.Op.fieldAddr 68 (Go.Operand.tmp 58) 2, type := 0, pos := _, after := #[{ on := 0, ground := Go.Ground.data }], guard := none }) (v := ?v2) rfl (by kernel_rfl) (by kernel_rfl) (by kernel_rfl) (fun _ _ _ h => h) (Or.inl ⟨by kernel_rfl, ?hy2⟩) (by assumption) ?_
      case hy2 => intro w hSw; (try dsimp only at hSw); first | (go_simp; done) | (go_simp; with_reducible rfl)
      (try simp only [Act.put, List.setIfInBounds_toArray, List.set_cons_zero, List.set_cons_succ])
      refine wpAnyH_take (i := 2) (oi := { dst := some 60, op := Go.Op.load 32 (Go.Operand.tmp 59), type := 32, pos := _, after := #[{ on := 1, ground := Go.Ground.data }], guard := none }) (v := ?v3) rfl (by kernel_rfl) (by kernel_rfl) (by kernel_rfl) (fun _ _ _ h => h) (Or.inl ⟨by kernel_rfl, ?hy3⟩) (by assumption) ?_
      case hy3 => intro w hSw; (try dsimp only at hSw); first | (go_simp; done) | (go_simp; with_reducible rfl)
      (try simp only [Act.put, List.setIfInBounds_toArray, List.set_cons_zero, List.set_cons_succ])
      refine wpAnyH_take (i := 3) (oi := { dst := some 61, op := Go.Op.move (Go.Operand.tmp 10), type := 35, pos := _, after := #[], guard := none }) (v := ?v4) rfl (by kernel_rfl) (by kernel_rfl) (by kernel_rfl) (fun _ _ _ h => h) (Or.inl ⟨by kernel_rfl, ?hy4⟩) (by assumption) ?_
      case hy4 => intro w hSw; (try dsimp only at hSw); first | (go_simp; done) | (go_simp; with_reducible rfl)
      (try simp only [Act.put, List.setIfInBounds_toArray, List.set_cons_zero, List.set_cons_succ])
      refine wpAnyH_take (i := 4) (oi := { dst := some 62, op := Go.Op.move (Go.Operand.tmp 12), type := 3, pos := _, after := #[], guard := none }) (v := ?v5) rfl (by kernel_rfl) (by kernel_rfl) (by kernel_rfl) (fun _ _ _ h => h) (Or.inl ⟨by kernel_rfl, ?hy5⟩) (by assumption) ?_
      case hy5 => intro w hSw; (try dsimp only at hSw); first | (go_simp; done) | (go_simp; with_reducible rfl)
      (try simp only [Act.put, List.setIfInBounds_toArray, List.set_cons_zero, List.set_cons_succ])
      refine wpAnyH_take (i := 5) (oi := { dst := some 63, op := Go.Op.binOp Go.BinOp.add 3 (Go.Operand.tmp 62) (Go.Operand.const (Go.Value.int Go.IntKind.i64 1)) 3, type := 3, pos := _, after := #[{ on := 4, ground := Go.Ground.data }], guard := none }) (v := ?v6) rfl (by kernel_rfl) (by kernel_rfl) (by kernel_rfl) (fun _ _ _ h => h) (Or.inl ⟨by kernel_rfl, ?hy6⟩) (by assumption) ?_
      case hy6 => intro w hSw; (try dsimp only at hSw); first | (go_simp; done) | (go_simp; with_reducible rfl)
      (try simp only [Act.put, List.setIfInBounds_toArray, List.set_cons_zero, List.set_cons_succ])
      refine wpAnyH_take (i := 6) (oi := { dst := some 64, op := Go.Op.indexAddr 35 (Go.Operand.tmp 61) (Go.Operand.tmp 63), type := 0, pos := _, after := #[{ on := 3, ground := Go.Ground.data }, { on := 5, ground := Go.Ground.data }], guard := none }) (v := ?v7) rfl (by kernel_rfl) (by kernel_rfl) (by kernel_rfl) (fun _ _ _ h => h) (Or.inl ⟨by kernel_rfl, ?hy7⟩) (by assumption) ?_
      case hy7 => intro w hSw; (try dsimp only at hSw); first | (go_simp; done) | (go_simp; with_reducible rfl)
      (try simp only [Act.put, List.setIfInBounds_toArray, List.set_cons_zero, List.set_cons_succ])
      refine wpAnyH_take (i := 7) (oi := { dst := some 65, op := Go.Op.load 32 (Go.Operand.tmp 64), type := 32, pos := _, after := #[{ on := 6, ground := Go.Ground.data }], guard := none }) (v := ?v8) rfl (by kernel_rfl) (by kernel_rfl) (by kernel_rfl) (fun _ _ _ h => h) (Or.inl ⟨by kernel_rfl, ?hy8⟩) (by assumption) ?_
      case hy8 => intro w hSw; (try dsimp only at hSw); first | (go_simp; done) | (go_simp; with_reducible rfl)
      (try simp only [Act.put, List.setIfInBounds_toArray, List.set_cons_zero, List.set_cons_succ])
      refine wpAnyH_take (i := 8) (oi := { dst := some 66, op := Go.Op.move (Go.Operand.tmp 8), type := 35, pos := _, after := #[], guard := none }) (v := ?v9) rfl (by kernel_rfl) (by kernel_rfl) (by kernel_rfl) (fun _ _ _ h => h) (Or.inl ⟨by kernel_rfl, ?hy9⟩) (by assumption) ?_
      case hy9 => intro w hSw; (try dsimp only at hSw); first | (go_simp; done) | (go_simp; with_reducible rfl)
      (try simp only [Act.put, List.setIfInBounds_toArray, List.set_cons_zero, List.set_cons_succ])
      refine wpAnyH_take (i := 9) (oi := { dst := some 67, op := Go.Op.move (Go.Operand.tmp 12), type := 3, pos := _, after := #[], guard := none }) (v := ?v10) rfl (by kernel_rfl) (by kernel_rfl) (by kernel_rfl) (fun _ _ _ h => h) (Or.inl ⟨by kernel_rfl, ?hy10⟩) (by assumption) ?_
      case hy10 => intro w hSw; (try dsimp only at hSw); first | (go_simp; done) | (go_simp; with_reducible rfl)
      (try simp only [Act.put, List.setIfInBounds_toArray, List.set_cons_zero, List.set_cons_succ])
      refine wpAnyH_take (i := 10) (oi := { dst := some 68, op := Go.Op.indexAddr 35 (Go.Operand.tmp 66) (Go.Operand.tmp 67), type := 0, pos := _, after := #[{ on := 8, ground := Go.Ground.data }, { on := 9, ground := Go.Ground.data }], guard := none }) (v := ?v11) rfl (by kernel_rfl) (by kernel_rfl) (by kernel_rfl) (fun _ _ _ h => h) (Or.inl ⟨by kernel_rfl, ?hy11⟩) (by assumption) ?_
      case hy11 => intro w hSw; (try dsimp only at hSw); first | (go_simp; done) | (go_simp; with_reducible rfl)
      (try simp only [Act.put, List.setIfInBounds_toArray, List.set_cons_zero, List.set_cons_succ])
      refine wpAnyH_take (i := 11) (oi := { dst := some 69, op := Go.Op.load 32 (Go.Operand.tmp 68), type := 32, pos := _, after := #[{ on := 10, ground := Go.Ground.data }], guard := none }) (v := ?v12) rfl (by kernel_rfl) (by kernel_rfl) (by kernel_rfl) (fun _ _ _ h => h) (Or.inl ⟨by kernel_rfl, ?hy12⟩) (by assumption) ?_
      case hy12 => intro w hSw; (try dsimp only at hSw); first | (go_simp; done) | (go_simp; with_reducible rfl)
      (try simp only [Act.put, List.setIfInBounds_toArray, List.set_cons_zero, List.set_cons_succ])
      refine wpAnyH_take (i := 12) (oi := { dst := some 70, op := Go.Op.move (Go.Operand.tmp 0), type := 29, pos := _, after := #[], guard := none }) (v := ?v13) rfl (by kernel_rfl) (by kernel_rfl) (by kernel_rfl) (fun _ _ _ h => h) (Or.inl ⟨by kernel_rfl, ?hy13⟩) (by assumption) ?_
      case hy13 => intro w hSw; (try dsimp only at hSw); first | (go_simp; done) | (go_simp; with_reducible rfl)
      (try simp only [Act.put, List.setIfInBounds_toArray, List.set_cons_zero, List.set_cons_succ])
      refine wpAnyH_take (i := 13) (oi := { dst := some 71, op := Go.Op.nilCheck (Go.Operand.tmp 70), type := 0, pos := _, after := #[{ on := 12, ground := Go.Ground.data }], guard := none }) (v := ?v14) rfl (by kernel_rfl) (by kernel_rfl) (by kernel_rfl) (fun _ _ _ h => h) (Or.inl ⟨by kernel_rfl, ?hy14⟩) (by assumption) ?_
      case hy14 => intro w hSw; (try dsimp only at hSw); first | (go_simp; done) | (go_simp; with_reducible rfl)
      (try simp only [Act.put, List.setIfInBounds_toArray, List.set_cons_zero, List.set_cons_succ])
      refine wpAnyH_take (i := 14) (oi := { dst := some 72, op := Go.Op.fieldAddr 58 (Go.Operand.tmp 71) 3, type := 0, pos := _, after := #[{ on := 13, ground := Go.Ground.data }], guard := none }) (v := ?v15) rfl (by kernel_rfl) (by kernel_rfl) (by kernel_rfl) (fun _ _ _ h => h) (Or.inl ⟨by kernel_rfl, ?hy15⟩) (by assumption) ?_
      case hy15 => intro w hSw; (try dsimp only at hSw); first | (go_simp; done) | (go_simp; with_reducible rfl)
      (try simp only [Act.put, List.setIfInBounds_toArray, List.set_cons_zero, List.set_cons_succ])
      refine wpAnyH_take (i := 15) (oi := { dst := some 73, op := Go.Op.load 3 (Go.Operand.tmp 72), type := 3, pos := _, after := #[{ on := 14, ground := Go.Ground.data }], guard := none }) (v := ?v16) rfl (by kernel_rfl) (by kernel_rfl) (by kernel_rfl) (fun _ _ _ h => h) (Or.inl ⟨by kernel_rfl, ?hy16⟩) (by assumption) ?_
      case hy16 => intro w hSw; (try dsimp only at hSw); first | (go_simp; done) | (go_simp; with_reducible rfl)
      (try simp only [Act.put, List.setIfInBounds_toArray, List.set_cons_zero, List.set_cons_succ])
      refine wpAnyH_ready (rs := [16]) (by kernel_rfl) (by simp) ?_
      refine AllReadyH.cons (o := { dst := some 74, op := Go.Op.call { callee := Go.Callee.value (Go.Operand.func 38), args := #[Go.Operand.tmp 65, Go.Operand.tmp 69, Go.Operand.tmp 73], argTypes := #[32, 32, 3] }, type := 68, pos := _, after := #[{ on := 7, ground := Go.Ground.data }, { on := 11, ground := Go.Ground.data }, { on := 15, ground := Go.Ground.data }], guard := none }) rfl (fun K hK => ?_) AllReadyH.nil
      go_simp
      (go_at_call 38; refine (outer_n _ HEL.out HTL.out hs1.1 hs0.1 hpr (HER.out.grow (Grew.drew' (Grew.refl wv))) (HVR.out.grow (Grew.drew' (Grew.refl wv))) HEF.out HTF.out).mono ?_; rintro e w5 ⟨⟨g5, rfl, hb5⟩, g5'⟩; have gd5 := (Grew.drew' (Grew.refl wv)).trans g5'; have HB5 := Lib.hid (HBV.out.grow gd5); have HL5 := Lib.hid (own_grow HLV.out gd5); have HG5 := Lib.hid (HGV.out.trans gd5); have HF5 := Lib.hid (HF4.out.grow gd5); obtain ⟨w6, hcp, hb6, hg6⟩ := run_copy_part (c := nP zs - oW zs k) (scap := sz zs (k + 1) * sz zs k) (o := oW zs k) HB5.out hb5.rd hb5.len (show 1 ≤ sz zs (k + 1) * sz zs k from Nat.mul_pos hs1.1 hs0.1) hfw; have HB6 := Lib.hid hb6; clear hb5 hb6)
      (try go_wp2_with fail)
      refine hK.out _ _ ?hS18 (fun hHeld => ?_)
      case hS18 => (try dsimp only); (obtain ⟨s0, s1, s2, s3, s4⟩ := hHeld; exact ⟨s0.trans g5', kcG (g5'.by' none) s1 (fun e => by cases e), kcG (g5'.by' none) s2 (fun e => by cases e), kcG (g5'.by' none) s3 (fun e => by cases e), kcG (g5'.by' none) s4 (fun e => by cases e)⟩)
      clear hK K
      (try simp only [Act.put, List.setIfInBounds_toArray, List.set_cons_zero, List.set_cons_succ])
      refine wpAnyH_take (i := 17) (oi := { dst := some 75, op := Go.Op.field 68 (Go.Operand.tmp 74) 2, type := 32, pos := _, after := #[{ on := 16, ground := Go.Ground.data }], guard := none }) (v := ?v19) rfl (by kernel_rfl) (by kernel_rfl) (by kernel_rfl) (fun _ _ _ h => h) (Or.inl ⟨by kernel_rfl, ?hy19⟩) (by assumption) ?_
      case hy19 => intro w hSw; (try dsimp only at hSw); first | (go_simp; done) | (go_simp; with_reducible rfl)
      (try simp only [Act.put, List.setIfInBounds_toArray, List.set_cons_zero, List.set_cons_succ])
      refine wpAnyH_ready (rs := [18]) (by kernel_rfl) (by simp) ?_
      refine AllReadyH.cons (o := { dst := some 76, op := Go.Op.call { callee := Go.Callee.builtin Go.Builtin.copy, args := #[Go.Operand.tmp 60, Go.Operand.tmp 75], argTypes := #[32, 32] }, type := 3, pos := _, after := #[{ on := 2, ground := Go.Ground.data }, { on := 17, ground := Go.Ground.data }, { on := 16, ground := Go.Ground.chain }], guard := none }) rfl (fun K hK => ?_) AllReadyH.nil
      go_simp
      skip
      (try go_wp2_with fail)
      refine hK.out _ _ ?hS21 (fun hHeld => ?_)
      case hS21 => (try dsimp only); (obtain ⟨s0, s1, s2, s3, s4⟩ := hHeld; exact ⟨Grew.trans_below s0 (grownBy_below hg6 (Nat.le_refl _) (by have := s0.size; exact this)) (Nat.le_refl _), kcG hg6 s1 (fun e => by injection e with e; dsimp only at e; omega), kcG hg6 s2 (fun e => by injection e with e; dsimp only at e; omega), kcG hg6 s3 (fun e => by injection e with e; dsimp only at e; omega), kcG hg6 s4 (fun e => by injection e with e; dsimp only at e; omega)⟩)
      clear hK K
      (try simp only [Act.put, List.setIfInBounds_toArray, List.set_cons_zero, List.set_cons_succ])
      refine wpAnyH_done (by kernel_rfl) ?_ _
      have HL6 := Lib.hid (own_aside HL5.out hg6 (by omega))
      have HG6 : Hid (Grew w2 w6) := Lib.hid (Grew.trans_below HG5.out (grownBy_below hg6 (Nat.le_refl _) (by have := HG5.out.size; omega)) (Nat.le_refl _))
      have HF6 := Lib.hid (HF5.out.grown hg6 (fun e => by injection e with e; omega))
      clear hHeld hcp hg6 f2 hv1 he1 n3
      have f3 := HF6.out.c3
      obtain ⟨he1, he2⟩ := HERR.out _ HG6.out
      obtain ⟨w7, hcp, hb7, hg7⟩ := run_copy_part (c := nP zs - oB zs k) (scap := ec2) (o := oB zs k) (HB6.out.grow (Grew.drew' (Grew.refl w6))) (he2.grow (Grew.drew' (Grew.refl w6))) HEL.out hs1.1 hin
      rw [HST.out] at hb7
      have HB7 := Lib.hid hb7
      clear hb7 he2
      go_wp2_with fail
      refine wp_region_held_drew (S := (fun W' => W'.cell? ⟨L9, 3, none⟩ = some (.slice (some ⟨w2.heap.size, oB zs k, none⟩) (sz zs (k + 1)) (nP zs - oB zs k : Nat)) ∧ W'.cell? ⟨eg, k + 1, none⟩ = some (.slice ea2 (sz zs (k + 1)) ec2))) (by kernel_rfl) ⟨f3, he1⟩ (fun hHeld => ?_)
      refine wpAnyH_take (i := 0) (oi := { dst := some 77, op := Go.Op.fieldAddr 70 (Go.Operand.tmp 13) 1, type := 0, pos := _, after := #[], guard := none }) (v := ?v22) rfl (by kernel_rfl) (by kernel_rfl) (by kernel_rfl) (fun _ _ _ h => h) (Or.inl ⟨by kernel_rfl, ?hy22⟩) (by assumption) ?_
      case hy22 => intro w hSw; (try dsimp only at hSw); first | (go_simp; done) | (go_simp; with_reducible rfl)
      (try simp only [Act.put, List.setIfInBounds_toArray, List.set_cons_zero, List.set_cons_succ])
      refine wpAnyH_take (i := 1) (oi := { dst := some 78, op := Go.Op.load 32 (Go.Operand.tmp 77), type := 32, pos := _, after := #[{ on := 0, ground := Go.Ground.data }], guard := none }) (v := ?v23) rfl (by kernel_rfl) (by kernel_rfl) (by kernel_rfl) (fun _ _ _ h => h) (Or.inl ⟨by kernel_rfl, ?hy23⟩) (by assumption) ?_
      case hy23 => intro w hSw; (try dsimp only at hSw); first | (go_simp; done) | (go_simp; with_reducible rfl)
      (try simp only [Act.put, List.setIfInBounds_toArray, List.set_cons_zero, List.set_cons_succ])
      refine wpAnyH_take (i := 2) (oi := { dst := some 79, op := Go.Op.move (Go.Operand.tmp 10), type := 35, pos := _, after := #[], guard := none }) (v := ?v24) rfl (by kernel_rfl) (by kernel_rfl) (by kernel_rfl) (fun _ _ _ h => h) (Or.inl ⟨by kernel_rfl, ?hy24⟩) (by assumption) ?_
      case hy24 => intro w hSw; (try dsimp only at hSw); first | (go_simp; done) | (go_simp; with_reducible rfl)
      (try simp only [Act.put, List.setIfInBounds_toArray, List.set_cons_zero, List.set_cons_succ])
      refine wpAnyH_take (i := 3) (oi := { dst := some 80, op := Go.Op.move (Go.Operand.tmp 12), type := 3, pos := _, after := #[], guard := none }) (v := ?v25) rfl (by kernel_rfl) (by kernel_rfl) (by kernel_rfl) (fun _ _ _ h => h) (Or.inl ⟨by kernel_rfl, ?hy25⟩) (by assumption) ?_
      case hy25 => intro w hSw; (try dsimp only at hSw); first | (go_simp; done) | (go_simp; with_reducible rfl)
      (try simp only [Act.put, List.setIfInBounds_toArray, List.set_cons_zero, List.set_cons_succ])
      refine wpAnyH_take (i := 4) (oi := { dst := some 81, op := Go.Op.binOp Go.BinOp.add 3 (Go.Operand.tmp 80) (Go.Operand.const (Go.Value.int Go.IntKind.i64 1)) 3, type := 3, pos := _, after := #[{ on := 3, ground := Go.Ground.data }], guard := none }) (v := ?v26) rfl (by kernel_rfl) (by kernel_rfl) (by kernel_rfl) (fun _ _ _ h => h) (Or.inl ⟨by kernel_rfl, ?hy26⟩) (by assumption) ?_
      case hy26 => intro w hSw; (try dsimp only at hSw); first | (go_simp; done) | (go_simp; with_reducible rfl)
      (try simp only [Act.put, List.setIfInBounds_toArray, List.set_cons_zero, List.set_cons_succ])
      refine wpAnyH_take (i := 5) (oi := { dst := some 82, op := Go.Op.indexAddr 35 (Go.Operand.tmp 79) (Go.Operand.tmp 81), type := 0, pos := _, after := #[{ on := 2, ground := Go.Ground.data }, { on := 4, ground := Go.Ground.data }], guard := none }) (v := ?v27) rfl (by kernel_rfl) (by kernel_rfl) (by kernel_rfl) (fun _ _ _ h => h) (Or.inl ⟨by kernel_rfl, ?hy27⟩) (by assumption) ?_
      case hy27 => intro w hSw; (try dsimp only at hSw); first | (go_simp; done) | (go_simp; with_reducible rfl)
      (try simp only [Act.put, List.setIfInBounds_toArray, List.set_cons_zero, List.set_cons_succ])
      refine wpAnyH_take (i := 6) (oi := { dst := some 83, op := Go.Op.load 32 (Go.Operand.tmp 82), type := 32, pos := _, after := #[{ on := 5, ground := Go.Ground.data }], guard := none }) (v := ?v28) rfl (by kernel_rfl) (by kernel_rfl) (by kernel_rfl) (fun _ _ _ h => h) (Or.inl ⟨by kernel_rfl, ?hy28⟩) (by assumption) ?_
      case hy28 => intro w hSw; (try dsimp only at hSw); first | (go_simp; done) | (go_simp; with_reducible rfl)
      (try simp only [Act.put, List.setIfInBounds_toArray, List.set_cons_zero, List.set_cons_succ])
      refine wpAnyH_ready (rs := [7]) (by kernel_rfl) (by simp) ?_
      refine AllReadyH.cons (o := { dst := some 84, op := Go.Op.call { callee := Go.Callee.builtin Go.Builtin.copy, args := #[Go.Operand.tmp 78, Go.Operand.tmp 83], argTypes := #[32, 32] }, type := 3, pos := _, after := #[{ on := 1, ground := Go.Ground.data }, { on := 6, ground := Go.Ground.data }], guard := none }) rfl (fun K hK => ?_) AllReadyH.nil
      go_simp
      skip
      (try go_wp2_with fail)
      refine hK.out _ _ ?hS30 (fun hHeld => ?_)
      case hS30 => (try dsimp only); (obtain ⟨s1, s2⟩ := hHeld; exact ⟨kcG hg7 s1 (fun e => by injection e with e; dsimp only at e; omega), kcG hg7 s2 (fun e => by injection e with e; dsimp only at e; omega)⟩)
      clear hK K
      (try simp only [Act.put, List.setIfInBounds_toArray, List.set_cons_zero, List.set_cons_succ])
      refine wpAnyH_done (by kernel_rfl) ?_ _
      have HL7 := Lib.hid (own_aside (own_grow HL6.out (Grew.drew' (Grew.refl w6))) hg7 (by omega))
      have HG7 : Hid (Grew w2 w7) := Lib.hid (Grew.trans_below (Grew.drew' HG6.out) (grownBy_below hg7 (Nat.le_refl _) (by have := HG6.out.size; exact this)) (Nat.le_refl _))
      clear hHeld hcp hg7 f3 he1
      go_wp2
      go_roundw
      case rel => exact ⟨k + 1, by omega, by go_num, HB7, HL7, HG7⟩
      case measure => simp [intOf]; omega
    · obtain rfl : k = lnk zs := by omega
      have HBE : Hid (Buf w.heap.size wr (some ⟨w2.heap.size, 0, none⟩) (nP zs) (nP zs) (grL zs ps q xs ys)) := Lib.hid (by rw [← grN_all]; exact HB.out.mono HG2.out.size)
      have HGE := Lib.hid (HG2.out.trans HG.out)
      go_wp2
      go_ret2
      exact ⟨⟨_, rfl, HBE.out⟩, HGE.out⟩
end Go.Proofs.Ytciocdjpgknihaa

namespace Go.Proofs.Ytciocdjpgknihaa
open Go.RowKit Go.Shelf

/-- A network of the reference that can be read. -/
structure RN (w : World) (sa : Option Addr) (sc : Nat) (pa : Option Addr) (pc : Nat) (zs ps : List Int) : Prop where
  sr : RdK .i64 w.heap.size w sa zs
  pr : Rd w.heap.size w pa ps
  scap : zs.length ≤ sc
  smax : sc ≤ maxLen
  slen : zs.length ≤ 17592186044416
  plen : ps.length ≤ 17592186044416
  pcap : ps.length ≤ pc
theorem RN.grow {w w' : World} {sa pa : Option Addr} {sc pc : Nat} {zs ps : List Int} (h : RN w sa sc pa pc zs ps) (g : Grew w w') : RN w' sa sc pa pc zs ps := ⟨h.sr.grow g, h.pr.grow g, h.scap, h.smax, h.slen, h.plen, h.pcap⟩
/-- The block of a network. -/
abbrev boxN (sa : Option Addr) (sc : Nat) (pa : Option Addr) (pc : Nat) (zs ps : List Int) (q : Int) : Obj := .cells #[.slice sa zs.length sc, .slice pa ps.length pc, .int .i64 q] 25
abbrev Box9 (w : World) (b : Nat) (sa : Option Addr) (sc : Nat) (pa : Option Addr) (pc : Nat) (zs ps : List Int) (q : Int) : Prop := Three w b 25 (.slice sa zs.length sc) (.slice pa ps.length pc) (.int .i64 q)

theorem field_lo9 (w : World) (x y : Int) : (Instr.field 110 (.agg #[.int .i64 x, .int .i64 y]) 0).run Try.prog w = .ok (.int .i64 x) w := by kernel_rfl
section
variable {sa pa : Option Addr} {sc pc : Nat} {zs ps : List Int} {q : Int} {w : World}
def fewN9 (zs ps : List Int) : Bool := fewV zs && decide (ps.length ≤ 500)
set_option maxHeartbeats 1000000 in
theorem few9_any (hsr : RdK .i64 w.heap.size w sa zs) (hpl : ps.length ≤ 9223372036854775807) :
    Calls Try.prog 9 #[.agg #[.slice sa zs.length sc, .slice pa ps.length pc, .int .i64 q]] w fun e w' => e = .returned (.bool (fewN9 zs ps)) ∧ Grew w w' := by
  have gA : Grew w (w.alloc (.cells #[.slice sa zs.length sc, .slice pa ps.length pc, .int .i64 q] 25)) := (Grew.refl w).alloc _
  have HT := Lib.hid (Three.new w 25 (.slice sa zs.length sc) (.slice pa ps.length pc) (.int .i64 q))
  have HR := Lib.hid (hsr.grow gA)
  have HG := Lib.hid gA
  clear hsr gA
  have c0 := HT.out.c0
  have hlt := HT.out.lt
  cases hf : fewV zs with
  | false =>
    have HF := Lib.hid hf
    have HV : Hid (fewN9 zs ps = false) := Lib.hid (by unfold fewN9; rw [hf]; rfl)
    clear hf
    go_enter Try.func9, Try.ntmps9
    go_wp2_with fail
    refine (rfew_n sa sc zs _ rfl HR.out).mono ?_
    rintro e w1 ⟨rfl, g1⟩
    rw [HF.out]
    have HG1 := Lib.hid (HG.out.trans g1)
    clear g1
    go_wp2
    go_ret
    exact ⟨by rw [HV.out]; rfl, HG1.out⟩
  | true =>
    have HF := Lib.hid hf
    have HV : Hid (fewN9 zs ps = decide (ps.length ≤ 500)) := Lib.hid (by unfold fewN9; rw [hf]; rfl)
    clear hf
    by_cases h5 : ps.length ≤ 500
    · go_enter Try.func9, Try.ntmps9
      go_wp2_with fail
      refine (rfew_n sa sc zs _ rfl HR.out).mono ?_
      rintro e w1 ⟨rfl, g1⟩
      rw [HF.out]
      have HG1 := Lib.hid (HG.out.trans g1)
      have ht := HT.out.grow g1
      have c1 := ht.c1
      have hlt1 := ht.lt
      clear g1 ht
      go_wp2
      go_ret
      exact ⟨by rw [HV.out, decide_eq_true h5]; simp; try omega, HG1.out⟩
    · go_enter Try.func9, Try.ntmps9
      go_wp2_with fail
      refine (rfew_n sa sc zs _ rfl HR.out).mono ?_
      rintro e w1 ⟨rfl, g1⟩
      rw [HF.out]
      have HG1 := Lib.hid (HG.out.trans g1)
      have ht := HT.out.grow g1
      have c1 := ht.c1
      have hlt1 := ht.lt
      clear g1 ht
      go_wp2
      go_ret
      exact ⟨by rw [HV.out, decide_eq_false h5]; simp; try omega, HG1.out⟩

theorem last9_any (hz : 1 ≤ zs.length) (hl : zs.length ≤ 17592186044416) (w : World) :
    Calls Try.prog 33 #[.agg #[.slice sa zs.length sc, .slice pa ps.length pc, .int .i64 q]] w fun e w' => e = .returned (.int .i64 (lnk zs : Nat)) ∧ Grew w w' := by
  have HG : Hid (Grew w (w.alloc (.cells #[.slice sa zs.length sc, .slice pa ps.length pc, .int .i64 q] 25))) := Lib.hid ((Grew.refl w).alloc _)
  have HL : Hid ((zs.length : Int) - 1 = (lnk zs : Nat)) := Lib.hid (by unfold lnk; omega)
  generalize lnk zs = m at *
  generalize zs.length = n at *
  go_enter Try.func33, Try.ntmps33
  go_wp2
  go_ret
  exact ⟨by rw [HL.out]; rfl, HG.out⟩

/-- Whether there may be such a network. -/
def rightN9 (zs ps : List Int) (q : Int) : Bool := decide (codeV zs = 0) && (decide (0 ≤ q) && (decide (q ≤ 62) && decide ((ps.length : Int) = cnt zs)))
theorem rightN9_yes {zs ps : List Int} {q : Int} (h : rightN9 zs ps q = true) (hf : Fit ps) : NetP zs ps q := by
  unfold rightN9 at h
  rw [Bool.and_eq_true, Bool.and_eq_true, Bool.and_eq_true, decide_eq_true_eq, decide_eq_true_eq, decide_eq_true_eq, decide_eq_true_eq] at h
  have hR := codeV_zero h.1
  exact ⟨hR, by have := nP_eq hR.2.2.1; omega, hf, h.2.1, h.2.2.1⟩
theorem rightN9_no {zs ps : List Int} {q : Int} (h : rightN9 zs ps q = false) : codeV zs ≠ 0 ∨ (codeV zs = 0 ∧ (q < 0 ∨ 62 < q)) ∨ (codeV zs = 0 ∧ 0 ≤ q ∧ q ≤ 62 ∧ ps.length ≠ nP zs) := by
  by_cases h1 : codeV zs = 0
  · by_cases h2 : 0 ≤ q
    · by_cases h3 : q ≤ 62
      · have hR := codeV_zero h1
        refine .inr (.inr ⟨h1, h2, h3, fun e => ?_⟩)
        unfold rightN9 at h
        rw [decide_eq_true h1, decide_eq_true h2, decide_eq_true h3, decide_eq_true (by have := nP_eq hR.2.2.1; omega)] at h
        cases h
      · exact .inr (.inl ⟨h1, .inr (by omega)⟩)
    · exact .inr (.inl ⟨h1, .inl (by omega)⟩)
  · exact .inl h1

set_option linter.unusedSimpArgs false in
set_option maxRecDepth 100000 in
set_option maxHeartbeats 4000000 in
theorem right9_any (h : RN w sa sc pa pc zs ps) :
    Calls Try.prog 13 #[.agg #[.slice sa zs.length sc, .slice pa ps.length pc, .int .i64 q]] w fun e w' => e = .returned (.bool (rightN9 zs ps q)) ∧ Grew w w' := by
  have gA : Grew w (w.alloc (.cells #[.slice sa zs.length sc, .slice pa ps.length pc, .int .i64 q] 25)) := (Grew.refl w).alloc _
  have HT := Lib.hid (Three.new w 25 (.slice sa zs.length sc) (.slice pa ps.length pc) (.int .i64 q))
  have HR := Lib.hid (h.sr.grow gA)
  have HG := Lib.hid gA
  have hpl := h.plen
  have hsl := h.slen
  have b0 := HT.out.c0
  have b1 := HT.out.c1
  have b2 := HT.out.c2
  have hlt := HT.out.lt
  clear h gA
  by_cases h1 : codeV zs = 0
  · have HRt := Lib.hid (codeV_zero h1)
    have HC0 := Lib.hid h1
    have hx1 : ((0 : Int) == 0) = true := by decide
    by_cases h2 : 0 ≤ q
    · by_cases h3 : q ≤ 62
      · by_cases h4 : (ps.length : Int) = cnt zs
        · have HV : Hid (rightN9 zs ps q = true) := Lib.hid (by unfold rightN9; rw [decide_eq_true h1, decide_eq_true h2, decide_eq_true h3, decide_eq_true h4]; rfl)
          have HC4 := Lib.hid h4.symm
          clear h4 h1
          go_enter Try.func13, Try.ntmps13
          go_wp2_with fail
          generalize w.alloc (.cells #[.slice sa zs.length sc, .slice pa ps.length pc, .int .i64 q] 25) = wv at *
          generalize w.heap.size = L at *
          refine wp_region_held_drew (S := (fun W' => Grew wv W' ∧ W'.cell? ⟨L, 0, none⟩ = some (.slice sa zs.length sc) ∧ W'.cell? ⟨L, 1, none⟩ = some (.slice pa ps.length pc) ∧ W'.cell? ⟨L, 2, none⟩ = some (.int .i64 q))) (by kernel_rfl) ⟨Grew.drew' (Grew.refl _), b0, b1, b2⟩ (fun hHeld => ?_)
          refine wpAnyH_take (i := 0) (oi := { dst := some 3, op := Go.Op.fieldAddr 25 (Go.Operand.tmp 1) 0, type := 0, pos := _, after := #[], guard := none }) (v := ?v1) rfl (by kernel_rfl) (by kernel_rfl) (by kernel_rfl) (fun _ _ _ h => h) (Or.inl ⟨by kernel_rfl, ?hy1⟩) (by assumption) ?_
          case hy1 => intro w hSw; (try dsimp only at hSw); first | (go_simp; done) | (go_simp; with_reducible rfl)
          (try simp only [Act.put, List.setIfInBounds_toArray, List.set_cons_zero, List.set_cons_succ])
          refine wpAnyH_take (i := 1) (oi := { dst := some 4, op := Go.Op.load 22 (Go.Operand.tmp 3), type := 22, pos := _, after := #[{ on := 0, ground := Go.Ground.data }], guard := none }) (v := ?v2) rfl (by kernel_rfl) (by kernel_rfl) (by kernel_rfl) (fun _ _ _ h => h) (Or.inl ⟨by kernel_rfl, ?hy2⟩) (by assumption) ?_
          case hy2 => intro w hSw; (try dsimp only at hSw); first | (go_simp; done) | (go_simp; with_reducible rfl)
          (try simp only [Act.put, List.setIfInBounds_toArray, List.set_cons_zero, List.set_cons_succ])
          refine wpAnyH_ready (rs := [2]) (by kernel_rfl) (by simp) ?_
          refine AllReadyH.cons (o := { dst := some 5, op := Go.Op.call { callee := Go.Callee.value (Go.Operand.func 26), args := #[Go.Operand.tmp 4], argTypes := #[22] }, type := 3, pos := _, after := #[{ on := 1, ground := Go.Ground.data }], guard := none }) rfl (fun K hK => ?_) AllReadyH.nil
          go_simp
          (go_at_call 26; refine (rcheck_n sa sc zs _ rfl hsl (HR.out.grow (Grew.drew' (Grew.refl wv)))).mono ?_; rintro e w5 ⟨rfl, g5⟩; rw [HC0.out]; have gd5 := (Grew.drew' (Grew.refl wv)).trans g5; have HG5 := Lib.hid (HG.out.trans gd5))
          (try go_wp2_with fail)
          refine hK.out _ _ ?hS4 (fun hHeld => ?_)
          case hS4 => (try dsimp only); (obtain ⟨s0, s1, s2, s3⟩ := hHeld; exact ⟨s0.trans g5, kcG (g5.by' none) s1 (fun e => by cases e), kcG (g5.by' none) s2 (fun e => by cases e), kcG (g5.by' none) s3 (fun e => by cases e)⟩)
          clear hK K
          (try simp only [Act.put, List.setIfInBounds_toArray, List.set_cons_zero, List.set_cons_succ])
          refine wpAnyH_take (i := 3) (oi := { dst := some 6, op := Go.Op.binOp Go.BinOp.eql 3 (Go.Operand.tmp 5) (Go.Operand.const (Go.Value.int Go.IntKind.i64 0)) 3, type := 4, pos := _, after := #[{ on := 2, ground := Go.Ground.data }], guard := none }) (v := ?v5) rfl (by kernel_rfl) (by kernel_rfl) (by kernel_rfl) (fun _ _ _ h => h) (Or.inl ⟨by kernel_rfl, ?hy5⟩) (by assumption) ?_
          case hy5 => intro w hSw; (try dsimp only at hSw); first | (go_simp; done) | (go_simp; with_reducible rfl)
          (try simp only [Act.put, List.setIfInBounds_toArray, List.set_cons_zero, List.set_cons_succ])
          refine wpAnyH_take (i := 4) (oi := { dst := some 7, op := Go.Op.move (Go.Operand.tmp 6), type := 4, pos := _, after := #[{ on := 3, ground := Go.Ground.data }, { on := 2, ground := Go.Ground.chain }], guard := none }) (v := ?v6) rfl (by kernel_rfl) (by kernel_rfl) (by kernel_rfl) (fun _ _ _ h => h) (Or.inl ⟨by kernel_rfl, ?hy6⟩) (by assumption) ?_
          case hy6 => intro w hSw; (try dsimp only at hSw); first | (go_simp; done) | (go_simp; with_reducible rfl)
          (try simp only [Act.put, List.setIfInBounds_toArray, List.set_cons_zero, List.set_cons_succ])
          refine wpAnyH_take (i := 5) (oi := { dst := some 8, op := Go.Op.fieldAddr 25 (Go.Operand.tmp 1) 2, type := 0, pos := _, after := #[{ on := 4, ground := Go.Ground.guard }], guard := some (4, true) }) (v := ?v7) rfl (by kernel_rfl) (by kernel_rfl) (by kernel_rfl) (fun _ _ _ h => h) (Or.inl ⟨by kernel_rfl, ?hy7⟩) (by assumption) ?_
          case hy7 => intro w hSw; (try dsimp only at hSw); first | (go_simp; done) | (go_simp; with_reducible rfl)
          (try simp only [Act.put, List.setIfInBounds_toArray, List.set_cons_zero, List.set_cons_succ])
          refine wpAnyH_take (i := 6) (oi := { dst := some 9, op := Go.Op.load 3 (Go.Operand.tmp 8), type := 3, pos := _, after := #[{ on := 5, ground := Go.Ground.data }, { on := 4, ground := Go.Ground.guard }], guard := some (4, true) }) (v := ?v8) rfl (by kernel_rfl) (by kernel_rfl) (by kernel_rfl) (fun _ _ _ h => h) (Or.inl ⟨by kernel_rfl, ?hy8⟩) (by assumption) ?_
          case hy8 => intro w hSw; (try dsimp only at hSw); first | (go_simp; done) | (go_simp; with_reducible rfl)
          (try simp only [Act.put, List.setIfInBounds_toArray, List.set_cons_zero, List.set_cons_succ])
          refine wpAnyH_take (i := 7) (oi := { dst := some 10, op := Go.Op.binOp Go.BinOp.geq 3 (Go.Operand.tmp 9) (Go.Operand.const (Go.Value.int Go.IntKind.i64 0)) 3, type := 4, pos := _, after := #[{ on := 6, ground := Go.Ground.data }, { on := 4, ground := Go.Ground.guard }], guard := some (4, true) }) (v := ?v9) rfl (by kernel_rfl) (by kernel_rfl) (by kernel_rfl) (fun _ _ _ h => h) (Or.inl ⟨by kernel_rfl, ?hy9⟩) (by assumption) ?_
          case hy9 => intro w hSw; (try dsimp only at hSw); first | (go_simp; done) | (go_simp; with_reducible rfl)
          (try simp only [Act.put, List.setIfInBounds_toArray, List.set_cons_zero, List.set_cons_succ])
          refine wpAnyH_take (i := 8) (oi := { dst := some 11, op := Go.Op.pick (Go.Operand.tmp 7) (Go.Operand.tmp 10) (Go.Operand.const (Go.Value.bool false)), type := 4, pos := _, after := #[{ on := 4, ground := Go.Ground.data }, { on := 7, ground := Go.Ground.data }], guard := none }) (v := ?v10) rfl (by kernel_rfl) (by kernel_rfl) (by kernel_rfl) (fun _ _ _ h => h) (Or.inl ⟨by kernel_rfl, ?hy10⟩) (by assumption) ?_
          case hy10 => intro w hSw; (try dsimp only at hSw); first | (go_simp; done) | (go_simp; with_reducible rfl)
          (try simp only [Act.put, List.setIfInBounds_toArray, List.set_cons_zero, List.set_cons_succ])
          refine wpAnyH_take (i := 9) (oi := { dst := some 12, op := Go.Op.move (Go.Operand.tmp 11), type := 4, pos := _, after := #[{ on := 8, ground := Go.Ground.data }, { on := 4, ground := Go.Ground.chain }], guard := none }) (v := ?v11) rfl (by kernel_rfl) (by kernel_rfl) (by kernel_rfl) (fun _ _ _ h => h) (Or.inl ⟨by kernel_rfl, ?hy11⟩) (by assumption) ?_
          case hy11 => intro w hSw; (try dsimp only at hSw); first | (go_simp; done) | (go_simp; with_reducible rfl)
          (try simp only [Act.put, List.setIfInBounds_toArray, List.set_cons_zero, List.set_cons_succ])
          refine wpAnyH_take (i := 10) (oi := { dst := some 13, op := Go.Op.fieldAddr 25 (Go.Operand.tmp 1) 2, type := 0, pos := _, after := #[{ on := 9, ground := Go.Ground.guard }], guard := some (9, true) }) (v := ?v12) rfl (by kernel_rfl) (by kernel_rfl) (by kernel_rfl) (fun _ _ _ h => h) (Or.inl ⟨by kernel_rfl, ?hy12⟩) (by assumption) ?_
          case hy12 => intro w hSw; (try dsimp only at hSw); first | (go_simp; done) | (go_simp; with_reducible rfl)
          (try simp only [Act.put, List.setIfInBounds_toArray, List.set_cons_zero, List.set_cons_succ])
          refine wpAnyH_take (i := 11) (oi := { dst := some 14, op := Go.Op.load 3 (Go.Operand.tmp 13), type := 3, pos := _, after := #[{ on := 10, ground := Go.Ground.data }, { on := 9, ground := Go.Ground.guard }], guard := some (9, true) }) (v := ?v13) rfl (by kernel_rfl) (by kernel_rfl) (by kernel_rfl) (fun _ _ _ h => h) (Or.inl ⟨by kernel_rfl, ?hy13⟩) (by assumption) ?_
          case hy13 => intro w hSw; (try dsimp only at hSw); first | (go_simp; done) | (go_simp; with_reducible rfl)
          (try simp only [Act.put, List.setIfInBounds_toArray, List.set_cons_zero, List.set_cons_succ])
          refine wpAnyH_take (i := 12) (oi := { dst := some 15, op := Go.Op.binOp Go.BinOp.leq 3 (Go.Operand.tmp 14) (Go.Operand.const (Go.Value.int Go.IntKind.i64 62)) 3, type := 4, pos := _, after := #[{ on := 11, ground := Go.Ground.data }, { on := 9, ground := Go.Ground.guard }], guard := some (9, true) }) (v := ?v14) rfl (by kernel_rfl) (by kernel_rfl) (by kernel_rfl) (fun _ _ _ h => h) (Or.inl ⟨by kernel_rfl, ?hy14⟩) (by assumption) ?_
          case hy14 => intro w hSw; (try dsimp only at hSw); first | (go_simp; done) | (go_simp; with_reducible rfl)
          (try simp only [Act.put, List.setIfInBounds_toArray, List.set_cons_zero, List.set_cons_succ])
          refine wpAnyH_take (i := 13) (oi := { dst := some 16, op := Go.Op.pick (Go.Operand.tmp 12) (Go.Operand.tmp 15) (Go.Operand.const (Go.Value.bool false)), type := 4, pos := _, after := #[{ on := 9, ground := Go.Ground.data }, { on := 12, ground := Go.Ground.data }], guard := none }) (v := ?v15) rfl (by kernel_rfl) (by kernel_rfl) (by kernel_rfl) (fun _ _ _ h => h) (Or.inl ⟨by kernel_rfl, ?hy15⟩) (by assumption) ?_
          case hy15 => intro w hSw; (try dsimp only at hSw); first | (go_simp; done) | (go_simp; with_reducible rfl)
          (try simp only [Act.put, List.setIfInBounds_toArray, List.set_cons_zero, List.set_cons_succ])
          refine wpAnyH_take (i := 14) (oi := { dst := some 17, op := Go.Op.move (Go.Operand.tmp 16), type := 4, pos := _, after := #[{ on := 13, ground := Go.Ground.data }, { on := 9, ground := Go.Ground.chain }], guard := none }) (v := ?v16) rfl (by kernel_rfl) (by kernel_rfl) (by kernel_rfl) (fun _ _ _ h => h) (Or.inl ⟨by kernel_rfl, ?hy16⟩) (by assumption) ?_
          case hy16 => intro w hSw; (try dsimp only at hSw); first | (go_simp; done) | (go_simp; with_reducible rfl)
          (try simp only [Act.put, List.setIfInBounds_toArray, List.set_cons_zero, List.set_cons_succ])
          refine wpAnyH_take (i := 15) (oi := { dst := some 18, op := Go.Op.fieldAddr 25 (Go.Operand.tmp 1) 1, type := 0, pos := _, after := #[{ on := 14, ground := Go.Ground.guard }], guard := some (14, true) }) (v := ?v17) rfl (by kernel_rfl) (by kernel_rfl) (by kernel_rfl) (fun _ _ _ h => h) (Or.inl ⟨by kernel_rfl, ?hy17⟩) (by assumption) ?_
          case hy17 => intro w hSw; (try dsimp only at hSw); first | (go_simp; done) | (go_simp; with_reducible rfl)
          (try simp only [Act.put, List.setIfInBounds_toArray, List.set_cons_zero, List.set_cons_succ])
          refine wpAnyH_take (i := 16) (oi := { dst := some 19, op := Go.Op.load 23 (Go.Operand.tmp 18), type := 23, pos := _, after := #[{ on := 15, ground := Go.Ground.data }, { on := 14, ground := Go.Ground.guard }], guard := some (14, true) }) (v := ?v18) rfl (by kernel_rfl) (by kernel_rfl) (by kernel_rfl) (fun _ _ _ h => h) (Or.inl ⟨by kernel_rfl, ?hy18⟩) (by assumption) ?_
          case hy18 => intro w hSw; (try dsimp only at hSw); first | (go_simp; done) | (go_simp; with_reducible rfl)
          (try simp only [Act.put, List.setIfInBounds_toArray, List.set_cons_zero, List.set_cons_succ])
          refine wpAnyH_take (i := 17) (oi := { dst := some 20, op := Go.Op.call { callee := Go.Callee.builtin Go.Builtin.len, args := #[Go.Operand.tmp 19], argTypes := #[23] }, type := 3, pos := _, after := #[{ on := 16, ground := Go.Ground.data }, { on := 14, ground := Go.Ground.guard }], guard := some (14, true) }) (v := ?v19) rfl (by kernel_rfl) (by kernel_rfl) (by kernel_rfl) (fun _ _ _ h => h) (Or.inl ⟨by kernel_rfl, ?hy19⟩) (by assumption) ?_
          case hy19 => intro w hSw; (try dsimp only at hSw); first | (go_simp; done) | (go_simp; with_reducible rfl)
          (try simp only [Act.put, List.setIfInBounds_toArray, List.set_cons_zero, List.set_cons_succ])
          refine wpAnyH_take (i := 18) (oi := { dst := some 21, op := Go.Op.fieldAddr 25 (Go.Operand.tmp 1) 0, type := 0, pos := _, after := #[{ on := 14, ground := Go.Ground.guard }], guard := some (14, true) }) (v := ?v20) rfl (by kernel_rfl) (by kernel_rfl) (by kernel_rfl) (fun _ _ _ h => h) (Or.inl ⟨by kernel_rfl, ?hy20⟩) (by assumption) ?_
          case hy20 => intro w hSw; (try dsimp only at hSw); first | (go_simp; done) | (go_simp; with_reducible rfl)
          (try simp only [Act.put, List.setIfInBounds_toArray, List.set_cons_zero, List.set_cons_succ])
          refine wpAnyH_take (i := 19) (oi := { dst := some 22, op := Go.Op.load 22 (Go.Operand.tmp 21), type := 22, pos := _, after := #[{ on := 18, ground := Go.Ground.data }, { on := 14, ground := Go.Ground.guard }], guard := some (14, true) }) (v := ?v21) rfl (by kernel_rfl) (by kernel_rfl) (by kernel_rfl) (fun _ _ _ h => h) (Or.inl ⟨by kernel_rfl, ?hy21⟩) (by assumption) ?_
          case hy21 => intro w hSw; (try dsimp only at hSw); first | (go_simp; done) | (go_simp; with_reducible rfl)
          (try simp only [Act.put, List.setIfInBounds_toArray, List.set_cons_zero, List.set_cons_succ])
          refine wpAnyH_ready (rs := [20]) (by kernel_rfl) (by simp) ?_
          refine AllReadyH.cons (o := { dst := some 23, op := Go.Op.call { callee := Go.Callee.value (Go.Operand.func 27), args := #[Go.Operand.tmp 22], argTypes := #[22] }, type := 3, pos := _, after := #[{ on := 19, ground := Go.Ground.data }, { on := 14, ground := Go.Ground.chain }, { on := 14, ground := Go.Ground.guard }], guard := some (14, true) }) rfl (fun K hK => ?_) AllReadyH.nil
          go_simp
          (go_at_call 27; refine (rcount_n sa sc zs _ rfl HRt.out.2.1 HRt.out.2.2.1 (HR.out.grow gd5)).mono ?_; rintro e w6 ⟨rfl, g6⟩; rw [HC4.out]; have HG6 := Lib.hid (HG5.out.trans g6))
          (try go_wp2_with fail)
          refine hK.out _ _ ?hS23 (fun hHeld => ?_)
          case hS23 => (try dsimp only); (obtain ⟨s0, s1, s2, s3⟩ := hHeld; exact ⟨s0.trans g6, kcG (g6.by' none) s1 (fun e => by cases e), kcG (g6.by' none) s2 (fun e => by cases e), kcG (g6.by' none) s3 (fun e => by cases e)⟩)
          clear hK K
          (try simp only [Act.put, List.setIfInBounds_toArray, List.set_cons_zero, List.set_cons_succ])
          refine wpAnyH_take (i := 21) (oi := { dst := some 24, op := Go.Op.binOp Go.BinOp.eql 3 (Go.Operand.tmp 20) (Go.Operand.tmp 23) 3, type := 4, pos := _, after := #[{ on := 17, ground := Go.Ground.data }, { on := 20, ground := Go.Ground.data }, { on := 14, ground := Go.Ground.guard }], guard := some (14, true) }) (v := ?v24) rfl (by kernel_rfl) (by kernel_rfl) (by kernel_rfl) (fun _ _ _ h => h) (Or.inl ⟨by kernel_rfl, ?hy24⟩) (by assumption) ?_
          case hy24 => intro w hSw; (try dsimp only at hSw); first | (go_simp; done) | (go_simp; with_reducible rfl)
          (try simp only [Act.put, List.setIfInBounds_toArray, List.set_cons_zero, List.set_cons_succ])
          refine wpAnyH_take (i := 22) (oi := { dst := some 25, op := Go.Op.pick (Go.Operand.tmp 17) (Go.Operand.tmp 24) (Go.Operand.const (Go.Value.bool false)), type := 4, pos := _, after := #[{ on := 14, ground := Go.Ground.data }, { on := 21, ground := Go.Ground.data }], guard := none }) (v := ?v25) rfl (by kernel_rfl) (by kernel_rfl) (by kernel_rfl) (fun _ _ _ h => h) (Or.inl ⟨by kernel_rfl, ?hy25⟩) (by assumption) ?_
          case hy25 => intro w hSw; (try dsimp only at hSw); first | (go_simp; done) | (go_simp; with_reducible rfl)
          (try simp only [Act.put, List.setIfInBounds_toArray, List.set_cons_zero, List.set_cons_succ])
          refine wpAnyH_take (i := 23) (oi := { dst := some 2, op := Go.Op.assign (Go.Operand.tmp 25), type := 4, pos := _, after := #[{ on := 22, ground := Go.Ground.data }, { on := 20, ground := Go.Ground.chain }, { on := 0, ground := Go.Ground.phase }, { on := 1, ground := Go.Ground.phase }, { on := 2, ground := Go.Ground.phase }, { on := 3, ground := Go.Ground.phase }, { on := 4, ground := Go.Ground.phase }, { on := 5, ground := Go.Ground.phase }, { on := 6, ground := Go.Ground.phase }, { on := 7, ground := Go.Ground.phase }, { on := 8, ground := Go.Ground.phase }, { on := 9, ground := Go.Ground.phase }, { on := 10, ground := Go.Ground.phase }, { on := 11, ground := Go.Ground.phase }, { on := 12, ground := Go.Ground.phase }, { on := 13, ground := Go.Ground.phase }, { on := 14, ground := Go.Ground.phase }, { on := 15, ground := Go.Ground.phase }, { on := 16, ground := Go.Ground.phase }, { on := 17, ground := Go.Ground.phase }, { on := 18, ground := Go.Ground.phase }, { on := 19, ground := Go.Ground.phase }, { on := 20, ground := Go.Ground.phase }, { on := 21, ground := Go.Ground.phase }, { on := 22, ground := Go.Ground.phase }], guard := none }) (v := ?v26) rfl (by kernel_rfl) (by kernel_rfl) (by kernel_rfl) (fun _ _ _ h => h) (Or.inl ⟨by kernel_rfl, ?hy26⟩) (by assumption) ?_
          case hy26 => intro w hSw; (try dsimp only at hSw); first | (go_simp; done) | (go_simp; with_reducible rfl)
          (try simp only [Act.put, List.setIfInBounds_toArray, List.set_cons_zero, List.set_cons_succ])
          refine wpAnyH_done (by kernel_rfl) ?_ _
          go_wp2
          go_ret
          exact ⟨by rw [HV.out]; rfl, HG6.out⟩
        · have HV : Hid (rightN9 zs ps q = false) := Lib.hid (by unfold rightN9; rw [decide_eq_true h1, decide_eq_true h2, decide_eq_true h3, decide_eq_false h4]; rfl)
          obtain ⟨cn, hcn⟩ : ∃ cn, cnt zs = cn := ⟨_, rfl⟩
          have HC4 := Lib.hid hcn
          rw [hcn] at h4
          have h5 : ((ps.length : Int) == cn) = false := by rw [beq_eq_false_iff_ne]; exact h4
          have h6 : decide ((ps.length : Int) = cn) = false := decide_eq_false h4
          clear hcn h1
          go_enter Try.func13, Try.ntmps13
          go_wp2_with fail
          generalize w.alloc (.cells #[.slice sa zs.length sc, .slice pa ps.length pc, .int .i64 q] 25) = wv at *
          generalize w.heap.size = L at *
          refine wp_region_held_drew (S := (fun W' => Grew wv W' ∧ W'.cell? ⟨L, 0, none⟩ = some (.slice sa zs.length sc) ∧ W'.cell? ⟨L, 1, none⟩ = some (.slice pa ps.length pc) ∧ W'.cell? ⟨L, 2, none⟩ = some (.int .i64 q))) (by kernel_rfl) ⟨Grew.drew' (Grew.refl _), b0, b1, b2⟩ (fun hHeld => ?_)
          refine wpAnyH_take (i := 0) (oi := { dst := some 3, op := Go.Op.fieldAddr 25 (Go.Operand.tmp 1) 0, type := 0, pos := _, after := #[], guard := none }) (v := ?v27) rfl (by kernel_rfl) (by kernel_rfl) (by kernel_rfl) (fun _ _ _ h => h) (Or.inl ⟨by kernel_rfl, ?hy27⟩) (by assumption) ?_
          case hy27 => intro w hSw; (try dsimp only at hSw); first | (go_simp; done) | (go_simp; with_reducible rfl)
          (try simp only [Act.put, List.setIfInBounds_toArray, List.set_cons_zero, List.set_cons_succ])
          refine wpAnyH_take (i := 1) (oi := { dst := some 4, op := Go.Op.load 22 (Go.Operand.tmp 3), type := 22, pos := _, after := #[{ on := 0, ground := Go.Ground.data }], guard := none }) (v := ?v28) rfl (by kernel_rfl) (by kernel_rfl) (by kernel_rfl) (fun _ _ _ h => h) (Or.inl ⟨by kernel_rfl, ?hy28⟩) (by assumption) ?_
          case hy28 => intro w hSw; (try dsimp only at hSw); first | (go_simp; done) | (go_simp; with_reducible rfl)
          (try simp only [Act.put, List.setIfInBounds_toArray, List.set_cons_zero, List.set_cons_succ])
          refine wpAnyH_ready (rs := [2]) (by kernel_rfl) (by simp) ?_
          refine AllReadyH.cons (o := { dst := some 5, op := Go.Op.call { callee := Go.Callee.value (Go.Operand.func 26), args := #[Go.Operand.tmp 4], argTypes := #[22] }, type := 3, pos := _, after := #[{ on := 1, ground := Go.Ground.data }], guard := none }) rfl (fun K hK => ?_) AllReadyH.nil
          go_simp
          (go_at_call 26; refine (rcheck_n sa sc zs _ rfl hsl (HR.out.grow (Grew.drew' (Grew.refl wv)))).mono ?_; rintro e w5 ⟨rfl, g5⟩; rw [HC0.out]; have gd5 := (Grew.drew' (Grew.refl wv)).trans g5; have HG5 := Lib.hid (HG.out.trans gd5))
          (try go_wp2_with fail)
          refine hK.out _ _ ?hS30 (fun hHeld => ?_)
          case hS30 => (try dsimp only); (obtain ⟨s0, s1, s2, s3⟩ := hHeld; exact ⟨s0.trans g5, kcG (g5.by' none) s1 (fun e => by cases e), kcG (g5.by' none) s2 (fun e => by cases e), kcG (g5.by' none) s3 (fun e => by cases e)⟩)
          clear hK K
          (try simp only [Act.put, List.setIfInBounds_toArray, List.set_cons_zero, List.set_cons_succ])
          refine wpAnyH_take (i := 3) (oi := { dst := some 6, op := Go.Op.binOp Go.BinOp.eql 3 (Go.Operand.tmp 5) (Go.Operand.const (Go.Value.int Go.IntKind.i64 0)) 3, type := 4, pos := _, after := #[{ on := 2, ground := Go.Ground.data }], guard := none }) (v := ?v31) rfl (by kernel_rfl) (by kernel_rfl) (by kernel_rfl) (fun _ _ _ h => h) (Or.inl ⟨by kernel_rfl, ?hy31⟩) (by assumption) ?_
          case hy31 => intro w hSw; (try dsimp only at hSw); first | (go_simp; done) | (go_simp; with_reducible rfl)
          (try simp only [Act.put, List.setIfInBounds_toArray, List.set_cons_zero, List.set_cons_succ])
          refine wpAnyH_take (i := 4) (oi := { dst := some 7, op := Go.Op.move (Go.Operand.tmp 6), type := 4, pos := _, after := #[{ on := 3, ground := Go.Ground.data }, { on := 2, ground := Go.Ground.chain }], guard := none }) (v := ?v32) rfl (by kernel_rfl) (by kernel_rfl) (by kernel_rfl) (fun _ _ _ h => h) (Or.inl ⟨by kernel_rfl, ?hy32⟩) (by assumption) ?_
          case hy32 => intro w hSw; (try dsimp only at hSw); first | (go_simp; done) | (go_simp; with_reducible rfl)
          (try simp only [Act.put, List.setIfInBounds_toArray, List.set_cons_zero, List.set_cons_succ])
          refine wpAnyH_take (i := 5) (oi := { dst := some 8, op := Go.Op.fieldAddr 25 (Go.Operand.tmp 1) 2, type := 0, pos := _, after := #[{ on := 4, ground := Go.Ground.guard }], guard := some (4, true) }) (v := ?v33) rfl (by kernel_rfl) (by kernel_rfl) (by kernel_rfl) (fun _ _ _ h => h) (Or.inl ⟨by kernel_rfl, ?hy33⟩) (by assumption) ?_
          case hy33 => intro w hSw; (try dsimp only at hSw); first | (go_simp; done) | (go_simp; with_reducible rfl)
          (try simp only [Act.put, List.setIfInBounds_toArray, List.set_cons_zero, List.set_cons_succ])
          refine wpAnyH_take (i := 6) (oi := { dst := some 9, op := Go.Op.load 3 (Go.Operand.tmp 8), type := 3, pos := _, after := #[{ on := 5, ground := Go.Ground.data }, { on := 4, ground := Go.Ground.guard }], guard := some (4, true) }) (v := ?v34) rfl (by kernel_rfl) (by kernel_rfl) (by kernel_rfl) (fun _ _ _ h => h) (Or.inl ⟨by kernel_rfl, ?hy34⟩) (by assumption) ?_
          case hy34 => intro w hSw; (try dsimp only at hSw); first | (go_simp; done) | (go_simp; with_reducible rfl)
          (try simp only [Act.put, List.setIfInBounds_toArray, List.set_cons_zero, List.set_cons_succ])
          refine wpAnyH_take (i := 7) (oi := { dst := some 10, op := Go.Op.binOp Go.BinOp.geq 3 (Go.Operand.tmp 9) (Go.Operand.const (Go.Value.int Go.IntKind.i64 0)) 3, type := 4, pos := _, after := #[{ on := 6, ground := Go.Ground.data }, { on := 4, ground := Go.Ground.guard }], guard := some (4, true) }) (v := ?v35) rfl (by kernel_rfl) (by kernel_rfl) (by kernel_rfl) (fun _ _ _ h => h) (Or.inl ⟨by kernel_rfl, ?hy35⟩) (by assumption) ?_
          case hy35 => intro w hSw; (try dsimp only at hSw); first | (go_simp; done) | (go_simp; with_reducible rfl)
          (try simp only [Act.put, List.setIfInBounds_toArray, List.set_cons_zero, List.set_cons_succ])
          refine wpAnyH_take (i := 8) (oi := { dst := some 11, op := Go.Op.pick (Go.Operand.tmp 7) (Go.Operand.tmp 10) (Go.Operand.const (Go.Value.bool false)), type := 4, pos := _, after := #[{ on := 4, ground := Go.Ground.data }, { on := 7, ground := Go.Ground.data }], guard := none }) (v := ?v36) rfl (by kernel_rfl) (by kernel_rfl) (by kernel_rfl) (fun _ _ _ h => h) (Or.inl ⟨by kernel_rfl, ?hy36⟩) (by assumption) ?_
          case hy36 => intro w hSw; (try dsimp only at hSw); first | (go_simp; done) | (go_simp; with_reducible rfl)
          (try simp only [Act.put, List.setIfInBounds_toArray, List.set_cons_zero, List.set_cons_succ])
          refine wpAnyH_take (i := 9) (oi := { dst := some 12, op := Go.Op.move (Go.Operand.tmp 11), type := 4, pos := _, after := #[{ on := 8, ground := Go.Ground.data }, { on := 4, ground := Go.Ground.chain }], guard := none }) (v := ?v37) rfl (by kernel_rfl) (by kernel_rfl) (by kernel_rfl) (fun _ _ _ h => h) (Or.inl ⟨by kernel_rfl, ?hy37⟩) (by assumption) ?_
          case hy37 => intro w hSw; (try dsimp only at hSw); first | (go_simp; done) | (go_simp; with_reducible rfl)
          (try simp only [Act.put, List.setIfInBounds_toArray, List.set_cons_zero, List.set_cons_succ])
          refine wpAnyH_take (i := 10) (oi := { dst := some 13, op := Go.Op.fieldAddr 25 (Go.Operand.tmp 1) 2, type := 0, pos := _, after := #[{ on := 9, ground := Go.Ground.guard }], guard := some (9, true) }) (v := ?v38) rfl (by kernel_rfl) (by kernel_rfl) (by kernel_rfl) (fun _ _ _ h => h) (Or.inl ⟨by kernel_rfl, ?hy38⟩) (by assumption) ?_
          case hy38 => intro w hSw; (try dsimp only at hSw); first | (go_simp; done) | (go_simp; with_reducible rfl)
          (try simp only [Act.put, List.setIfInBounds_toArray, List.set_cons_zero, List.set_cons_succ])
          refine wpAnyH_take (i := 11) (oi := { dst := some 14, op := Go.Op.load 3 (Go.Operand.tmp 13), type := 3, pos := _, after := #[{ on := 10, ground := Go.Ground.data }, { on := 9, ground := Go.Ground.guard }], guard := some (9, true) }) (v := ?v39) rfl (by kernel_rfl) (by kernel_rfl) (by kernel_rfl) (fun _ _ _ h => h) (Or.inl ⟨by kernel_rfl, ?hy39⟩) (by assumption) ?_
          case hy39 => intro w hSw; (try dsimp only at hSw); first | (go_simp; done) | (go_simp; with_reducible rfl)
          (try simp only [Act.put, List.setIfInBounds_toArray, List.set_cons_zero, List.set_cons_succ])
          refine wpAnyH_take (i := 12) (oi := { dst := some 15, op := Go.Op.binOp Go.BinOp.leq 3 (Go.Operand.tmp 14) (Go.Operand.const (Go.Value.int Go.IntKind.i64 62)) 3, type := 4, pos := _, after := #[{ on := 11, ground := Go.Ground.data }, { on := 9, ground := Go.Ground.guard }], guard := some (9, true) }) (v := ?v40) rfl (by kernel_rfl) (by kernel_rfl) (by kernel_rfl) (fun _ _ _ h => h) (Or.inl ⟨by kernel_rfl, ?hy40⟩) (by assumption) ?_
          case hy40 => intro w hSw; (try dsimp only at hSw); first | (go_simp; done) | (go_simp; with_reducible rfl)
          (try simp only [Act.put, List.setIfInBounds_toArray, List.set_cons_zero, List.set_cons_succ])
          refine wpAnyH_take (i := 13) (oi := { dst := some 16, op := Go.Op.pick (Go.Operand.tmp 12) (Go.Operand.tmp 15) (Go.Operand.const (Go.Value.bool false)), type := 4, pos := _, after := #[{ on := 9, ground := Go.Ground.data }, { on := 12, ground := Go.Ground.data }], guard := none }) (v := ?v41) rfl (by kernel_rfl) (by kernel_rfl) (by kernel_rfl) (fun _ _ _ h => h) (Or.inl ⟨by kernel_rfl, ?hy41⟩) (by assumption) ?_
          case hy41 => intro w hSw; (try dsimp only at hSw); first | (go_simp; done) | (go_simp; with_reducible rfl)
          (try simp only [Act.put, List.setIfInBounds_toArray, List.set_cons_zero, List.set_cons_succ])
          refine wpAnyH_take (i := 14) (oi := { dst := some 17, op := Go.Op.move (Go.Operand.tmp 16), type := 4, pos := _, after := #[{ on := 13, ground := Go.Ground.data }, { on := 9, ground := Go.Ground.chain }], guard := none }) (v := ?v42) rfl (by kernel_rfl) (by kernel_rfl) (by kernel_rfl) (fun _ _ _ h => h) (Or.inl ⟨by kernel_rfl, ?hy42⟩) (by assumption) ?_
          case hy42 => intro w hSw; (try dsimp only at hSw); first | (go_simp; done) | (go_simp; with_reducible rfl)
          (try simp only [Act.put, List.setIfInBounds_toArray, List.set_cons_zero, List.set_cons_succ])
          refine wpAnyH_take (i := 15) (oi := { dst := some 18, op := Go.Op.fieldAddr 25 (Go.Operand.tmp 1) 1, type := 0, pos := _, after := #[{ on := 14, ground := Go.Ground.guard }], guard := some (14, true) }) (v := ?v43) rfl (by kernel_rfl) (by kernel_rfl) (by kernel_rfl) (fun _ _ _ h => h) (Or.inl ⟨by kernel_rfl, ?hy43⟩) (by assumption) ?_
          case hy43 => intro w hSw; (try dsimp only at hSw); first | (go_simp; done) | (go_simp; with_reducible rfl)
          (try simp only [Act.put, List.setIfInBounds_toArray, List.set_cons_zero, List.set_cons_succ])
          refine wpAnyH_take (i := 16) (oi := { dst := some 19, op := Go.Op.load 23 (Go.Operand.tmp 18), type := 23, pos := _, after := #[{ on := 15, ground := Go.Ground.data }, { on := 14, ground := Go.Ground.guard }], guard := some (14, true) }) (v := ?v44) rfl (by kernel_rfl) (by kernel_rfl) (by kernel_rfl) (fun _ _ _ h => h) (Or.inl ⟨by kernel_rfl, ?hy44⟩) (by assumption) ?_
          case hy44 => intro w hSw; (try dsimp only at hSw); first | (go_simp; done) | (go_simp; with_reducible rfl)
          (try simp only [Act.put, List.setIfInBounds_toArray, List.set_cons_zero, List.set_cons_succ])
          refine wpAnyH_take (i := 17) (oi := { dst := some 20, op := Go.Op.call { callee := Go.Callee.builtin Go.Builtin.len, args := #[Go.Operand.tmp 19], argTypes := #[23] }, type := 3, pos := _, after := #[{ on := 16, ground := Go.Ground.data }, { on := 14, ground := Go.Ground.guard }], guard := some (14, true) }) (v := ?v45) rfl (by kernel_rfl) (by kernel_rfl) (by kernel_rfl) (fun _ _ _ h => h) (Or.inl ⟨by kernel_rfl, ?hy45⟩) (by assumption) ?_
          case hy45 => intro w hSw; (try dsimp only at hSw); first | (go_simp; done) | (go_simp; with_reducible rfl)
          (try simp only [Act.put, List.setIfInBounds_toArray, List.set_cons_zero, List.set_cons_succ])
          refine wpAnyH_take (i := 18) (oi := { dst := some 21, op := Go.Op.fieldAddr 25 (Go.Operand.tmp 1) 0, type := 0, pos := _, after := #[{ on := 14, ground := Go.Ground.guard }], guard := some (14, true) }) (v := ?v46) rfl (by kernel_rfl) (by kernel_rfl) (by kernel_rfl) (fun _ _ _ h => h) (Or.inl ⟨by kernel_rfl, ?hy46⟩) (by assumption) ?_
          case hy46 => intro w hSw; (try dsimp only at hSw); first | (go_simp; done) | (go_simp; with_reducible rfl)
          (try simp only [Act.put, List.setIfInBounds_toArray, List.set_cons_zero, List.set_cons_succ])
          refine wpAnyH_take (i := 19) (oi := { dst := some 22, op := Go.Op.load 22 (Go.Operand.tmp 21), type := 22, pos := _, after := #[{ on := 18, ground := Go.Ground.data }, { on := 14, ground := Go.Ground.guard }], guard := some (14, true) }) (v := ?v47) rfl (by kernel_rfl) (by kernel_rfl) (by kernel_rfl) (fun _ _ _ h => h) (Or.inl ⟨by kernel_rfl, ?hy47⟩) (by assumption) ?_
          case hy47 => intro w hSw; (try dsimp only at hSw); first | (go_simp; done) | (go_simp; with_reducible rfl)
          (try simp only [Act.put, List.setIfInBounds_toArray, List.set_cons_zero, List.set_cons_succ])
          refine wpAnyH_ready (rs := [20]) (by kernel_rfl) (by simp) ?_
          refine AllReadyH.cons (o := { dst := some 23, op := Go.Op.call { callee := Go.Callee.value (Go.Operand.func 27), args := #[Go.Operand.tmp 22], argTypes := #[22] }, type := 3, pos := _, after := #[{ on := 19, ground := Go.Ground.data }, { on := 14, ground := Go.Ground.chain }, { on := 14, ground := Go.Ground.guard }], guard := some (14, true) }) rfl (fun K hK => ?_) AllReadyH.nil
          go_simp
          (go_at_call 27; refine (rcount_n sa sc zs _ rfl HRt.out.2.1 HRt.out.2.2.1 (HR.out.grow gd5)).mono ?_; rintro e w6 ⟨rfl, g6⟩; rw [HC4.out]; have HG6 := Lib.hid (HG5.out.trans g6))
          (try go_wp2_with fail)
          refine hK.out _ _ ?hS49 (fun hHeld => ?_)
          case hS49 => (try dsimp only); (obtain ⟨s0, s1, s2, s3⟩ := hHeld; exact ⟨s0.trans g6, kcG (g6.by' none) s1 (fun e => by cases e), kcG (g6.by' none) s2 (fun e => by cases e), kcG (g6.by' none) s3 (fun e => by cases e)⟩)
          clear hK K
          (try simp only [Act.put, List.setIfInBounds_toArray, List.set_cons_zero, List.set_cons_succ])
          refine wpAnyH_take (i := 21) (oi := { dst := some 24, op := Go.Op.binOp Go.BinOp.eql 3 (Go.Operand.tmp 20) (Go.Operand.tmp 23) 3, type := 4, pos := _, after := #[{ on := 17, ground := Go.Ground.data }, { on := 20, ground := Go.Ground.data }, { on := 14, ground := Go.Ground.guard }], guard := some (14, true) }) (v := ?v50) rfl (by kernel_rfl) (by kernel_rfl) (by kernel_rfl) (fun _ _ _ h => h) (Or.inl ⟨by kernel_rfl, ?hy50⟩) (by assumption) ?_
          case hy50 => intro w hSw; (try dsimp only at hSw); first | (go_simp; done) | (go_simp; with_reducible rfl)
          (try simp only [Act.put, List.setIfInBounds_toArray, List.set_cons_zero, List.set_cons_succ])
          refine wpAnyH_take (i := 22) (oi := { dst := some 25, op := Go.Op.pick (Go.Operand.tmp 17) (Go.Operand.tmp 24) (Go.Operand.const (Go.Value.bool false)), type := 4, pos := _, after := #[{ on := 14, ground := Go.Ground.data }, { on := 21, ground := Go.Ground.data }], guard := none }) (v := ?v51) rfl (by kernel_rfl) (by kernel_rfl) (by kernel_rfl) (fun _ _ _ h => h) (Or.inl ⟨by kernel_rfl, ?hy51⟩) (by assumption) ?_
          case hy51 => intro w hSw; (try dsimp only at hSw); first | (go_simp; done) | (go_simp; with_reducible rfl)
          (try simp only [Act.put, List.setIfInBounds_toArray, List.set_cons_zero, List.set_cons_succ])
          refine wpAnyH_take (i := 23) (oi := { dst := some 2, op := Go.Op.assign (Go.Operand.tmp 25), type := 4, pos := _, after := #[{ on := 22, ground := Go.Ground.data }, { on := 20, ground := Go.Ground.chain }, { on := 0, ground := Go.Ground.phase }, { on := 1, ground := Go.Ground.phase }, { on := 2, ground := Go.Ground.phase }, { on := 3, ground := Go.Ground.phase }, { on := 4, ground := Go.Ground.phase }, { on := 5, ground := Go.Ground.phase }, { on := 6, ground := Go.Ground.phase }, { on := 7, ground := Go.Ground.phase }, { on := 8, ground := Go.Ground.phase }, { on := 9, ground := Go.Ground.phase }, { on := 10, ground := Go.Ground.phase }, { on := 11, ground := Go.Ground.phase }, { on := 12, ground := Go.Ground.phase }, { on := 13, ground := Go.Ground.phase }, { on := 14, ground := Go.Ground.phase }, { on := 15, ground := Go.Ground.phase }, { on := 16, ground := Go.Ground.phase }, { on := 17, ground := Go.Ground.phase }, { on := 18, ground := Go.Ground.phase }, { on := 19, ground := Go.Ground.phase }, { on := 20, ground := Go.Ground.phase }, { on := 21, ground := Go.Ground.phase }, { on := 22, ground := Go.Ground.phase }], guard := none }) (v := ?v52) rfl (by kernel_rfl) (by kernel_rfl) (by kernel_rfl) (fun _ _ _ h => h) (Or.inl ⟨by kernel_rfl, ?hy52⟩) (by assumption) ?_
          case hy52 => intro w hSw; (try dsimp only at hSw); first | (go_simp; done) | (go_simp; with_reducible rfl)
          (try simp only [Act.put, List.setIfInBounds_toArray, List.set_cons_zero, List.set_cons_succ])
          refine wpAnyH_done (by kernel_rfl) ?_ _
          go_wp2
          go_ret
          exact ⟨by rw [HV.out]; rfl, HG6.out⟩
      · have HV : Hid (rightN9 zs ps q = false) := Lib.hid (by unfold rightN9; rw [decide_eq_true h1, decide_eq_true h2, decide_eq_false h3]; rfl)
        have h5 : decide (q ≤ 62) = false := decide_eq_false h3
        have h6 : (q ≤ 62) = False := eq_false h3
        clear h1
        go_enter Try.func13, Try.ntmps13
        go_wp2_with fail
        generalize w.alloc (.cells #[.slice sa zs.length sc, .slice pa ps.length pc, .int .i64 q] 25) = wv at *
        generalize w.heap.size = L at *
        refine wp_region_held_drew (S := (fun W' => Grew wv W' ∧ W'.cell? ⟨L, 0, none⟩ = some (.slice sa zs.length sc) ∧ W'.cell? ⟨L, 1, none⟩ = some (.slice pa ps.length pc) ∧ W'.cell? ⟨L, 2, none⟩ = some (.int .i64 q))) (by kernel_rfl) ⟨Grew.drew' (Grew.refl _), b0, b1, b2⟩ (fun hHeld => ?_)
        refine wpAnyH_take (i := 0) (oi := { dst := some 3, op := Go.Op.fieldAddr 25 (Go.Operand.tmp 1) 0, type := 0, pos := _, after := #[], guard := none }) (v := ?v53) rfl (by kernel_rfl) (by kernel_rfl) (by kernel_rfl) (fun _ _ _ h => h) (Or.inl ⟨by kernel_rfl, ?hy53⟩) (by assumption) ?_
        case hy53 => intro w hSw; (try dsimp only at hSw); first | (go_simp; done) | (go_simp; with_reducible rfl)
        (try simp only [Act.put, List.setIfInBounds_toArray, List.set_cons_zero, List.set_cons_succ])
        refine wpAnyH_take (i := 1) (oi := { dst := some 4, op := Go.Op.load 22 (Go.Operand.tmp 3), type := 22, pos := _, after := #[{ on := 0, ground := Go.Ground.data }], guard := none }) (v := ?v54) rfl (by kernel_rfl) (by kernel_rfl) (by kernel_rfl) (fun _ _ _ h => h) (Or.inl ⟨by kernel_rfl, ?hy54⟩) (by assumption) ?_
        case hy54 => intro w hSw; (try dsimp only at hSw); first | (go_simp; done) | (go_simp; with_reducible rfl)
        (try simp only [Act.put, List.setIfInBounds_toArray, List.set_cons_zero, List.set_cons_succ])
        refine wpAnyH_ready (rs := [2]) (by kernel_rfl) (by simp) ?_
        refine AllReadyH.cons (o := { dst := some 5, op := Go.Op.call { callee := Go.Callee.value (Go.Operand.func 26), args := #[Go.Operand.tmp 4], argTypes := #[22] }, type := 3, pos := _, after := #[{ on := 1, ground := Go.Ground.data }], guard := none }) rfl (fun K hK => ?_) AllReadyH.nil
        go_simp
        (go_at_call 26; refine (rcheck_n sa sc zs _ rfl hsl (HR.out.grow (Grew.drew' (Grew.refl wv)))).mono ?_; rintro e w5 ⟨rfl, g5⟩; rw [HC0.out]; have gd5 := (Grew.drew' (Grew.refl wv)).trans g5; have HG5 := Lib.hid (HG.out.trans gd5))
        (try go_wp2_with fail)
        refine hK.out _ _ ?hS56 (fun hHeld => ?_)
        case hS56 => (try dsimp only); (obtain ⟨s0, s1, s2, s3⟩ := hHeld; exact ⟨s0.trans g5, kcG (g5.by' none) s1 (fun e => by cases e), kcG (g5.by' none) s2 (fun e => by cases e), kcG (g5.by' none) s3 (fun e => by cases e)⟩)
        clear hK K
        (try simp only [Act.put, List.setIfInBounds_toArray, List.set_cons_zero, List.set_cons_succ])
        refine wpAnyH_take (i := 3) (oi := { dst := some 6, op := Go.Op.binOp Go.BinOp.eql 3 (Go.Operand.tmp 5) (Go.Operand.const (Go.Value.int Go.IntKind.i64 0)) 3, type := 4, pos := _, after := #[{ on := 2, ground := Go.Ground.data }], guard := none }) (v := ?v57) rfl (by kernel_rfl) (by kernel_rfl) (by kernel_rfl) (fun _ _ _ h => h) (Or.inl ⟨by kernel_rfl, ?hy57⟩) (by assumption) ?_
        case hy57 => intro w hSw; (try dsimp only at hSw); first | (go_simp; done) | (go_simp; with_reducible rfl)
        (try simp only [Act.put, List.setIfInBounds_toArray, List.set_cons_zero, List.set_cons_succ])
        refine wpAnyH_take (i := 4) (oi := { dst := some 7, op := Go.Op.move (Go.Operand.tmp 6), type := 4, pos := _, after := #[{ on := 3, ground := Go.Ground.data }, { on := 2, ground := Go.Ground.chain }], guard := none }) (v := ?v58) rfl (by kernel_rfl) (by kernel_rfl) (by kernel_rfl) (fun _ _ _ h => h) (Or.inl ⟨by kernel_rfl, ?hy58⟩) (by assumption) ?_
        case hy58 => intro w hSw; (try dsimp only at hSw); first | (go_simp; done) | (go_simp; with_reducible rfl)
        (try simp only [Act.put, List.setIfInBounds_toArray, List.set_cons_zero, List.set_cons_succ])
        refine wpAnyH_take (i := 5) (oi := { dst := some 8, op := Go.Op.fieldAddr 25 (Go.Operand.tmp 1) 2, type := 0, pos := _, after := #[{ on := 4, ground := Go.Ground.guard }], guard := some (4, true) }) (v := ?v59) rfl (by kernel_rfl) (by kernel_rfl) (by kernel_rfl) (fun _ _ _ h => h) (Or.inl ⟨by kernel_rfl, ?hy59⟩) (by assumption) ?_
        case hy59 => intro w hSw; (try dsimp only at hSw); first | (go_simp; done) | (go_simp; with_reducible rfl)
        (try simp only [Act.put, List.setIfInBounds_toArray, List.set_cons_zero, List.set_cons_succ])
        refine wpAnyH_take (i := 6) (oi := { dst := some 9, op := Go.Op.load 3 (Go.Operand.tmp 8), type := 3, pos := _, after := #[{ on := 5, ground := Go.Ground.data }, { on := 4, ground := Go.Ground.guard }], guard := some (4, true) }) (v := ?v60) rfl (by kernel_rfl) (by kernel_rfl) (by kernel_rfl) (fun _ _ _ h => h) (Or.inl ⟨by kernel_rfl, ?hy60⟩) (by assumption) ?_
        case hy60 => intro w hSw; (try dsimp only at hSw); first | (go_simp; done) | (go_simp; with_reducible rfl)
        (try simp only [Act.put, List.setIfInBounds_toArray, List.set_cons_zero, List.set_cons_succ])
        refine wpAnyH_take (i := 7) (oi := { dst := some 10, op := Go.Op.binOp Go.BinOp.geq 3 (Go.Operand.tmp 9) (Go.Operand.const (Go.Value.int Go.IntKind.i64 0)) 3, type := 4, pos := _, after := #[{ on := 6, ground := Go.Ground.data }, { on := 4, ground := Go.Ground.guard }], guard := some (4, true) }) (v := ?v61) rfl (by kernel_rfl) (by kernel_rfl) (by kernel_rfl) (fun _ _ _ h => h) (Or.inl ⟨by kernel_rfl, ?hy61⟩) (by assumption) ?_
        case hy61 => intro w hSw; (try dsimp only at hSw); first | (go_simp; done) | (go_simp; with_reducible rfl)
        (try simp only [Act.put, List.setIfInBounds_toArray, List.set_cons_zero, List.set_cons_succ])
        refine wpAnyH_take (i := 8) (oi := { dst := some 11, op := Go.Op.pick (Go.Operand.tmp 7) (Go.Operand.tmp 10) (Go.Operand.const (Go.Value.bool false)), type := 4, pos := _, after := #[{ on := 4, ground := Go.Ground.data }, { on := 7, ground := Go.Ground.data }], guard := none }) (v := ?v62) rfl (by kernel_rfl) (by kernel_rfl) (by kernel_rfl) (fun _ _ _ h => h) (Or.inl ⟨by kernel_rfl, ?hy62⟩) (by assumption) ?_
        case hy62 => intro w hSw; (try dsimp only at hSw); first | (go_simp; done) | (go_simp; with_reducible rfl)
        (try simp only [Act.put, List.setIfInBounds_toArray, List.set_cons_zero, List.set_cons_succ])
        refine wpAnyH_take (i := 9) (oi := { dst := some 12, op := Go.Op.move (Go.Operand.tmp 11), type := 4, pos := _, after := #[{ on := 8, ground := Go.Ground.data }, { on := 4, ground := Go.Ground.chain }], guard := none }) (v := ?v63) rfl (by kernel_rfl) (by kernel_rfl) (by kernel_rfl) (fun _ _ _ h => h) (Or.inl ⟨by kernel_rfl, ?hy63⟩) (by assumption) ?_
        case hy63 => intro w hSw; (try dsimp only at hSw); first | (go_simp; done) | (go_simp; with_reducible rfl)
        (try simp only [Act.put, List.setIfInBounds_toArray, List.set_cons_zero, List.set_cons_succ])
        refine wpAnyH_take (i := 10) (oi := { dst := some 13, op := Go.Op.fieldAddr 25 (Go.Operand.tmp 1) 2, type := 0, pos := _, after := #[{ on := 9, ground := Go.Ground.guard }], guard := some (9, true) }) (v := ?v64) rfl (by kernel_rfl) (by kernel_rfl) (by kernel_rfl) (fun _ _ _ h => h) (Or.inl ⟨by kernel_rfl, ?hy64⟩) (by assumption) ?_
        case hy64 => intro w hSw; (try dsimp only at hSw); first | (go_simp; done) | (go_simp; with_reducible rfl)
        (try simp only [Act.put, List.setIfInBounds_toArray, List.set_cons_zero, List.set_cons_succ])
        refine wpAnyH_take (i := 11) (oi := { dst := some 14, op := Go.Op.load 3 (Go.Operand.tmp 13), type := 3, pos := _, after := #[{ on := 10, ground := Go.Ground.data }, { on := 9, ground := Go.Ground.guard }], guard := some (9, true) }) (v := ?v65) rfl (by kernel_rfl) (by kernel_rfl) (by kernel_rfl) (fun _ _ _ h => h) (Or.inl ⟨by kernel_rfl, ?hy65⟩) (by assumption) ?_
        case hy65 => intro w hSw; (try dsimp only at hSw); first | (go_simp; done) | (go_simp; with_reducible rfl)
        (try simp only [Act.put, List.setIfInBounds_toArray, List.set_cons_zero, List.set_cons_succ])
        refine wpAnyH_take (i := 12) (oi := { dst := some 15, op := Go.Op.binOp Go.BinOp.leq 3 (Go.Operand.tmp 14) (Go.Operand.const (Go.Value.int Go.IntKind.i64 62)) 3, type := 4, pos := _, after := #[{ on := 11, ground := Go.Ground.data }, { on := 9, ground := Go.Ground.guard }], guard := some (9, true) }) (v := ?v66) rfl (by kernel_rfl) (by kernel_rfl) (by kernel_rfl) (fun _ _ _ h => h) (Or.inl ⟨by kernel_rfl, ?hy66⟩) (by assumption) ?_
        case hy66 => intro w hSw; (try dsimp only at hSw); first | (go_simp; done) | (go_simp; with_reducible rfl)
        (try simp only [Act.put, List.setIfInBounds_toArray, List.set_cons_zero, List.set_cons_succ])
        refine wpAnyH_take (i := 13) (oi := { dst := some 16, op := Go.Op.pick (Go.Operand.tmp 12) (Go.Operand.tmp 15) (Go.Operand.const (Go.Value.bool false)), type := 4, pos := _, after := #[{ on := 9, ground := Go.Ground.data }, { on := 12, ground := Go.Ground.data }], guard := none }) (v := ?v67) rfl (by kernel_rfl) (by kernel_rfl) (by kernel_rfl) (fun _ _ _ h => h) (Or.inl ⟨by kernel_rfl, ?hy67⟩) (by assumption) ?_
        case hy67 => intro w hSw; (try dsimp only at hSw); first | (go_simp; done) | (go_simp; with_reducible rfl)
        (try simp only [Act.put, List.setIfInBounds_toArray, List.set_cons_zero, List.set_cons_succ])
        refine wpAnyH_take (i := 14) (oi := { dst := some 17, op := Go.Op.move (Go.Operand.tmp 16), type := 4, pos := _, after := #[{ on := 13, ground := Go.Ground.data }, { on := 9, ground := Go.Ground.chain }], guard := none }) (v := ?v68) rfl (by kernel_rfl) (by kernel_rfl) (by kernel_rfl) (fun _ _ _ h => h) (Or.inl ⟨by kernel_rfl, ?hy68⟩) (by assumption) ?_
        case hy68 => intro w hSw; (try dsimp only at hSw); first | (go_simp; done) | (go_simp; with_reducible rfl)
        (try simp only [Act.put, List.setIfInBounds_toArray, List.set_cons_zero, List.set_cons_succ])
        refine wpAnyH_take (i := 15) (oi := { dst := some 18, op := Go.Op.fieldAddr 25 (Go.Operand.tmp 1) 1, type := 0, pos := _, after := #[{ on := 14, ground := Go.Ground.guard }], guard := some (14, true) }) (v := undef) rfl (by kernel_rfl) (by kernel_rfl) (by kernel_rfl) (fun _ _ _ h => h) (Or.inr ⟨by kernel_rfl, rfl⟩) (by assumption) ?_
        (try simp only [Act.put, List.setIfInBounds_toArray, List.set_cons_zero, List.set_cons_succ])
        refine wpAnyH_take (i := 16) (oi := { dst := some 19, op := Go.Op.load 23 (Go.Operand.tmp 18), type := 23, pos := _, after := #[{ on := 15, ground := Go.Ground.data }, { on := 14, ground := Go.Ground.guard }], guard := some (14, true) }) (v := undef) rfl (by kernel_rfl) (by kernel_rfl) (by kernel_rfl) (fun _ _ _ h => h) (Or.inr ⟨by kernel_rfl, rfl⟩) (by assumption) ?_
        (try simp only [Act.put, List.setIfInBounds_toArray, List.set_cons_zero, List.set_cons_succ])
        refine wpAnyH_take (i := 17) (oi := { dst := some 20, op := Go.Op.call { callee := Go.Callee.builtin Go.Builtin.len, args := #[Go.Operand.tmp 19], argTypes := #[23] }, type := 3, pos := _, after := #[{ on := 16, ground := Go.Ground.data }, { on := 14, ground := Go.Ground.guard }], guard := some (14, true) }) (v := undef) rfl (by kernel_rfl) (by kernel_rfl) (by kernel_rfl) (fun _ _ _ h => h) (Or.inr ⟨by kernel_rfl, rfl⟩) (by assumption) ?_
        (try simp only [Act.put, List.setIfInBounds_toArray, List.set_cons_zero, List.set_cons_succ])
        refine wpAnyH_take (i := 18) (oi := { dst := some 21, op := Go.Op.fieldAddr 25 (Go.Operand.tmp 1) 0, type := 0, pos := _, after := #[{ on := 14, ground := Go.Ground.guard }], guard := some (14, true) }) (v := undef) rfl (by kernel_rfl) (by kernel_rfl) (by kernel_rfl) (fun _ _ _ h => h) (Or.inr ⟨by kernel_rfl, rfl⟩) (by assumption) ?_
        (try simp only [Act.put, List.setIfInBounds_toArray, List.set_cons_zero, List.set_cons_succ])
        refine wpAnyH_take (i := 19) (oi := { dst := some 22, op := Go.Op.load 22 (Go.Operand.tmp 21), type := 22, pos := _, after := #[{ on := 18, ground := Go.Ground.data }, { on := 14, ground := Go.Ground.guard }], guard := some (14, true) }) (v := undef) rfl (by kernel_rfl) (by kernel_rfl) (by kernel_rfl) (fun _ _ _ h => h) (Or.inr ⟨by kernel_rfl, rfl⟩) (by assumption) ?_
        (try simp only [Act.put, List.setIfInBounds_toArray, List.set_cons_zero, List.set_cons_succ])
        refine wpAnyH_take (i := 20) (oi := { dst := some 23, op := Go.Op.call { callee := Go.Callee.value (Go.Operand.func 27), args := #[Go.Operand.tmp 22], argTypes := #[22] }, type := 3, pos := _, after := #[{ on := 19, ground := Go.Ground.data }, { on := 14, ground := Go.Ground.chain }, { on := 14, ground := Go.Ground.guard }], guard := some (14, true) }) (v := undef) rfl (by kernel_rfl) (by kernel_rfl) (by kernel_rfl) (fun _ _ _ h => h) (Or.inr ⟨by kernel_rfl, rfl⟩) (by assumption) ?_
        (try simp only [Act.put, List.setIfInBounds_toArray, List.set_cons_zero, List.set_cons_succ])
        refine wpAnyH_take (i := 21) (oi := { dst := some 24, op := Go.Op.binOp Go.BinOp.eql 3 (Go.Operand.tmp 20) (Go.Operand.tmp 23) 3, type := 4, pos := _, after := #[{ on := 17, ground := Go.Ground.data }, { on := 20, ground := Go.Ground.data }, { on := 14, ground := Go.Ground.guard }], guard := some (14, true) }) (v := undef) rfl (by kernel_rfl) (by kernel_rfl) (by kernel_rfl) (fun _ _ _ h => h) (Or.inr ⟨by kernel_rfl, rfl⟩) (by assumption) ?_
        (try simp only [Act.put, List.setIfInBounds_toArray, List.set_cons_zero, List.set_cons_succ])
        refine wpAnyH_take (i := 22) (oi := { dst := some 25, op := Go.Op.pick (Go.Operand.tmp 17) (Go.Operand.tmp 24) (Go.Operand.const (Go.Value.bool false)), type := 4, pos := _, after := #[{ on := 14, ground := Go.Ground.data }, { on := 21, ground := Go.Ground.data }], guard := none }) (v := ?v76) rfl (by kernel_rfl) (by kernel_rfl) (by kernel_rfl) (fun _ _ _ h => h) (Or.inl ⟨by kernel_rfl, ?hy76⟩) (by assumption) ?_
        case hy76 => intro w hSw; (try dsimp only at hSw); first | (go_simp; done) | (go_simp; with_reducible rfl)
        (try simp only [Act.put, List.setIfInBounds_toArray, List.set_cons_zero, List.set_cons_succ])
        refine wpAnyH_take (i := 23) (oi := { dst := some 2, op := Go.Op.assign (Go.Operand.tmp 25), type := 4, pos := _, after := #[{ on := 22, ground := Go.Ground.data }, { on := 20, ground := Go.Ground.chain }, { on := 0, ground := Go.Ground.phase }, { on := 1, ground := Go.Ground.phase }, { on := 2, ground := Go.Ground.phase }, { on := 3, ground := Go.Ground.phase }, { on := 4, ground := Go.Ground.phase }, { on := 5, ground := Go.Ground.phase }, { on := 6, ground := Go.Ground.phase }, { on := 7, ground := Go.Ground.phase }, { on := 8, ground := Go.Ground.phase }, { on := 9, ground := Go.Ground.phase }, { on := 10, ground := Go.Ground.phase }, { on := 11, ground := Go.Ground.phase }, { on := 12, ground := Go.Ground.phase }, { on := 13, ground := Go.Ground.phase }, { on := 14, ground := Go.Ground.phase }, { on := 15, ground := Go.Ground.phase }, { on := 16, ground := Go.Ground.phase }, { on := 17, ground := Go.Ground.phase }, { on := 18, ground := Go.Ground.phase }, { on := 19, ground := Go.Ground.phase }, { on := 20, ground := Go.Ground.phase }, { on := 21, ground := Go.Ground.phase }, { on := 22, ground := Go.Ground.phase }], guard := none }) (v := ?v77) rfl (by kernel_rfl) (by kernel_rfl) (by kernel_rfl) (fun _ _ _ h => h) (Or.inl ⟨by kernel_rfl, ?hy77⟩) (by assumption) ?_
        case hy77 => intro w hSw; (try dsimp only at hSw); first | (go_simp; done) | (go_simp; with_reducible rfl)
        (try simp only [Act.put, List.setIfInBounds_toArray, List.set_cons_zero, List.set_cons_succ])
        refine wpAnyH_done (by kernel_rfl) ?_ _
        go_wp2
        go_ret
        exact ⟨by rw [HV.out]; rfl, HG5.out⟩
    · have HV : Hid (rightN9 zs ps q = false) := Lib.hid (by unfold rightN9; rw [decide_eq_true h1, decide_eq_false h2]; rfl)
      have h5 : decide (0 ≤ q) = false := decide_eq_false h2
      have h6 : (0 ≤ q) = False := eq_false h2
      clear h1
      go_enter Try.func13, Try.ntmps13
      go_wp2_with fail
      generalize w.alloc (.cells #[.slice sa zs.length sc, .slice pa ps.length pc, .int .i64 q] 25) = wv at *
      generalize w.heap.size = L at *
      refine wp_region_held_drew (S := (fun W' => Grew wv W' ∧ W'.cell? ⟨L, 0, none⟩ = some (.slice sa zs.length sc) ∧ W'.cell? ⟨L, 1, none⟩ = some (.slice pa ps.length pc) ∧ W'.cell? ⟨L, 2, none⟩ = some (.int .i64 q))) (by kernel_rfl) ⟨Grew.drew' (Grew.refl _), b0, b1, b2⟩ (fun hHeld => ?_)
      refine wpAnyH_take (i := 0) (oi := { dst := some 3, op := Go.Op.fieldAddr 25 (Go.Operand.tmp 1) 0, type := 0, pos := _, after := #[], guard := none }) (v := ?v78) rfl (by kernel_rfl) (by kernel_rfl) (by kernel_rfl) (fun _ _ _ h => h) (Or.inl ⟨by kernel_rfl, ?hy78⟩) (by assumption) ?_
      case hy78 => intro w hSw; (try dsimp only at hSw); first | (go_simp; done) | (go_simp; with_reducible rfl)
      (try simp only [Act.put, List.setIfInBounds_toArray, List.set_cons_zero, List.set_cons_succ])
      refine wpAnyH_take (i := 1) (oi := { dst := some 4, op := Go.Op.load 22 (Go.Operand.tmp 3), type := 22, pos := _, after := #[{ on := 0, ground := Go.Ground.data }], guard := none }) (v := ?v79) rfl (by kernel_rfl) (by kernel_rfl) (by kernel_rfl) (fun _ _ _ h => h) (Or.inl ⟨by kernel_rfl, ?hy79⟩) (by assumption) ?_
      case hy79 => intro w hSw; (try dsimp only at hSw); first | (go_simp; done) | (go_simp; with_reducible rfl)
      (try simp only [Act.put, List.setIfInBounds_toArray, List.set_cons_zero, List.set_cons_succ])
      refine wpAnyH_ready (rs := [2]) (by kernel_rfl) (by simp) ?_
      refine AllReadyH.cons (o := { dst := some 5, op := Go.Op.call { callee := Go.Callee.value (Go.Operand.func 26), args := #[Go.Operand.tmp 4], argTypes := #[22] }, type := 3, pos := _, after := #[{ on := 1, ground := Go.Ground.data }], guard := none }) rfl (fun K hK => ?_) AllReadyH.nil
      go_simp
      (go_at_call 26; refine (rcheck_n sa sc zs _ rfl hsl (HR.out.grow (Grew.drew' (Grew.refl wv)))).mono ?_; rintro e w5 ⟨rfl, g5⟩; rw [HC0.out]; have gd5 := (Grew.drew' (Grew.refl wv)).trans g5; have HG5 := Lib.hid (HG.out.trans gd5))
      (try go_wp2_with fail)
      refine hK.out _ _ ?hS81 (fun hHeld => ?_)
      case hS81 => (try dsimp only); (obtain ⟨s0, s1, s2, s3⟩ := hHeld; exact ⟨s0.trans g5, kcG (g5.by' none) s1 (fun e => by cases e), kcG (g5.by' none) s2 (fun e => by cases e), kcG (g5.by' none) s3 (fun e => by cases e)⟩)
      clear hK K
      (try simp only [Act.put, List.setIfInBounds_toArray, List.set_cons_zero, List.set_cons_succ])
      refine wpAnyH_take (i := 3) (oi := { dst := some 6, op := Go.Op.binOp Go.BinOp.eql 3 (Go.Operand.tmp 5) (Go.Operand.const (Go.Value.int Go.IntKind.i64 0)) 3, type := 4, pos := _, after := #[{ on := 2, ground := Go.Ground.data }], guard := none }) (v := ?v82) rfl (by kernel_rfl) (by kernel_rfl) (by kernel_rfl) (fun _ _ _ h => h) (Or.inl ⟨by kernel_rfl, ?hy82⟩) (by assumption) ?_
      case hy82 => intro w hSw; (try dsimp only at hSw); first | (go_simp; done) | (go_simp; with_reducible rfl)
      (try simp only [Act.put, List.setIfInBounds_toArray, List.set_cons_zero, List.set_cons_succ])
      refine wpAnyH_take (i := 4) (oi := { dst := some 7, op := Go.Op.move (Go.Operand.tmp 6), type := 4, pos := _, after := #[{ on := 3, ground := Go.Ground.data }, { on := 2, ground := Go.Ground.chain }], guard := none }) (v := ?v83) rfl (by kernel_rfl) (by kernel_rfl) (by kernel_rfl) (fun _ _ _ h => h) (Or.inl ⟨by kernel_rfl, ?hy83⟩) (by assumption) ?_
      case hy83 => intro w hSw; (try dsimp only at hSw); first | (go_simp; done) | (go_simp; with_reducible rfl)
      (try simp only [Act.put, List.setIfInBounds_toArray, List.set_cons_zero, List.set_cons_succ])
      refine wpAnyH_take (i := 5) (oi := { dst := some 8, op := Go.Op.fieldAddr 25 (Go.Operand.tmp 1) 2, type := 0, pos := _, after := #[{ on := 4, ground := Go.Ground.guard }], guard := some (4, true) }) (v := ?v84) rfl (by kernel_rfl) (by kernel_rfl) (by kernel_rfl) (fun _ _ _ h => h) (Or.inl ⟨by kernel_rfl, ?hy84⟩) (by assumption) ?_
      case hy84 => intro w hSw; (try dsimp only at hSw); first | (go_simp; done) | (go_simp; with_reducible rfl)
      (try simp only [Act.put, List.setIfInBounds_toArray, List.set_cons_zero, List.set_cons_succ])
      refine wpAnyH_take (i := 6) (oi := { dst := some 9, op := Go.Op.load 3 (Go.Operand.tmp 8), type := 3, pos := _, after := #[{ on := 5, ground := Go.Ground.data }, { on := 4, ground := Go.Ground.guard }], guard := some (4, true) }) (v := ?v85) rfl (by kernel_rfl) (by kernel_rfl) (by kernel_rfl) (fun _ _ _ h => h) (Or.inl ⟨by kernel_rfl, ?hy85⟩) (by assumption) ?_
      case hy85 => intro w hSw; (try dsimp only at hSw); first | (go_simp; done) | (go_simp; with_reducible rfl)
      (try simp only [Act.put, List.setIfInBounds_toArray, List.set_cons_zero, List.set_cons_succ])
      refine wpAnyH_take (i := 7) (oi := { dst := some 10, op := Go.Op.binOp Go.BinOp.geq 3 (Go.Operand.tmp 9) (Go.Operand.const (Go.Value.int Go.IntKind.i64 0)) 3, type := 4, pos := _, after := #[{ on := 6, ground := Go.Ground.data }, { on := 4, ground := Go.Ground.guard }], guard := some (4, true) }) (v := ?v86) rfl (by kernel_rfl) (by kernel_rfl) (by kernel_rfl) (fun _ _ _ h => h) (Or.inl ⟨by kernel_rfl, ?hy86⟩) (by assumption) ?_
      case hy86 => intro w hSw; (try dsimp only at hSw); first | (go_simp; done) | (go_simp; with_reducible rfl)
      (try simp only [Act.put, List.setIfInBounds_toArray, List.set_cons_zero, List.set_cons_succ])
      refine wpAnyH_take (i := 8) (oi := { dst := some 11, op := Go.Op.pick (Go.Operand.tmp 7) (Go.Operand.tmp 10) (Go.Operand.const (Go.Value.bool false)), type := 4, pos := _, after := #[{ on := 4, ground := Go.Ground.data }, { on := 7, ground := Go.Ground.data }], guard := none }) (v := ?v87) rfl (by kernel_rfl) (by kernel_rfl) (by kernel_rfl) (fun _ _ _ h => h) (Or.inl ⟨by kernel_rfl, ?hy87⟩) (by assumption) ?_
      case hy87 => intro w hSw; (try dsimp only at hSw); first | (go_simp; done) | (go_simp; with_reducible rfl)
      (try simp only [Act.put, List.setIfInBounds_toArray, List.set_cons_zero, List.set_cons_succ])
      refine wpAnyH_take (i := 9) (oi := { dst := some 12, op := Go.Op.move (Go.Operand.tmp 11), type := 4, pos := _, after := #[{ on := 8, ground := Go.Ground.data }, { on := 4, ground := Go.Ground.chain }], guard := none }) (v := ?v88) rfl (by kernel_rfl) (by kernel_rfl) (by kernel_rfl) (fun _ _ _ h => h) (Or.inl ⟨by kernel_rfl, ?hy88⟩) (by assumption) ?_
      case hy88 => intro w hSw; (try dsimp only at hSw); first | (go_simp; done) | (go_simp; with_reducible rfl)
      (try simp only [Act.put, List.setIfInBounds_toArray, List.set_cons_zero, List.set_cons_succ])
      refine wpAnyH_take (i := 10) (oi := { dst := some 13, op := Go.Op.fieldAddr 25 (Go.Operand.tmp 1) 2, type := 0, pos := _, after := #[{ on := 9, ground := Go.Ground.guard }], guard := some (9, true) }) (v := undef) rfl (by kernel_rfl) (by kernel_rfl) (by kernel_rfl) (fun _ _ _ h => h) (Or.inr ⟨by kernel_rfl, rfl⟩) (by assumption) ?_
      (try simp only [Act.put, List.setIfInBounds_toArray, List.set_cons_zero, List.set_cons_succ])
      refine wpAnyH_take (i := 11) (oi := { dst := some 14, op := Go.Op.load 3 (Go.Operand.tmp 13), type := 3, pos := _, after := #[{ on := 10, ground := Go.Ground.data }, { on := 9, ground := Go.Ground.guard }], guard := some (9, true) }) (v := undef) rfl (by kernel_rfl) (by kernel_rfl) (by kernel_rfl) (fun _ _ _ h => h) (Or.inr ⟨by kernel_rfl, rfl⟩) (by assumption) ?_
      (try simp only [Act.put, List.setIfInBounds_toArray, List.set_cons_zero, List.set_cons_succ])
      refine wpAnyH_take (i := 12) (oi := { dst := some 15, op := Go.Op.binOp Go.BinOp.leq 3 (Go.Operand.tmp 14) (Go.Operand.const (Go.Value.int Go.IntKind.i64 62)) 3, type := 4, pos := _, after := #[{ on := 11, ground := Go.Ground.data }, { on := 9, ground := Go.Ground.guard }], guard := some (9, true) }) (v := undef) rfl (by kernel_rfl) (by kernel_rfl) (by kernel_rfl) (fun _ _ _ h => h) (Or.inr ⟨by kernel_rfl, rfl⟩) (by assumption) ?_
      (try simp only [Act.put, List.setIfInBounds_toArray, List.set_cons_zero, List.set_cons_succ])
      refine wpAnyH_take (i := 13) (oi := { dst := some 16, op := Go.Op.pick (Go.Operand.tmp 12) (Go.Operand.tmp 15) (Go.Operand.const (Go.Value.bool false)), type := 4, pos := _, after := #[{ on := 9, ground := Go.Ground.data }, { on := 12, ground := Go.Ground.data }], guard := none }) (v := ?v92) rfl (by kernel_rfl) (by kernel_rfl) (by kernel_rfl) (fun _ _ _ h => h) (Or.inl ⟨by kernel_rfl, ?hy92⟩) (by assumption) ?_
      case hy92 => intro w hSw; (try dsimp only at hSw); first | (go_simp; done) | (go_simp; with_reducible rfl)
      (try simp only [Act.put, List.setIfInBounds_toArray, List.set_cons_zero, List.set_cons_succ])
      refine wpAnyH_take (i := 14) (oi := { dst := some 17, op := Go.Op.move (Go.Operand.tmp 16), type := 4, pos := _, after := #[{ on := 13, ground := Go.Ground.data }, { on := 9, ground := Go.Ground.chain }], guard := none }) (v := ?v93) rfl (by kernel_rfl) (by kernel_rfl) (by kernel_rfl) (fun _ _ _ h => h) (Or.inl ⟨by kernel_rfl, ?hy93⟩) (by assumption) ?_
      case hy93 => intro w hSw; (try dsimp only at hSw); first | (go_simp; done) | (go_simp; with_reducible rfl)
      (try simp only [Act.put, List.setIfInBounds_toArray, List.set_cons_zero, List.set_cons_succ])
      refine wpAnyH_take (i := 15) (oi := { dst := some 18, op := Go.Op.fieldAddr 25 (Go.Operand.tmp 1) 1, type := 0, pos := _, after := #[{ on := 14, ground := Go.Ground.guard }], guard := some (14, true) }) (v := undef) rfl (by kernel_rfl) (by kernel_rfl) (by kernel_rfl) (fun _ _ _ h => h) (Or.inr ⟨by kernel_rfl, rfl⟩) (by assumption) ?_
      (try simp only [Act.put, List.setIfInBounds_toArray, List.set_cons_zero, List.set_cons_succ])
      refine wpAnyH_take (i := 16) (oi := { dst := some 19, op := Go.Op.load 23 (Go.Operand.tmp 18), type := 23, pos := _, after := #[{ on := 15, ground := Go.Ground.data }, { on := 14, ground := Go.Ground.guard }], guard := some (14, true) }) (v := undef) rfl (by kernel_rfl) (by kernel_rfl) (by kernel_rfl) (fun _ _ _ h => h) (Or.inr ⟨by kernel_rfl, rfl⟩) (by assumption) ?_
      (try simp only [Act.put, List.setIfInBounds_toArray, List.set_cons_zero, List.set_cons_succ])
      refine wpAnyH_take (i := 17) (oi := { dst := some 20, op := Go.Op.call { callee := Go.Callee.builtin Go.Builtin.len, args := #[Go.Operand.tmp 19], argTypes := #[23] }, type := 3, pos := _, after := #[{ on := 16, ground := Go.Ground.data }, { on := 14, ground := Go.Ground.guard }], guard := some (14, true) }) (v := undef) rfl (by kernel_rfl) (by kernel_rfl) (by kernel_rfl) (fun _ _ _ h => h) (Or.inr ⟨by kernel_rfl, rfl⟩) (by assumption) ?_
      (try simp only [Act.put, List.setIfInBounds_toArray, List.set_cons_zero, List.set_cons_succ])
      refine wpAnyH_take (i := 18) (oi := { dst := some 21, op := Go.Op.fieldAddr 25 (Go.Operand.tmp 1) 0, type := 0, pos := _, after := #[{ on := 14, ground := Go.Ground.guard }], guard := some (14, true) }) (v := undef) rfl (by kernel_rfl) (by kernel_rfl) (by kernel_rfl) (fun _ _ _ h => h) (Or.inr ⟨by kernel_rfl, rfl⟩) (by assumption) ?_
      (try simp only [Act.put, List.setIfInBounds_toArray, List.set_cons_zero, List.set_cons_succ])
      refine wpAnyH_take (i := 19) (oi := { dst := some 22, op := Go.Op.load 22 (Go.Operand.tmp 21), type := 22, pos := _, after := #[{ on := 18, ground := Go.Ground.data }, { on := 14, ground := Go.Ground.guard }], guard := some (14, true) }) (v := undef) rfl (by kernel_rfl) (by kernel_rfl) (by kernel_rfl) (fun _ _ _ h => h) (Or.inr ⟨by kernel_rfl, rfl⟩) (by assumption) ?_
      (try simp only [Act.put, List.setIfInBounds_toArray, List.set_cons_zero, List.set_cons_succ])
      refine wpAnyH_take (i := 20) (oi := { dst := some 23, op := Go.Op.call { callee := Go.Callee.value (Go.Operand.func 27), args := #[Go.Operand.tmp 22], argTypes := #[22] }, type := 3, pos := _, after := #[{ on := 19, ground := Go.Ground.data }, { on := 14, ground := Go.Ground.chain }, { on := 14, ground := Go.Ground.guard }], guard := some (14, true) }) (v := undef) rfl (by kernel_rfl) (by kernel_rfl) (by kernel_rfl) (fun _ _ _ h => h) (Or.inr ⟨by kernel_rfl, rfl⟩) (by assumption) ?_
      (try simp only [Act.put, List.setIfInBounds_toArray, List.set_cons_zero, List.set_cons_succ])
      refine wpAnyH_take (i := 21) (oi := { dst := some 24, op := Go.Op.binOp Go.BinOp.eql 3 (Go.Operand.tmp 20) (Go.Operand.tmp 23) 3, type := 4, pos := _, after := #[{ on := 17, ground := Go.Ground.data }, { on := 20, ground := Go.Ground.data }, { on := 14, ground := Go.Ground.guard }], guard := some (14, true) }) (v := undef) rfl (by kernel_rfl) (by kernel_rfl) (by kernel_rfl) (fun _ _ _ h => h) (Or.inr ⟨by kernel_rfl, rfl⟩) (by assumption) ?_
      (try simp only [Act.put, List.setIfInBounds_toArray, List.set_cons_zero, List.set_cons_succ])
      refine wpAnyH_take (i := 22) (oi := { dst := some 25, op := Go.Op.pick (Go.Operand.tmp 17) (Go.Operand.tmp 24) (Go.Operand.const (Go.Value.bool false)), type := 4, pos := _, after := #[{ on := 14, ground := Go.Ground.data }, { on := 21, ground := Go.Ground.data }], guard := none }) (v := ?v101) rfl (by kernel_rfl) (by kernel_rfl) (by kernel_rfl) (fun _ _ _ h => h) (Or.inl ⟨by kernel_rfl, ?hy101⟩) (by assumption) ?_
      case hy101 => intro w hSw; (try dsimp only at hSw); first | (go_simp; done) | (go_simp; with_reducible rfl)
      (try simp only [Act.put, List.setIfInBounds_toArray, List.set_cons_zero, List.set_cons_succ])
      refine wpAnyH_take (i := 23) (oi := { dst := some 2, op := Go.Op.assign (Go.Operand.tmp 25), type := 4, pos := _, after := #[{ on := 22, ground := Go.Ground.data }, { on := 20, ground := Go.Ground.chain }, { on := 0, ground := Go.Ground.phase }, { on := 1, ground := Go.Ground.phase }, { on := 2, ground := Go.Ground.phase }, { on := 3, ground := Go.Ground.phase }, { on := 4, ground := Go.Ground.phase }, { on := 5, ground := Go.Ground.phase }, { on := 6, ground := Go.Ground.phase }, { on := 7, ground := Go.Ground.phase }, { on := 8, ground := Go.Ground.phase }, { on := 9, ground := Go.Ground.phase }, { on := 10, ground := Go.Ground.phase }, { on := 11, ground := Go.Ground.phase }, { on := 12, ground := Go.Ground.phase }, { on := 13, ground := Go.Ground.phase }, { on := 14, ground := Go.Ground.phase }, { on := 15, ground := Go.Ground.phase }, { on := 16, ground := Go.Ground.phase }, { on := 17, ground := Go.Ground.phase }, { on := 18, ground := Go.Ground.phase }, { on := 19, ground := Go.Ground.phase }, { on := 20, ground := Go.Ground.phase }, { on := 21, ground := Go.Ground.phase }, { on := 22, ground := Go.Ground.phase }], guard := none }) (v := ?v102) rfl (by kernel_rfl) (by kernel_rfl) (by kernel_rfl) (fun _ _ _ h => h) (Or.inl ⟨by kernel_rfl, ?hy102⟩) (by assumption) ?_
      case hy102 => intro w hSw; (try dsimp only at hSw); first | (go_simp; done) | (go_simp; with_reducible rfl)
      (try simp only [Act.put, List.setIfInBounds_toArray, List.set_cons_zero, List.set_cons_succ])
      refine wpAnyH_done (by kernel_rfl) ?_ _
      go_wp2
      go_ret
      exact ⟨by rw [HV.out]; rfl, HG5.out⟩
  · have HV : Hid (rightN9 zs ps q = false) := Lib.hid (by unfold rightN9; rw [decide_eq_false h1]; rfl)
    obtain ⟨cv, hcv⟩ : ∃ cv, codeV zs = cv := ⟨_, rfl⟩
    have HC0 := Lib.hid hcv
    rw [hcv] at h1
    have h5 : (cv == 0) = false := by rw [beq_eq_false_iff_ne]; exact h1
    have h6 : decide (cv = 0) = false := decide_eq_false h1
    clear hcv
    go_enter Try.func13, Try.ntmps13
    go_wp2_with fail
    generalize w.alloc (.cells #[.slice sa zs.length sc, .slice pa ps.length pc, .int .i64 q] 25) = wv at *
    generalize w.heap.size = L at *
    refine wp_region_held_drew (S := (fun W' => Grew wv W' ∧ W'.cell? ⟨L, 0, none⟩ = some (.slice sa zs.length sc) ∧ W'.cell? ⟨L, 1, none⟩ = some (.slice pa ps.length pc) ∧ W'.cell? ⟨L, 2, none⟩ = some (.int .i64 q))) (by kernel_rfl) ⟨Grew.drew' (Grew.refl _), b0, b1, b2⟩ (fun hHeld => ?_)
    refine wpAnyH_take (i := 0) (oi := { dst := some 3, op := Go.Op.fieldAddr 25 (Go.Operand.tmp 1) 0, type := 0, pos := _, after := #[], guard := none }) (v := ?v103) rfl (by kernel_rfl) (by kernel_rfl) (by kernel_rfl) (fun _ _ _ h => h) (Or.inl ⟨by kernel_rfl, ?hy103⟩) (by assumption) ?_
    case hy103 => intro w hSw; (try dsimp only at hSw); first | (go_simp; done) | (go_simp; with_reducible rfl)
    (try simp only [Act.put, List.setIfInBounds_toArray, List.set_cons_zero, List.set_cons_succ])
    refine wpAnyH_take (i := 1) (oi := { dst := some 4, op := Go.Op.load 22 (Go.Operand.tmp 3), type := 22, pos := _, after := #[{ on := 0, ground := Go.Ground.data }], guard := none }) (v := ?v104) rfl (by kernel_rfl) (by kernel_rfl) (by kernel_rfl) (fun _ _ _ h => h) (Or.inl ⟨by kernel_rfl, ?hy104⟩) (by assumption) ?_
    case hy104 => intro w hSw; (try dsimp only at hSw); first | (go_simp; done) | (go_simp; with_reducible rfl)
    (try simp only [Act.put, List.setIfInBounds_toArray, List.set_cons_zero, List.set_cons_succ])
    refine wpAnyH_ready (rs := [2]) (by kernel_rfl) (by simp) ?_
    refine AllReadyH.cons (o := { dst := some 5, op := Go.Op.call { callee := Go.Callee.value (Go.Operand.func 26), args := #[Go.Operand.tmp 4], argTypes := #[22] }, type := 3, pos := _, after := #[{ on := 1, ground := Go.Ground.data }], guard := none }) rfl (fun K hK => ?_) AllReadyH.nil
    go_simp
    (go_at_call 26; refine (rcheck_n sa sc zs _ rfl hsl (HR.out.grow (Grew.drew' (Grew.refl wv)))).mono ?_; rintro e w5 ⟨rfl, g5⟩; rw [HC0.out]; have gd5 := (Grew.drew' (Grew.refl wv)).trans g5; have HG5 := Lib.hid (HG.out.trans gd5))
    (try go_wp2_with fail)
    refine hK.out _ _ ?hS106 (fun hHeld => ?_)
    case hS106 => (try dsimp only); (obtain ⟨s0, s1, s2, s3⟩ := hHeld; exact ⟨s0.trans g5, kcG (g5.by' none) s1 (fun e => by cases e), kcG (g5.by' none) s2 (fun e => by cases e), kcG (g5.by' none) s3 (fun e => by cases e)⟩)
    clear hK K
    (try simp only [Act.put, List.setIfInBounds_toArray, List.set_cons_zero, List.set_cons_succ])
    refine wpAnyH_take (i := 3) (oi := { dst := some 6, op := Go.Op.binOp Go.BinOp.eql 3 (Go.Operand.tmp 5) (Go.Operand.const (Go.Value.int Go.IntKind.i64 0)) 3, type := 4, pos := _, after := #[{ on := 2, ground := Go.Ground.data }], guard := none }) (v := ?v107) rfl (by kernel_rfl) (by kernel_rfl) (by kernel_rfl) (fun _ _ _ h => h) (Or.inl ⟨by kernel_rfl, ?hy107⟩) (by assumption) ?_
    case hy107 => intro w hSw; (try dsimp only at hSw); first | (go_simp; done) | (go_simp; with_reducible rfl)
    (try simp only [Act.put, List.setIfInBounds_toArray, List.set_cons_zero, List.set_cons_succ])
    refine wpAnyH_take (i := 4) (oi := { dst := some 7, op := Go.Op.move (Go.Operand.tmp 6), type := 4, pos := _, after := #[{ on := 3, ground := Go.Ground.data }, { on := 2, ground := Go.Ground.chain }], guard := none }) (v := ?v108) rfl (by kernel_rfl) (by kernel_rfl) (by kernel_rfl) (fun _ _ _ h => h) (Or.inl ⟨by kernel_rfl, ?hy108⟩) (by assumption) ?_
    case hy108 => intro w hSw; (try dsimp only at hSw); first | (go_simp; done) | (go_simp; with_reducible rfl)
    (try simp only [Act.put, List.setIfInBounds_toArray, List.set_cons_zero, List.set_cons_succ])
    refine wpAnyH_take (i := 5) (oi := { dst := some 8, op := Go.Op.fieldAddr 25 (Go.Operand.tmp 1) 2, type := 0, pos := _, after := #[{ on := 4, ground := Go.Ground.guard }], guard := some (4, true) }) (v := undef) rfl (by kernel_rfl) (by kernel_rfl) (by kernel_rfl) (fun _ _ _ h => h) (Or.inr ⟨by kernel_rfl, rfl⟩) (by assumption) ?_
    (try simp only [Act.put, List.setIfInBounds_toArray, List.set_cons_zero, List.set_cons_succ])
    refine wpAnyH_take (i := 6) (oi := { dst := some 9, op := Go.Op.load 3 (Go.Operand.tmp 8), type := 3, pos := _, after := #[{ on := 5, ground := Go.Ground.data }, { on := 4, ground := Go.Ground.guard }], guard := some (4, true) }) (v := undef) rfl (by kernel_rfl) (by kernel_rfl) (by kernel_rfl) (fun _ _ _ h => h) (Or.inr ⟨by kernel_rfl, rfl⟩) (by assumption) ?_
    (try simp only [Act.put, List.setIfInBounds_toArray, List.set_cons_zero, List.set_cons_succ])
    refine wpAnyH_take (i := 7) (oi := { dst := some 10, op := Go.Op.binOp Go.BinOp.geq 3 (Go.Operand.tmp 9) (Go.Operand.const (Go.Value.int Go.IntKind.i64 0)) 3, type := 4, pos := _, after := #[{ on := 6, ground := Go.Ground.data }, { on := 4, ground := Go.Ground.guard }], guard := some (4, true) }) (v := undef) rfl (by kernel_rfl) (by kernel_rfl) (by kernel_rfl) (fun _ _ _ h => h) (Or.inr ⟨by kernel_rfl, rfl⟩) (by assumption) ?_
    (try simp only [Act.put, List.setIfInBounds_toArray, List.set_cons_zero, List.set_cons_succ])
    refine wpAnyH_take (i := 8) (oi := { dst := some 11, op := Go.Op.pick (Go.Operand.tmp 7) (Go.Operand.tmp 10) (Go.Operand.const (Go.Value.bool false)), type := 4, pos := _, after := #[{ on := 4, ground := Go.Ground.data }, { on := 7, ground := Go.Ground.data }], guard := none }) (v := ?v112) rfl (by kernel_rfl) (by kernel_rfl) (by kernel_rfl) (fun _ _ _ h => h) (Or.inl ⟨by kernel_rfl, ?hy112⟩) (by assumption) ?_
    case hy112 => intro w hSw; (try dsimp only at hSw); first | (go_simp; done) | (go_simp; with_reducible rfl)
    (try simp only [Act.put, List.setIfInBounds_toArray, List.set_cons_zero, List.set_cons_succ])
    refine wpAnyH_take (i := 9) (oi := { dst := some 12, op := Go.Op.move (Go.Operand.tmp 11), type := 4, pos := _, after := #[{ on := 8, ground := Go.Ground.data }, { on := 4, ground := Go.Ground.chain }], guard := none }) (v := ?v113) rfl (by kernel_rfl) (by kernel_rfl) (by kernel_rfl) (fun _ _ _ h => h) (Or.inl ⟨by kernel_rfl, ?hy113⟩) (by assumption) ?_
    case hy113 => intro w hSw; (try dsimp only at hSw); first | (go_simp; done) | (go_simp; with_reducible rfl)
    (try simp only [Act.put, List.setIfInBounds_toArray, List.set_cons_zero, List.set_cons_succ])
    refine wpAnyH_take (i := 10) (oi := { dst := some 13, op := Go.Op.fieldAddr 25 (Go.Operand.tmp 1) 2, type := 0, pos := _, after := #[{ on := 9, ground := Go.Ground.guard }], guard := some (9, true) }) (v := undef) rfl (by kernel_rfl) (by kernel_rfl) (by kernel_rfl) (fun _ _ _ h => h) (Or.inr ⟨by kernel_rfl, rfl⟩) (by assumption) ?_
    (try simp only [Act.put, List.setIfInBounds_toArray, List.set_cons_zero, List.set_cons_succ])
    refine wpAnyH_take (i := 11) (oi := { dst := some 14, op := Go.Op.load 3 (Go.Operand.tmp 13), type := 3, pos := _, after := #[{ on := 10, ground := Go.Ground.data }, { on := 9, ground := Go.Ground.guard }], guard := some (9, true) }) (v := undef) rfl (by kernel_rfl) (by kernel_rfl) (by kernel_rfl) (fun _ _ _ h => h) (Or.inr ⟨by kernel_rfl, rfl⟩) (by assumption) ?_
    (try simp only [Act.put, List.setIfInBounds_toArray, List.set_cons_zero, List.set_cons_succ])
    refine wpAnyH_take (i := 12) (oi := { dst := some 15, op := Go.Op.binOp Go.BinOp.leq 3 (Go.Operand.tmp 14) (Go.Operand.const (Go.Value.int Go.IntKind.i64 62)) 3, type := 4, pos := _, after := #[{ on := 11, ground := Go.Ground.data }, { on := 9, ground := Go.Ground.guard }], guard := some (9, true) }) (v := undef) rfl (by kernel_rfl) (by kernel_rfl) (by kernel_rfl) (fun _ _ _ h => h) (Or.inr ⟨by kernel_rfl, rfl⟩) (by assumption) ?_
    (try simp only [Act.put, List.setIfInBounds_toArray, List.set_cons_zero, List.set_cons_succ])
    refine wpAnyH_take (i := 13) (oi := { dst := some 16, op := Go.Op.pick (Go.Operand.tmp 12) (Go.Operand.tmp 15) (Go.Operand.const (Go.Value.bool false)), type := 4, pos := _, after := #[{ on := 9, ground := Go.Ground.data }, { on := 12, ground := Go.Ground.data }], guard := none }) (v := ?v117) rfl (by kernel_rfl) (by kernel_rfl) (by kernel_rfl) (fun _ _ _ h => h) (Or.inl ⟨by kernel_rfl, ?hy117⟩) (by assumption) ?_
    case hy117 => intro w hSw; (try dsimp only at hSw); first | (go_simp; done) | (go_simp; with_reducible rfl)
    (try simp only [Act.put, List.setIfInBounds_toArray, List.set_cons_zero, List.set_cons_succ])
    refine wpAnyH_take (i := 14) (oi := { dst := some 17, op := Go.Op.move (Go.Operand.tmp 16), type := 4, pos := _, after := #[{ on := 13, ground := Go.Ground.data }, { on := 9, ground := Go.Ground.chain }], guard := none }) (v := ?v118) rfl (by kernel_rfl) (by kernel_rfl) (by kernel_rfl) (fun _ _ _ h => h) (Or.inl ⟨by kernel_rfl, ?hy118⟩) (by assumption) ?_
    case hy118 => intro w hSw; (try dsimp only at hSw); first | (go_simp; done) | (go_simp; with_reducible rfl)
    (try simp only [Act.put, List.setIfInBounds_toArray, List.set_cons_zero, List.set_cons_succ])
    refine wpAnyH_take (i := 15) (oi := { dst := some 18, op := Go.Op.fieldAddr 25 (Go.Operand.tmp 1) 1, type := 0, pos := _, after := #[{ on := 14, ground := Go.Ground.guard }], guard := some (14, true) }) (v := undef) rfl (by kernel_rfl) (by kernel_rfl) (by kernel_rfl) (fun _ _ _ h => h) (Or.inr ⟨by kernel_rfl, rfl⟩) (by assumption) ?_
    (try simp only [Act.put, List.setIfInBounds_toArray, List.set_cons_zero, List.set_cons_succ])
    refine wpAnyH_take (i := 16) (oi := { dst := some 19, op := Go.Op.load 23 (Go.Operand.tmp 18), type := 23, pos := _, after := #[{ on := 15, ground := Go.Ground.data }, { on := 14, ground := Go.Ground.guard }], guard := some (14, true) }) (v := undef) rfl (by kernel_rfl) (by kernel_rfl) (by kernel_rfl) (fun _ _ _ h => h) (Or.inr ⟨by kernel_rfl, rfl⟩) (by assumption) ?_
    (try simp only [Act.put, List.setIfInBounds_toArray, List.set_cons_zero, List.set_cons_succ])
    refine wpAnyH_take (i := 17) (oi := { dst := some 20, op := Go.Op.call { callee := Go.Callee.builtin Go.Builtin.len, args := #[Go.Operand.tmp 19], argTypes := #[23] }, type := 3, pos := _, after := #[{ on := 16, ground := Go.Ground.data }, { on := 14, ground := Go.Ground.guard }], guard := some (14, true) }) (v := undef) rfl (by kernel_rfl) (by kernel_rfl) (by kernel_rfl) (fun _ _ _ h => h) (Or.inr ⟨by kernel_rfl, rfl⟩) (by assumption) ?_
    (try simp only [Act.put, List.setIfInBounds_toArray, List.set_cons_zero, List.set_cons_succ])
    refine wpAnyH_take (i := 18) (oi := { dst := some 21, op := Go.Op.fieldAddr 25 (Go.Operand.tmp 1) 0, type := 0, pos := _, after := #[{ on := 14, ground := Go.Ground.guard }], guard := some (14, true) }) (v := undef) rfl (by kernel_rfl) (by kernel_rfl) (by kernel_rfl) (fun _ _ _ h => h) (Or.inr ⟨by kernel_rfl, rfl⟩) (by assumption) ?_
    (try simp only [Act.put, List.setIfInBounds_toArray, List.set_cons_zero, List.set_cons_succ])
    refine wpAnyH_take (i := 19) (oi := { dst := some 22, op := Go.Op.load 22 (Go.Operand.tmp 21), type := 22, pos := _, after := #[{ on := 18, ground := Go.Ground.data }, { on := 14, ground := Go.Ground.guard }], guard := some (14, true) }) (v := undef) rfl (by kernel_rfl) (by kernel_rfl) (by kernel_rfl) (fun _ _ _ h => h) (Or.inr ⟨by kernel_rfl, rfl⟩) (by assumption) ?_
    (try simp only [Act.put, List.setIfInBounds_toArray, List.set_cons_zero, List.set_cons_succ])
    refine wpAnyH_take (i := 20) (oi := { dst := some 23, op := Go.Op.call { callee := Go.Callee.value (Go.Operand.func 27), args := #[Go.Operand.tmp 22], argTypes := #[22] }, type := 3, pos := _, after := #[{ on := 19, ground := Go.Ground.data }, { on := 14, ground := Go.Ground.chain }, { on := 14, ground := Go.Ground.guard }], guard := some (14, true) }) (v := undef) rfl (by kernel_rfl) (by kernel_rfl) (by kernel_rfl) (fun _ _ _ h => h) (Or.inr ⟨by kernel_rfl, rfl⟩) (by assumption) ?_
    (try simp only [Act.put, List.setIfInBounds_toArray, List.set_cons_zero, List.set_cons_succ])
    refine wpAnyH_take (i := 21) (oi := { dst := some 24, op := Go.Op.binOp Go.BinOp.eql 3 (Go.Operand.tmp 20) (Go.Operand.tmp 23) 3, type := 4, pos := _, after := #[{ on := 17, ground := Go.Ground.data }, { on := 20, ground := Go.Ground.data }, { on := 14, ground := Go.Ground.guard }], guard := some (14, true) }) (v := undef) rfl (by kernel_rfl) (by kernel_rfl) (by kernel_rfl) (fun _ _ _ h => h) (Or.inr ⟨by kernel_rfl, rfl⟩) (by assumption) ?_
    (try simp only [Act.put, List.setIfInBounds_toArray, List.set_cons_zero, List.set_cons_succ])
    refine wpAnyH_take (i := 22) (oi := { dst := some 25, op := Go.Op.pick (Go.Operand.tmp 17) (Go.Operand.tmp 24) (Go.Operand.const (Go.Value.bool false)), type := 4, pos := _, after := #[{ on := 14, ground := Go.Ground.data }, { on := 21, ground := Go.Ground.data }], guard := none }) (v := ?v126) rfl (by kernel_rfl) (by kernel_rfl) (by kernel_rfl) (fun _ _ _ h => h) (Or.inl ⟨by kernel_rfl, ?hy126⟩) (by assumption) ?_
    case hy126 => intro w hSw; (try dsimp only at hSw); first | (go_simp; done) | (go_simp; with_reducible rfl)
    (try simp only [Act.put, List.setIfInBounds_toArray, List.set_cons_zero, List.set_cons_succ])
    refine wpAnyH_take (i := 23) (oi := { dst := some 2, op := Go.Op.assign (Go.Operand.tmp 25), type := 4, pos := _, after := #[{ on := 22, ground := Go.Ground.data }, { on := 20, ground := Go.Ground.chain }, { on := 0, ground := Go.Ground.phase }, { on := 1, ground := Go.Ground.phase }, { on := 2, ground := Go.Ground.phase }, { on := 3, ground := Go.Ground.phase }, { on := 4, ground := Go.Ground.phase }, { on := 5, ground := Go.Ground.phase }, { on := 6, ground := Go.Ground.phase }, { on := 7, ground := Go.Ground.phase }, { on := 8, ground := Go.Ground.phase }, { on := 9, ground := Go.Ground.phase }, { on := 10, ground := Go.Ground.phase }, { on := 11, ground := Go.Ground.phase }, { on := 12, ground := Go.Ground.phase }, { on := 13, ground := Go.Ground.phase }, { on := 14, ground := Go.Ground.phase }, { on := 15, ground := Go.Ground.phase }, { on := 16, ground := Go.Ground.phase }, { on := 17, ground := Go.Ground.phase }, { on := 18, ground := Go.Ground.phase }, { on := 19, ground := Go.Ground.phase }, { on := 20, ground := Go.Ground.phase }, { on := 21, ground := Go.Ground.phase }, { on := 22, ground := Go.Ground.phase }], guard := none }) (v := ?v127) rfl (by kernel_rfl) (by kernel_rfl) (by kernel_rfl) (fun _ _ _ h => h) (Or.inl ⟨by kernel_rfl, ?hy127⟩) (by assumption) ?_
    case hy127 => intro w hSw; (try dsimp only at hSw); first | (go_simp; done) | (go_simp; with_reducible rfl)
    (try simp only [Act.put, List.setIfInBounds_toArray, List.set_cons_zero, List.set_cons_succ])
    refine wpAnyH_done (by kernel_rfl) ?_ _
    go_wp2
    go_ret
    exact ⟨by rw [HV.out]; rfl, HG5.out⟩

set_option linter.unusedSimpArgs false in
set_option maxRecDepth 100000 in
set_option maxHeartbeats 4000000 in
theorem weight9_any {k r c : Nat} (hP : NetP zs ps q) (h : RN w sa sc pa pc zs ps) (hk : k < lnk zs) (hr : r < sz zs (k + 1)) (hc : c < sz zs k) :
    Calls Try.prog 53 #[.agg #[.slice sa zs.length sc, .slice pa ps.length pc, .int .i64 q], .int .i64 k, .int .i64 r, .int .i64 c] w fun e w' => e = .returned (.int .i64 (el ps (oW zs k + (r * sz zs k + c)))) ∧ Grew w w' := by
  have gA : Grew w (w.alloc (.cells #[.slice sa zs.length sc, .slice pa ps.length pc, .int .i64 q] 25)) := (Grew.refl w).alloc _
  have HT := Lib.hid (Three.new w 25 (.slice sa zs.length sc) (.slice pa ps.length pc) (.int .i64 q))
  have HR := Lib.hid (h.sr.grow gA)
  have HG := Lib.hid gA
  have hok := hP.right.2.2.1
  have hl := lnk_in hP.right
  obtain ⟨sb, so, rfl, hsb, hsk⟩ := (h.sr.grow gA).at (k := k) (by omega)
  have hin := w_in hok hk hr hc
  have hnp := nP_in hP.right
  obtain ⟨pb, po, rfl, hpb, hpi⟩ := (h.pr.grow gA).at (k := oW zs k + (r * sz zs k + c)) (by rw [hP.len]; exact hin)
  rw [← sz_eq hok (k := k) (by omega)] at hsk
  have hs0 := sz_in hok (k := k) (by omega)
  have hs1 := sz_in hok (k := k + 1) (by omega)
  have HW := Lib.hid (rgW_at hok hk)
  have HRt := Lib.hid hP.right
  have hpl := hP.len
  have hsc := h.scap
  have hsm := h.smax
  have hpc := h.pcap
  have hrs : r * sz zs k + c < nP zs := by omega
  have hkn : k < zs.length := by omega
  have hz16 : zs.length ≤ 16 := by omega
  obtain ⟨f, hf⟩ : ∃ f, r * sz zs k = f := ⟨_, rfl⟩
  have hfi : (r : Int) * (sz zs k : Int) = (f : Int) := by rw [← hf]; exact_mod_cast rfl
  rw [hf] at hin hpi hrs ⊢
  obtain ⟨g, hg⟩ : ∃ g, oW zs k + f = g := ⟨_, rfl⟩
  obtain ⟨i, hi⟩ : ∃ i, oW zs k + (f + c) = i := ⟨_, rfl⟩
  have hw1 : IntKind.i64.wrap ((r : Int) * (sz zs k : Int)) = (f : Int) := by rw [hfi]; exact IntWalk.i64_in _ (by omega)
  have hw2 : IntKind.i64.wrap ((oW zs k : Int) + (f : Int)) = (g : Int) := by rw [show (oW zs k : Int) + (f : Int) = (g : Int) by omega]; exact IntWalk.i64_in _ (by omega)
  have hw3 : IntKind.i64.wrap ((g : Int) + (c : Int)) = (i : Int) := by rw [show (g : Int) + (c : Int) = (i : Int) by omega]; exact IntWalk.i64_in _ (by omega)
  rw [hi] at hin hpi ⊢
  have hip : i < ps.length := by omega
  have hipi : (i : Int) < (ps.length : Int) := by omega
  have hkni : (k : Int) < (zs.length : Int) := by omega
  have b0 := HT.out.c0
  have b1 := HT.out.c1
  have hlt := HT.out.lt
  have hfd := fun (w : World) (x y : Int) => field_lo9 w x y
  clear h gA hP hok hl hf hg hi hfi hpl hk hr hc hrs hs1
  generalize el ps i = v at *
  go_enter Try.func53, Try.ntmps53
  go_wp2_with fail
  generalize w.alloc (.cells #[.slice (some ⟨sb, so, none⟩) zs.length sc, .slice (some ⟨pb, po, none⟩) ps.length pc, .int .i64 q] 25) = wv at *
  generalize w.heap.size = L at *
  refine wp_region_held_drew (S := (fun W' => Grew wv W' ∧ W'.cell? ⟨L, 0, none⟩ = some (.slice (some ⟨sb, so, none⟩) zs.length sc) ∧ W'.cell? ⟨L, 1, none⟩ = some (.slice (some ⟨pb, po, none⟩) ps.length pc) ∧ W'.cell? ⟨sb, so + k, none⟩ = some (.int .i64 (sz zs k : Int)) ∧ W'.cell? ⟨pb, po + i, none⟩ = some (.int .i64 v))) (by kernel_rfl) ⟨Grew.drew' (Grew.refl _), b0, b1, hsk, hpi⟩ (fun hHeld => ?_)
  refine wpAnyH_take (i := 0) (oi := { dst := some 9, op := Go.Op.fieldAddr 25 (Go.Operand.tmp 4) 1, type := 0, pos := _, after := #[], guard := none }) (v := ?v128) rfl (by kernel_rfl) (by kernel_rfl) (by kernel_rfl) (fun _ _ _ h => h) (Or.inl ⟨by kernel_rfl, ?hy128⟩) (by assumption) ?_
  case hy128 => intro w hSw; (try dsimp only at hSw); first | (go_simp; done) | (go_simp; with_reducible rfl)
  (try simp only [Act.put, List.setIfInBounds_toArray, List.set_cons_zero, List.set_cons_succ])
  refine wpAnyH_take (i := 1) (oi := { dst := some 10, op := Go.Op.load 23 (Go.Operand.tmp 9), type := 23, pos := _, after := #[{ on := 0, ground := Go.Ground.data }], guard := none }) (v := ?v129) rfl (by kernel_rfl) (by kernel_rfl) (by kernel_rfl) (fun _ _ _ h => h) (Or.inl ⟨by kernel_rfl, ?hy129⟩) (by assumption) ?_
  case hy129 => intro w hSw; (try dsimp only at hSw); first | (go_simp; done) | (go_simp; with_reducible rfl)
  (try simp only [Act.put, List.setIfInBounds_toArray, List.set_cons_zero, List.set_cons_succ])
  refine wpAnyH_take (i := 2) (oi := { dst := some 11, op := Go.Op.fieldAddr 25 (Go.Operand.tmp 4) 0, type := 0, pos := _, after := #[], guard := none }) (v := ?v130) rfl (by kernel_rfl) (by kernel_rfl) (by kernel_rfl) (fun _ _ _ h => h) (Or.inl ⟨by kernel_rfl, ?hy130⟩) (by assumption) ?_
  case hy130 => intro w hSw; (try dsimp only at hSw); first | (go_simp; done) | (go_simp; with_reducible rfl)
  (try simp only [Act.put, List.setIfInBounds_toArray, List.set_cons_zero, List.set_cons_succ])
  refine wpAnyH_take (i := 3) (oi := { dst := some 12, op := Go.Op.load 22 (Go.Operand.tmp 11), type := 22, pos := _, after := #[{ on := 2, ground := Go.Ground.data }], guard := none }) (v := ?v131) rfl (by kernel_rfl) (by kernel_rfl) (by kernel_rfl) (fun _ _ _ h => h) (Or.inl ⟨by kernel_rfl, ?hy131⟩) (by assumption) ?_
  case hy131 => intro w hSw; (try dsimp only at hSw); first | (go_simp; done) | (go_simp; with_reducible rfl)
  (try simp only [Act.put, List.setIfInBounds_toArray, List.set_cons_zero, List.set_cons_succ])
  refine wpAnyH_take (i := 4) (oi := { dst := some 13, op := Go.Op.move (Go.Operand.tmp 1), type := 3, pos := _, after := #[], guard := none }) (v := ?v132) rfl (by kernel_rfl) (by kernel_rfl) (by kernel_rfl) (fun _ _ _ h => h) (Or.inl ⟨by kernel_rfl, ?hy132⟩) (by assumption) ?_
  case hy132 => intro w hSw; (try dsimp only at hSw); first | (go_simp; done) | (go_simp; with_reducible rfl)
  (try simp only [Act.put, List.setIfInBounds_toArray, List.set_cons_zero, List.set_cons_succ])
  refine wpAnyH_take (i := 7) (oi := { dst := some 16, op := Go.Op.move (Go.Operand.tmp 2), type := 3, pos := _, after := #[], guard := none }) (v := ?v133) rfl (by kernel_rfl) (by kernel_rfl) (by kernel_rfl) (fun _ _ _ h => h) (Or.inl ⟨by kernel_rfl, ?hy133⟩) (by assumption) ?_
  case hy133 => intro w hSw; (try dsimp only at hSw); first | (go_simp; done) | (go_simp; with_reducible rfl)
  (try simp only [Act.put, List.setIfInBounds_toArray, List.set_cons_zero, List.set_cons_succ])
  refine wpAnyH_take (i := 8) (oi := { dst := some 17, op := Go.Op.fieldAddr 25 (Go.Operand.tmp 4) 0, type := 0, pos := _, after := #[], guard := none }) (v := ?v134) rfl (by kernel_rfl) (by kernel_rfl) (by kernel_rfl) (fun _ _ _ h => h) (Or.inl ⟨by kernel_rfl, ?hy134⟩) (by assumption) ?_
  case hy134 => intro w hSw; (try dsimp only at hSw); first | (go_simp; done) | (go_simp; with_reducible rfl)
  (try simp only [Act.put, List.setIfInBounds_toArray, List.set_cons_zero, List.set_cons_succ])
  refine wpAnyH_take (i := 9) (oi := { dst := some 18, op := Go.Op.load 22 (Go.Operand.tmp 17), type := 22, pos := _, after := #[{ on := 8, ground := Go.Ground.data }], guard := none }) (v := ?v135) rfl (by kernel_rfl) (by kernel_rfl) (by kernel_rfl) (fun _ _ _ h => h) (Or.inl ⟨by kernel_rfl, ?hy135⟩) (by assumption) ?_
  case hy135 => intro w hSw; (try dsimp only at hSw); first | (go_simp; done) | (go_simp; with_reducible rfl)
  (try simp only [Act.put, List.setIfInBounds_toArray, List.set_cons_zero, List.set_cons_succ])
  refine wpAnyH_take (i := 10) (oi := { dst := some 19, op := Go.Op.move (Go.Operand.tmp 1), type := 3, pos := _, after := #[], guard := none }) (v := ?v136) rfl (by kernel_rfl) (by kernel_rfl) (by kernel_rfl) (fun _ _ _ h => h) (Or.inl ⟨by kernel_rfl, ?hy136⟩) (by assumption) ?_
  case hy136 => intro w hSw; (try dsimp only at hSw); first | (go_simp; done) | (go_simp; with_reducible rfl)
  (try simp only [Act.put, List.setIfInBounds_toArray, List.set_cons_zero, List.set_cons_succ])
  refine wpAnyH_take (i := 11) (oi := { dst := some 20, op := Go.Op.indexAddr 22 (Go.Operand.tmp 18) (Go.Operand.tmp 19), type := 0, pos := _, after := #[{ on := 9, ground := Go.Ground.data }, { on := 10, ground := Go.Ground.data }], guard := none }) (v := ?v137) rfl (by kernel_rfl) (by kernel_rfl) (by kernel_rfl) (fun _ _ _ h => h) (Or.inl ⟨by kernel_rfl, ?hy137⟩) (by assumption) ?_
  case hy137 => intro w hSw; (try dsimp only at hSw); first | (go_simp; done) | (go_simp; with_reducible rfl)
  (try simp only [Act.put, List.setIfInBounds_toArray, List.set_cons_zero, List.set_cons_succ])
  refine wpAnyH_take (i := 12) (oi := { dst := some 21, op := Go.Op.load 3 (Go.Operand.tmp 20), type := 3, pos := _, after := #[{ on := 11, ground := Go.Ground.data }], guard := none }) (v := ?v138) rfl (by kernel_rfl) (by kernel_rfl) (by kernel_rfl) (fun _ _ _ h => h) (Or.inl ⟨by kernel_rfl, ?hy138⟩) (by assumption) ?_
  case hy138 => intro w hSw; (try dsimp only at hSw); first | (go_simp; done) | (go_simp; with_reducible rfl)
  (try simp only [Act.put, List.setIfInBounds_toArray, List.set_cons_zero, List.set_cons_succ])
  refine wpAnyH_take (i := 13) (oi := { dst := some 22, op := Go.Op.binOp Go.BinOp.mul 3 (Go.Operand.tmp 16) (Go.Operand.tmp 21) 3, type := 3, pos := _, after := #[{ on := 7, ground := Go.Ground.data }, { on := 12, ground := Go.Ground.data }], guard := none }) (v := ?v139) rfl (by kernel_rfl) (by kernel_rfl) (by kernel_rfl) (fun _ _ _ h => h) (Or.inl ⟨by kernel_rfl, ?hy139⟩) (by assumption) ?_
  case hy139 => intro w hSw; (try dsimp only at hSw); first | (go_simp; done) | (go_simp; with_reducible rfl)
  (try simp only [Act.put, List.setIfInBounds_toArray, List.set_cons_zero, List.set_cons_succ])
  refine wpAnyH_take (i := 15) (oi := { dst := some 24, op := Go.Op.move (Go.Operand.tmp 3), type := 3, pos := _, after := #[], guard := none }) (v := ?v140) rfl (by kernel_rfl) (by kernel_rfl) (by kernel_rfl) (fun _ _ _ h => h) (Or.inl ⟨by kernel_rfl, ?hy140⟩) (by assumption) ?_
  case hy140 => intro w hSw; (try dsimp only at hSw); first | (go_simp; done) | (go_simp; with_reducible rfl)
  (try simp only [Act.put, List.setIfInBounds_toArray, List.set_cons_zero, List.set_cons_succ])
  refine wpAnyH_ready (rs := [5]) (by kernel_rfl) (by simp) ?_
  refine AllReadyH.cons (o := { dst := some 14, op := Go.Op.call { callee := Go.Callee.value (Go.Operand.func 74), args := #[Go.Operand.tmp 12, Go.Operand.tmp 13], argTypes := #[22, 3] }, type := 110, pos := _, after := #[{ on := 3, ground := Go.Ground.data }, { on := 4, ground := Go.Ground.data }], guard := none }) rfl (fun K hK => ?_) AllReadyH.nil
  go_simp
  (go_at_call 74; refine (rweights_any _ sc zs (k : Int) _ rfl hsc hsm HRt.out (HR.out.grow (Grew.drew' (Grew.refl wv)))).mono ?_; rintro e w5 ⟨rfl, g5⟩; rw [HW.out]; have HG5 := Lib.hid ((HG.out.trans (Grew.drew' (Grew.refl wv))).trans g5))
  (try go_wp2_with fail)
  refine hK.out _ _ ?hS142 (fun hHeld => ?_)
  case hS142 => (try dsimp only); (obtain ⟨s0, s1, s2, s3, s4⟩ := hHeld; exact ⟨s0.trans g5, kcG (g5.by' none) s1 (fun e => by cases e), kcG (g5.by' none) s2 (fun e => by cases e), kcG (g5.by' none) s3 (fun e => by cases e), kcG (g5.by' none) s4 (fun e => by cases e)⟩)
  clear hK K
  (try simp only [Act.put, List.setIfInBounds_toArray, List.set_cons_zero, List.set_cons_succ])
  refine wpAnyH_take (i := 6) (oi := { dst := some 15, op := Go.Op.field 110 (Go.Operand.tmp 14) 0, type := 3, pos := _, after := #[{ on := 5, ground := Go.Ground.data }], guard := none }) (v := ?v143) rfl (by kernel_rfl) (by kernel_rfl) (by kernel_rfl) (fun _ _ _ h => h) (Or.inl ⟨by kernel_rfl, ?hy143⟩) (by assumption) ?_
  case hy143 => intro w hSw; (try dsimp only at hSw); first | (go_simp; done) | (go_simp; with_reducible rfl)
  (try simp only [Act.put, List.setIfInBounds_toArray, List.set_cons_zero, List.set_cons_succ])
  refine wpAnyH_take (i := 14) (oi := { dst := some 23, op := Go.Op.binOp Go.BinOp.add 3 (Go.Operand.tmp 15) (Go.Operand.tmp 22) 3, type := 3, pos := _, after := #[{ on := 6, ground := Go.Ground.data }, { on := 13, ground := Go.Ground.data }], guard := none }) (v := ?v144) rfl (by kernel_rfl) (by kernel_rfl) (by kernel_rfl) (fun _ _ _ h => h) (Or.inl ⟨by kernel_rfl, ?hy144⟩) (by assumption) ?_
  case hy144 => intro w hSw; (try dsimp only at hSw); first | (go_simp; done) | (go_simp; with_reducible rfl)
  (try simp only [Act.put, List.setIfInBounds_toArray, List.set_cons_zero, List.set_cons_succ])
  refine wpAnyH_take (i := 16) (oi := { dst := some 25, op := Go.Op.binOp Go.BinOp.add 3 (Go.Operand.tmp 23) (Go.Operand.tmp 24) 3, type := 3, pos := _, after := #[{ on := 14, ground := Go.Ground.data }, { on := 15, ground := Go.Ground.data }], guard := none }) (v := ?v145) rfl (by kernel_rfl) (by kernel_rfl) (by kernel_rfl) (fun _ _ _ h => h) (Or.inl ⟨by kernel_rfl, ?hy145⟩) (by assumption) ?_
  case hy145 => intro w hSw; (try dsimp only at hSw); first | (go_simp; done) | (go_simp; with_reducible rfl)
  (try simp only [Act.put, List.setIfInBounds_toArray, List.set_cons_zero, List.set_cons_succ])
  refine wpAnyH_take (i := 17) (oi := { dst := some 26, op := Go.Op.indexAddr 23 (Go.Operand.tmp 10) (Go.Operand.tmp 25), type := 0, pos := _, after := #[{ on := 1, ground := Go.Ground.data }, { on := 16, ground := Go.Ground.data }], guard := none }) (v := ?v146) rfl (by kernel_rfl) (by kernel_rfl) (by kernel_rfl) (fun _ _ _ h => h) (Or.inl ⟨by kernel_rfl, ?hy146⟩) (by assumption) ?_
  case hy146 => intro w hSw; (try dsimp only at hSw); first | (go_simp; done) | (go_simp; with_reducible rfl)
  (try simp only [Act.put, List.setIfInBounds_toArray, List.set_cons_zero, List.set_cons_succ])
  refine wpAnyH_take (i := 18) (oi := { dst := some 27, op := Go.Op.load 2 (Go.Operand.tmp 26), type := 2, pos := _, after := #[{ on := 17, ground := Go.Ground.data }], guard := none }) (v := ?v147) rfl (by kernel_rfl) (by kernel_rfl) (by kernel_rfl) (fun _ _ _ h => h) (Or.inl ⟨by kernel_rfl, ?hy147⟩) (by assumption) ?_
  case hy147 => intro w hSw; (try dsimp only at hSw); first | (go_simp; done) | (go_simp; with_reducible rfl)
  (try simp only [Act.put, List.setIfInBounds_toArray, List.set_cons_zero, List.set_cons_succ])
  refine wpAnyH_take (i := 19) (oi := { dst := some 8, op := Go.Op.assign (Go.Operand.tmp 27), type := 2, pos := _, after := #[{ on := 18, ground := Go.Ground.data }, { on := 5, ground := Go.Ground.chain }, { on := 0, ground := Go.Ground.phase }, { on := 1, ground := Go.Ground.phase }, { on := 2, ground := Go.Ground.phase }, { on := 3, ground := Go.Ground.phase }, { on := 4, ground := Go.Ground.phase }, { on := 5, ground := Go.Ground.phase }, { on := 6, ground := Go.Ground.phase }, { on := 7, ground := Go.Ground.phase }, { on := 8, ground := Go.Ground.phase }, { on := 9, ground := Go.Ground.phase }, { on := 10, ground := Go.Ground.phase }, { on := 11, ground := Go.Ground.phase }, { on := 12, ground := Go.Ground.phase }, { on := 13, ground := Go.Ground.phase }, { on := 14, ground := Go.Ground.phase }, { on := 15, ground := Go.Ground.phase }, { on := 16, ground := Go.Ground.phase }, { on := 17, ground := Go.Ground.phase }, { on := 18, ground := Go.Ground.phase }], guard := none }) (v := ?v148) rfl (by kernel_rfl) (by kernel_rfl) (by kernel_rfl) (fun _ _ _ h => h) (Or.inl ⟨by kernel_rfl, ?hy148⟩) (by assumption) ?_
  case hy148 => intro w hSw; (try dsimp only at hSw); first | (go_simp; done) | (go_simp; with_reducible rfl)
  (try simp only [Act.put, List.setIfInBounds_toArray, List.set_cons_zero, List.set_cons_succ])
  refine wpAnyH_done (by kernel_rfl) ?_ _
  go_wp2
  go_ret
  exact ⟨rfl, HG5.out⟩

set_option linter.unusedSimpArgs false in
set_option maxRecDepth 100000 in
set_option maxHeartbeats 4000000 in
theorem bias9_any {k r : Nat} (hP : NetP zs ps q) (h : RN w sa sc pa pc zs ps) (hk : k < lnk zs) (hr : r < sz zs (k + 1)) :
    Calls Try.prog 52 #[.agg #[.slice sa zs.length sc, .slice pa ps.length pc, .int .i64 q], .int .i64 k, .int .i64 r] w fun e w' => e = .returned (.int .i64 (el ps (oB zs k + r))) ∧ Grew w w' := by
  have gA : Grew w (w.alloc (.cells #[.slice sa zs.length sc, .slice pa ps.length pc, .int .i64 q] 25)) := (Grew.refl w).alloc _
  have HT := Lib.hid (Three.new w 25 (.slice sa zs.length sc) (.slice pa ps.length pc) (.int .i64 q))
  have HR := Lib.hid (h.sr.grow gA)
  have HG := Lib.hid gA
  have hok := hP.right.2.2.1
  have hl := lnk_in hP.right
  have hin := oB_in hok hk
  have hnp := nP_in hP.right
  obtain ⟨pb, po, rfl, hpb, hpi⟩ := (h.pr.grow gA).at (k := oB zs k + r) (by rw [hP.len]; omega)
  have HW := Lib.hid (rgB_at hok hk)
  have HRt := Lib.hid hP.right
  have hpl := hP.len
  have hsc := h.scap
  have hsm := h.smax
  have hpc := h.pcap
  have hz16 : zs.length ≤ 16 := by omega
  obtain ⟨i, hi⟩ : ∃ i, oB zs k + r = i := ⟨_, rfl⟩
  have hw3 : IntKind.i64.wrap ((oB zs k : Int) + (r : Int)) = (i : Int) := by rw [show (oB zs k : Int) + (r : Int) = (i : Int) by omega]; exact IntWalk.i64_in _ (by omega)
  have hip : i < ps.length := by omega
  have hipi : (i : Int) < (ps.length : Int) := by omega
  rw [hi] at hpi ⊢
  have b0 := HT.out.c0
  have b1 := HT.out.c1
  have hlt := HT.out.lt
  have hfd := fun (w : World) (x y : Int) => field_lo9 w x y
  clear h gA hP hok hl hi hpl hk hr
  generalize el ps i = v at *
  go_enter Try.func52, Try.ntmps52
  go_wp2_with fail
  generalize w.alloc (.cells #[.slice sa zs.length sc, .slice (some ⟨pb, po, none⟩) ps.length pc, .int .i64 q] 25) = wv at *
  generalize w.heap.size = L at *
  refine wp_region_held_drew (S := (fun W' => Grew wv W' ∧ W'.cell? ⟨L, 0, none⟩ = some (.slice sa zs.length sc) ∧ W'.cell? ⟨L, 1, none⟩ = some (.slice (some ⟨pb, po, none⟩) ps.length pc) ∧ W'.cell? ⟨pb, po + i, none⟩ = some (.int .i64 v))) (by kernel_rfl) ⟨Grew.drew' (Grew.refl _), b0, b1, hpi⟩ (fun hHeld => ?_)
  refine wpAnyH_take (i := 0) (oi := { dst := some 7, op := Go.Op.fieldAddr 25 (Go.Operand.tmp 3) 1, type := 0, pos := _, after := #[], guard := none }) (v := ?v149) rfl (by kernel_rfl) (by kernel_rfl) (by kernel_rfl) (fun _ _ _ h => h) (Or.inl ⟨by kernel_rfl, ?hy149⟩) (by assumption) ?_
  case hy149 => intro w hSw; (try dsimp only at hSw); first | (go_simp; done) | (go_simp; with_reducible rfl)
  (try simp only [Act.put, List.setIfInBounds_toArray, List.set_cons_zero, List.set_cons_succ])
  refine wpAnyH_take (i := 1) (oi := { dst := some 8, op := Go.Op.load 23 (Go.Operand.tmp 7), type := 23, pos := _, after := #[{ on := 0, ground := Go.Ground.data }], guard := none }) (v := ?v150) rfl (by kernel_rfl) (by kernel_rfl) (by kernel_rfl) (fun _ _ _ h => h) (Or.inl ⟨by kernel_rfl, ?hy150⟩) (by assumption) ?_
  case hy150 => intro w hSw; (try dsimp only at hSw); first | (go_simp; done) | (go_simp; with_reducible rfl)
  (try simp only [Act.put, List.setIfInBounds_toArray, List.set_cons_zero, List.set_cons_succ])
  refine wpAnyH_take (i := 2) (oi := { dst := some 9, op := Go.Op.fieldAddr 25 (Go.Operand.tmp 3) 0, type := 0, pos := _, after := #[], guard := none }) (v := ?v151) rfl (by kernel_rfl) (by kernel_rfl) (by kernel_rfl) (fun _ _ _ h => h) (Or.inl ⟨by kernel_rfl, ?hy151⟩) (by assumption) ?_
  case hy151 => intro w hSw; (try dsimp only at hSw); first | (go_simp; done) | (go_simp; with_reducible rfl)
  (try simp only [Act.put, List.setIfInBounds_toArray, List.set_cons_zero, List.set_cons_succ])
  refine wpAnyH_take (i := 3) (oi := { dst := some 10, op := Go.Op.load 22 (Go.Operand.tmp 9), type := 22, pos := _, after := #[{ on := 2, ground := Go.Ground.data }], guard := none }) (v := ?v152) rfl (by kernel_rfl) (by kernel_rfl) (by kernel_rfl) (fun _ _ _ h => h) (Or.inl ⟨by kernel_rfl, ?hy152⟩) (by assumption) ?_
  case hy152 => intro w hSw; (try dsimp only at hSw); first | (go_simp; done) | (go_simp; with_reducible rfl)
  (try simp only [Act.put, List.setIfInBounds_toArray, List.set_cons_zero, List.set_cons_succ])
  refine wpAnyH_take (i := 4) (oi := { dst := some 11, op := Go.Op.move (Go.Operand.tmp 1), type := 3, pos := _, after := #[], guard := none }) (v := ?v153) rfl (by kernel_rfl) (by kernel_rfl) (by kernel_rfl) (fun _ _ _ h => h) (Or.inl ⟨by kernel_rfl, ?hy153⟩) (by assumption) ?_
  case hy153 => intro w hSw; (try dsimp only at hSw); first | (go_simp; done) | (go_simp; with_reducible rfl)
  (try simp only [Act.put, List.setIfInBounds_toArray, List.set_cons_zero, List.set_cons_succ])
  refine wpAnyH_take (i := 7) (oi := { dst := some 14, op := Go.Op.move (Go.Operand.tmp 2), type := 3, pos := _, after := #[], guard := none }) (v := ?v154) rfl (by kernel_rfl) (by kernel_rfl) (by kernel_rfl) (fun _ _ _ h => h) (Or.inl ⟨by kernel_rfl, ?hy154⟩) (by assumption) ?_
  case hy154 => intro w hSw; (try dsimp only at hSw); first | (go_simp; done) | (go_simp; with_reducible rfl)
  (try simp only [Act.put, List.setIfInBounds_toArray, List.set_cons_zero, List.set_cons_succ])
  refine wpAnyH_ready (rs := [5]) (by kernel_rfl) (by simp) ?_
  refine AllReadyH.cons (o := { dst := some 12, op := Go.Op.call { callee := Go.Callee.value (Go.Operand.func 73), args := #[Go.Operand.tmp 10, Go.Operand.tmp 11], argTypes := #[22, 3] }, type := 110, pos := _, after := #[{ on := 3, ground := Go.Ground.data }, { on := 4, ground := Go.Ground.data }], guard := none }) rfl (fun K hK => ?_) AllReadyH.nil
  go_simp
  (go_at_call 73; refine (rbiases_any _ sc zs (k : Int) _ rfl hsc hsm HRt.out (HR.out.grow (Grew.drew' (Grew.refl wv)))).mono ?_; rintro e w5 ⟨rfl, g5⟩; rw [HW.out]; have HG5 := Lib.hid ((HG.out.trans (Grew.drew' (Grew.refl wv))).trans g5))
  (try go_wp2_with fail)
  refine hK.out _ _ ?hS156 (fun hHeld => ?_)
  case hS156 => (try dsimp only); (obtain ⟨s0, s1, s2, s3⟩ := hHeld; exact ⟨s0.trans g5, kcG (g5.by' none) s1 (fun e => by cases e), kcG (g5.by' none) s2 (fun e => by cases e), kcG (g5.by' none) s3 (fun e => by cases e)⟩)
  clear hK K
  (try simp only [Act.put, List.setIfInBounds_toArray, List.set_cons_zero, List.set_cons_succ])
  refine wpAnyH_take (i := 6) (oi := { dst := some 13, op := Go.Op.field 110 (Go.Operand.tmp 12) 0, type := 3, pos := _, after := #[{ on := 5, ground := Go.Ground.data }], guard := none }) (v := ?v157) rfl (by kernel_rfl) (by kernel_rfl) (by kernel_rfl) (fun _ _ _ h => h) (Or.inl ⟨by kernel_rfl, ?hy157⟩) (by assumption) ?_
  case hy157 => intro w hSw; (try dsimp only at hSw); first | (go_simp; done) | (go_simp; with_reducible rfl)
  (try simp only [Act.put, List.setIfInBounds_toArray, List.set_cons_zero, List.set_cons_succ])
  refine wpAnyH_take (i := 8) (oi := { dst := some 15, op := Go.Op.binOp Go.BinOp.add 3 (Go.Operand.tmp 13) (Go.Operand.tmp 14) 3, type := 3, pos := _, after := #[{ on := 6, ground := Go.Ground.data }, { on := 7, ground := Go.Ground.data }], guard := none }) (v := ?v158) rfl (by kernel_rfl) (by kernel_rfl) (by kernel_rfl) (fun _ _ _ h => h) (Or.inl ⟨by kernel_rfl, ?hy158⟩) (by assumption) ?_
  case hy158 => intro w hSw; (try dsimp only at hSw); first | (go_simp; done) | (go_simp; with_reducible rfl)
  (try simp only [Act.put, List.setIfInBounds_toArray, List.set_cons_zero, List.set_cons_succ])
  refine wpAnyH_take (i := 9) (oi := { dst := some 16, op := Go.Op.indexAddr 23 (Go.Operand.tmp 8) (Go.Operand.tmp 15), type := 0, pos := _, after := #[{ on := 1, ground := Go.Ground.data }, { on := 8, ground := Go.Ground.data }], guard := none }) (v := ?v159) rfl (by kernel_rfl) (by kernel_rfl) (by kernel_rfl) (fun _ _ _ h => h) (Or.inl ⟨by kernel_rfl, ?hy159⟩) (by assumption) ?_
  case hy159 => intro w hSw; (try dsimp only at hSw); first | (go_simp; done) | (go_simp; with_reducible rfl)
  (try simp only [Act.put, List.setIfInBounds_toArray, List.set_cons_zero, List.set_cons_succ])
  refine wpAnyH_take (i := 10) (oi := { dst := some 17, op := Go.Op.load 2 (Go.Operand.tmp 16), type := 2, pos := _, after := #[{ on := 9, ground := Go.Ground.data }], guard := none }) (v := ?v160) rfl (by kernel_rfl) (by kernel_rfl) (by kernel_rfl) (fun _ _ _ h => h) (Or.inl ⟨by kernel_rfl, ?hy160⟩) (by assumption) ?_
  case hy160 => intro w hSw; (try dsimp only at hSw); first | (go_simp; done) | (go_simp; with_reducible rfl)
  (try simp only [Act.put, List.setIfInBounds_toArray, List.set_cons_zero, List.set_cons_succ])
  refine wpAnyH_take (i := 11) (oi := { dst := some 6, op := Go.Op.assign (Go.Operand.tmp 17), type := 2, pos := _, after := #[{ on := 10, ground := Go.Ground.data }, { on := 5, ground := Go.Ground.chain }, { on := 0, ground := Go.Ground.phase }, { on := 1, ground := Go.Ground.phase }, { on := 2, ground := Go.Ground.phase }, { on := 3, ground := Go.Ground.phase }, { on := 4, ground := Go.Ground.phase }, { on := 5, ground := Go.Ground.phase }, { on := 6, ground := Go.Ground.phase }, { on := 7, ground := Go.Ground.phase }, { on := 8, ground := Go.Ground.phase }, { on := 9, ground := Go.Ground.phase }, { on := 10, ground := Go.Ground.phase }], guard := none }) (v := ?v161) rfl (by kernel_rfl) (by kernel_rfl) (by kernel_rfl) (fun _ _ _ h => h) (Or.inl ⟨by kernel_rfl, ?hy161⟩) (by assumption) ?_
  case hy161 => intro w hSw; (try dsimp only at hSw); first | (go_simp; done) | (go_simp; with_reducible rfl)
  (try simp only [Act.put, List.setIfInBounds_toArray, List.set_cons_zero, List.set_cons_succ])
  refine wpAnyH_done (by kernel_rfl) ?_ _
  go_wp2
  go_ret
  exact ⟨rfl, HG5.out⟩
end
end Go.Proofs.Ytciocdjpgknihaa
