/- The small functions of package net: rectify, pairs, sums of a link, Params. Conditions: at most 2^20 elements, within the bounds of int64. -/
import Derived.Test.YtciocdjpgknihaaKb
namespace Go.Proofs.Ytciocdjpgknihaa
open Go.RowKit

set_option maxHeartbeats 1000000 in
theorem rectify_any {B n cap g : Nat} {zs : List Int} (w : World) (hn : n ≤ 1048576) (h : Buf B w (some ⟨g, 0, none⟩) n cap zs) :
    Calls Try.prog 51 #[.slice (some ⟨g, 0, none⟩) n cap] w fun e w' => (∃ v, e = .returned v) ∧ Buf B w' (some ⟨g, 0, none⟩) n cap (actK zs n) ∧ w.grownBy w' (some g) := by
  have HB0 := Lib.hid h
  have HL : Hid (zs.length = n) := Lib.hid h.len
  clear h
  go_enter Try.func51, Try.ntmps51
  go_wp2
  go_loopw [6] (fun i wr => ∃ k : Nat, k ≤ n ∧ i = .int .i64 k ∧ Hid (Buf B wr (some ⟨g, 0, none⟩) n cap (actK zs k)) ∧ Hid (w.grownBy wr (some g))) (fun i _ => n - (intOf i).toNat)
  case atStart => exact ⟨0, Nat.zero_le _, rfl, HB0, Lib.hid (grown_refl _ _)⟩
  case round =>
    obtain ⟨k, hk, rfl, HB, HW⟩ := hrel
    by_cases hlt : k < n
    · obtain ⟨g', e', _, hgl, hx, hf⟩ := HB.out.at hlt
      obtain rfl : g = g' := by injection e' with e'; injection e'
      rw [actK_el zs k (by rw [HL.out]; omega), if_neg (Nat.lt_irrefl k)] at hx
      have HS : Hid (actK zs (k + 1) = (actK zs k).set k (gateV (el zs k) (el zs k))) := Lib.hid rfl
      generalize el zs k = x at hx HS
      clear e'
      go_wp2_with fail
      refine (relu_any x _).mono ?_
      rintro e w1 ⟨rfl, rfl⟩
      generalize gateV x x = y at *
      go_wp2_with fail
      go_roundw
      case rel => exact ⟨k + 1, by omega, by go_num, Lib.hid (by rw [HS.out]; exact HB.out.set k _), Lib.hid (grownBy_trans HW.out (grownBy_setCell1 _ _ _))⟩
      case measure => simp [intOf]; omega
    · obtain rfl : k = n := by omega
      go_wp2
      go_end0
      exact ⟨⟨_, rfl⟩, HB.out, HW.out⟩

/-- What pairs has made once the first k pairs are done. -/
def pairK (F : Int → Int → Int) (xs ys : List Int) : Nat → List Int
  | 0 => List.replicate xs.length 0
  | k + 1 => (pairK F xs ys k).set k (F (el xs k) (el ys k))
theorem pairK_len (F : Int → Int → Int) (xs ys : List Int) : ∀ k, (pairK F xs ys k).length = xs.length
  | 0 => List.length_replicate
  | k + 1 => by simp only [pairK, List.length_set]; exact pairK_len F xs ys k
theorem pairK_el (F : Int → Int → Int) (xs ys : List Int) {j : Nat} : ∀ k, k ≤ xs.length → j < k → el (pairK F xs ys k) j = F (el xs j) (el ys j)
  | 0, _, h => absurd h (Nat.not_lt_zero _)
  | k + 1, hk, h => by
    simp only [pairK]
    by_cases e : k = j
    · subst e
      exact el_set_same _ (by rw [pairK_len]; omega)
    · rw [el_set_other _ e]
      exact pairK_el F xs ys k (by omega) (by omega)
def pairL (F : Int → Int → Int) (xs ys : List Int) : List Int := (List.range xs.length).map fun j => F (el xs j) (el ys j)
theorem pairK_all (F : Int → Int → Int) (xs ys : List Int) : pairK F xs ys xs.length = pairL F xs ys :=
  map_ext (pairK_len F xs ys _) (fun _ hj => pairK_el F xs ys _ (Nat.le_refl _) hj)

set_option maxHeartbeats 1000000 in
theorem pairs_any {gs : Nat} (heg : ∀ args w, (callFunc gs args).run Try.prog w = .ok (.enter gs args) w) {F : Int → Int → Int} (hF : ∀ a b w, Calls Try.prog gs #[.int .i64 a, .int .i64 b] w fun e w' => e = .returned (.int .i64 (F a b)) ∧ w = w')
    {n cx cy : Nat} {ax ay : Option Addr} {xs ys : List Int} (w : World) (hn : n ≤ 1048576) (hx : xs.length = n) (hy : ys.length = n) (rx : Rd w.heap.size w ax xs) (ry : Rd w.heap.size w ay ys) :
    Calls Try.prog 42 #[.func (.func gs) #[] #[], .slice ax n cx, .slice ay n cy] w fun e w' => (∃ g, e = .returned (.slice (some ⟨g, 0, none⟩) n n) ∧ Buf w.heap.size w' (some ⟨g, 0, none⟩) n n (pairL F xs ys)) ∧ Grew w w' := by
  have HX := Lib.hid rx
  have HY := Lib.hid ry
  have HXL := Lib.hid hx
  have HYL := Lib.hid hy
  have HF := Lib.hid hF
  have hmk := run_make_row' (P := Try.prog) 32 2 (.int .i64 0) 8 Try.underlying32 (by kernel_rfl) rfl .i64 .i64 n (by omega) (by omega)
  have HB0 : Hid (Buf w.heap.size (w.alloc (.cells (madeCells #[.int .i64 0] n) 2)) (some ⟨w.heap.size, 0, none⟩) n n (pairK F xs ys 0)) := Lib.hid (by have := Buf.made w n (by omega); rw [← hx] at this ⊢; exact this)
  have HG0 : Hid (Grew w (w.alloc (.cells (madeCells #[.int .i64 0] n) 2))) := Lib.hid ((Grew.refl w).alloc _)
  clear rx ry hx hy hF
  go_enter Try.func42, Try.ntmps42
  go_wp2
  go_loopw [15] (fun i wr => ∃ k : Nat, k ≤ n ∧ i = .int .i64 k ∧ Hid (Buf w.heap.size wr (some ⟨w.heap.size, 0, none⟩) n n (pairK F xs ys k)) ∧ Hid (Grew w wr)) (fun i _ => n - (intOf i).toNat)
  case atStart => exact ⟨0, Nat.zero_le _, rfl, HB0, HG0⟩
  case round =>
    obtain ⟨k, hk, rfl, HB, HG⟩ := hrel
    by_cases hlt : k < n
    · obtain ⟨b, off, rfl, _, hc⟩ := (Rd.below HX.out HG.out).at (k := k) (by rw [HXL.out]; exact hlt)
      obtain ⟨b', off', rfl, _, hc'⟩ := (Rd.below HY.out HG.out).at (k := k) (by rw [HYL.out]; exact hlt)
      obtain ⟨g, eg, hg, hgl, hx2, hfro⟩ := HB.out.at hlt
      obtain rfl : w.heap.size = g := by injection eg with eg; injection eg
      have HS : Hid (pairK F xs ys (k + 1) = (pairK F xs ys k).set k (F (el xs k) (el ys k))) := Lib.hid rfl
      generalize el xs k = x at *
      generalize el ys k = y at *
      clear eg
      go_wp2_with fail
      refine (HF.out x y _).mono ?_
      rintro e w2 ⟨rfl, rfl⟩
      generalize F x y = m at *
      go_wp2_with fail
      go_roundw
      case rel => exact ⟨k + 1, by omega, by go_num, Lib.hid (by rw [HS.out]; exact HB.out.set k _), Lib.hid (Below.setCell (p := ⟨w.heap.size, k, none⟩) HG.out (Nat.le_refl _) _)⟩
      case measure => simp [intOf]; omega
    · obtain rfl : k = n := by omega
      have HE : Hid (pairK F xs ys k = pairL F xs ys) := Lib.hid (by have := pairK_all F xs ys; rwa [HXL.out] at this)
      go_wp2
      go_ret
      exact ⟨⟨_, rfl, by rw [← HE.out]; exact HB.out⟩, HG.out⟩

theorem params_nil (w : World) : Calls Try.prog 14 #[.pointer none] w fun e w' => e = .returned (.slice none 0 0) ∧ w = w' := by
  go_enter Try.func14, Try.ntmps14
  go_wp2
  go_ret
  exact ⟨rfl, rfl⟩
theorem params_any {D b : Nat} {zs ps : List Int} {q : Int} {w : World} (hP : NetP zs ps q) (h : NetM D w b zs ps q) :
    Calls Try.prog 14 #[.pointer (some ⟨b, 0, none⟩)] w fun e w' => (∃ g, e = .returned (.slice (some ⟨g, 0, none⟩) (nP zs) (nP zs)) ∧ Buf w.heap.size w' (some ⟨g, 0, none⟩) (nP zs) (nP zs) ps) ∧ Grew w w' := by
  obtain ⟨h0, sb, P, la, lc, h1, h2, h3, h4⟩ := h
  have c1 := h1.c1
  have hcl := vclone_any (some ⟨P, 0, none⟩) (nP zs) ps w (by rw [hP.len]; have := nP_in hP.right; omega) h3.rd
  rw [hP.len] at hcl
  have HC := Lib.hid hcl
  clear h1 h2 h3 h4 hcl
  go_enter Try.func14, Try.ntmps14
  go_wp2_with fail
  refine HC.out.mono ?_
  rintro e w1 ⟨rfl, hb, g1⟩
  have HB := Lib.hid hb
  have HG := Lib.hid g1
  clear hb g1
  go_wp2
  go_ret
  exact ⟨⟨_, rfl, HB.out⟩, HG.out⟩

theorem vsum_two {n ca cb : Nat} {a b : Option Addr} {xs ys : List Int} (w : World) (hx : xs.length = n) (hy : ys.length = n) (h0 : 1 ≤ n) (hn : n ≤ 1048576) (rx : Rd w.heap.size w a xs) (ry : Rd w.heap.size w b ys) (fx : Fit xs) (fy : Fit ys) :
    Calls Try.prog 71 #[.slice (some ⟨w.heap.size, 0, none⟩) 2 2] (w.alloc (.cells #[.slice a n ca, .slice b n cb] 32)) fun e w' => (∃ g c, e = .returned (.tuple #[.slice (some ⟨g, 0, none⟩) n c, .bool true]) ∧ Buf w.heap.size w' (some ⟨g, 0, none⟩) n c (tot [⟨a, ca, xs⟩, ⟨b, cb, ys⟩] n)) ∧ Grew (w.alloc (.cells #[.slice a n ca, .slice b n cb] 32)) w' := by
  have hl := lot_two 32 w ⟨a, ca, xs⟩ ⟨b, cb, ys⟩ (by show xs.length ≤ _; omega) (by show ys.length ≤ _; omega) rx ry fx fy
  have hs := vsum_any _ _ _ _ hl
  have hok : okV [⟨a, ca, xs⟩, ⟨b, cb, ys⟩] = true := by rw [ok_two]; exact decide_eq_true (by show xs.length = ys.length; omega)
  have hsv : sumV [⟨a, ca, xs⟩, ⟨b, cb, ys⟩] = tot [⟨a, ca, xs⟩, ⟨b, cb, ys⟩] n := by rw [sumV_yes hok]; rw [va_zero, hx]
  rw [hok, hsv, tot_len] at hs
  have e1 : (Vec.mk a ca xs).zs.length = n := hx
  have e2 : (Vec.mk b cb ys).zs.length = n := hy
  rw [e1, e2] at hs
  refine hs.mono ?_
  rintro e w' ⟨⟨g, c, he, hb⟩, hg⟩
  obtain ⟨g', rfl, _⟩ := hb.at (k := 0) (by omega)
  exact ⟨⟨g', c, he, hb.mono (by simp)⟩, hg⟩

set_option maxHeartbeats 2000000 in
theorem sums_any {P k cv : Nat} {v : Option Addr} {zs ps vs : List Int} {q : Int} {w : World} (hR : Right zs) (hk : k < lnk zs) (hlen : ps.length = nP zs) (hfp : Fit ps) (hps : Rd w.heap.size w (some ⟨P, 0, none⟩) ps)
    (hv : vs.length = sz zs k) (hvr : Rd w.heap.size w v vs) (hvf : Fit vs) :
    Calls Try.prog 50 #[.agg #[.int .i64 (sz zs (k + 1)), .int .i64 (sz zs k), .slice (some ⟨P, oW zs k, none⟩) (sz zs (k + 1) * sz zs k : Nat) (nP zs - oW zs k : Nat), .slice (some ⟨P, oB zs k, none⟩) (sz zs (k + 1)) (nP zs - oB zs k : Nat)], .slice v (sz zs k) cv, .int .i64 q] w
      fun e w' => (∃ g c, e = .returned (.slice (some ⟨g, 0, none⟩) (sz zs (k + 1)) c) ∧ Buf w.heap.size w' (some ⟨g, 0, none⟩) (sz zs (k + 1)) c (sumL zs ps q k vs)) ∧ Grew w w' := by
  have hok := hR.2.2.1
  have hr := sz_in hok (k := k + 1) (by unfold lnk at hk; omega)
  have hc := sz_in hok (k := k) (by unfold lnk at hk; omega)
  have hin := oB_in hok hk
  have hob := oB_eq hok hk
  have hN := nP_in hR
  have HB1 : Hid (Four (w.alloc (.cells #[.int .i64 (sz zs (k + 1)), .int .i64 (sz zs k), .slice (some ⟨P, oW zs k, none⟩) (sz zs (k + 1) * sz zs k : Nat) (nP zs - oW zs k : Nat), .slice (some ⟨P, oB zs k, none⟩) (sz zs (k + 1)) (nP zs - oB zs k : Nat)] 70)) w.heap.size 70 (.int .i64 (sz zs (k + 1))) (.int .i64 (sz zs k)) (.slice (some ⟨P, oW zs k, none⟩) (sz zs (k + 1) * sz zs k : Nat) (nP zs - oW zs k : Nat)) (.slice (some ⟨P, oB zs k, none⟩) (sz zs (k + 1)) (nP zs - oB zs k : Nat))) := Lib.hid (Four.new _ _ _ _ _ _)
  have g0 : Grew w (w.alloc (.cells #[.int .i64 (sz zs (k + 1)), .int .i64 (sz zs k), .slice (some ⟨P, oW zs k, none⟩) (sz zs (k + 1) * sz zs k : Nat) (nP zs - oW zs k : Nat), .slice (some ⟨P, oB zs k, none⟩) (sz zs (k + 1)) (nP zs - oB zs k : Nat)] 70)) := (Grew.refl w).alloc _
  have HW := Lib.hid (seg_rd (hps.grow g0) (o := oW zs k) (n := sz zs (k + 1) * sz zs k) (by omega))
  have HB := Lib.hid (seg_rd (hps.grow g0) (o := oB zs k) (n := sz zs (k + 1)) (by omega))
  rw [Nat.zero_add] at HW HB
  have HV := Lib.hid (hvr.grow g0)
  have HG := Lib.hid g0
  have HS : Hid (∀ a b c d, tot [⟨a, c, mulL (seg ps (oW zs k) (sz zs (k + 1) * sz zs k)) (sz zs (k + 1)) (sz zs k) vs q⟩, ⟨b, d, seg ps (oB zs k) (sz zs (k + 1))⟩] (sz zs (k + 1)) = sumL zs ps q k vs) := Lib.hid (fun a b c d => sum_two zs ps q k vs a b c d)
  have HFW := Lib.hid (seg_fit hfp (oW zs k) (sz zs (k + 1) * sz zs k))
  have HFB := Lib.hid (seg_fit hfp (oB zs k) (sz zs (k + 1)))
  have HLW := Lib.hid (seg_len ps (oW zs k) (sz zs (k + 1) * sz zs k))
  have HLB := Lib.hid (seg_len ps (oB zs k) (sz zs (k + 1)))
  have HVL := Lib.hid hv
  have HVF := Lib.hid hvf
  have hcw : sz zs (k + 1) * sz zs k ≤ nP zs - oW zs k := by omega
  have hcb : sz zs (k + 1) ≤ nP zs - oB zs k := by omega
  have hcc : nP zs - oW zs k ≤ 1048576 := by omega
  have HML := Lib.hid (mul_len (seg ps (oW zs k) (sz zs (k + 1) * sz zs k)) (sz zs (k + 1)) (sz zs k) vs q)
  have HMF := Lib.hid (mul_fit (seg ps (oW zs k) (sz zs (k + 1) * sz zs k)) (sz zs (k + 1)) (sz zs k) vs q)
  clear hps hvr hvf hfp hv hR hk hok hlen hin hob hN g0
  generalize seg ps (oW zs k) (sz zs (k + 1) * sz zs k) = WL at *
  generalize seg ps (oB zs k) (sz zs (k + 1)) = BL at *
  generalize sumL zs ps q k vs = SL at *
  generalize nP zs - oW zs k = cw at *
  generalize nP zs - oB zs k = cb at *
  generalize oW zs k = ow at *
  generalize oB zs k = ob at *
  generalize sz zs (k + 1) = R at *
  generalize sz zs k = C at *
  have c0 := HB1.out.c0
  have c1 := HB1.out.c1
  have c2 := HB1.out.c2
  have hlt := HB1.out.lt
  go_enter Try.func50, Try.ntmps50
  go_wp2_with fail
  refine (mul_yes _ HLW.out HVL.out hr.1 hr.2 hc.1 hc.2 (show cw ≤ 9223372036854775807 by omega) hcw HW.out HV.out HFW.out HVF.out).mono ?_
  rintro e w1 ⟨⟨g, rfl, hb⟩, g1⟩
  have HP := Lib.hid (hb.rd)
  have HG1 := Lib.hid (HG.out.trans g1)
  have hf1 := HB1.out.grow g1
  have c3 := hf1.c3
  have hl1 := hf1.lt
  have HBr := Lib.hid (HB.out.grow g1)
  clear c0 c1 c2 hlt hb g1 hf1
  go_wp2_with fail
  refine (vsum_two w1 HML.out HLB.out hr.1 hr.2 HP.out HBr.out HMF.out HFB.out).mono ?_
  rintro e w2 ⟨⟨g', c', rfl, hb⟩, g2⟩
  rw [HS.out] at hb
  have HE := Lib.hid (hb.mono HG1.out.size)
  have HG2 := Lib.hid (HG1.out.trans (((Grew.refl w1).alloc _).trans g2))
  clear hb g2
  go_wp2
  go_ret
  exact ⟨⟨_, _, rfl, HE.out⟩, HG2.out⟩
end Go.Proofs.Ytciocdjpgknihaa
