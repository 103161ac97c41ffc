/- Package perm: cycle and Cycles. Condition: at most 2^44 numbers. -/
import Derived.Test.YthhhbopigehbhaaTo
import Derived.Test.YthhhbopigehbhaaTn
import Derived.Deep.LoopGhost
namespace Go.Proofs.Ythhhbopigehbhaa
open Go.RowKit
set_option linter.unusedVariables false

theorem info_int7 : (Try.prog.info? 3).map (fun i => (i.zero, i.size, i.bytes)) = some (some (.int .i64 0), 1, 8) := by kernel_rfl
theorem Mk.below {w w' : World} {b n B : Nat} {S : Int → Bool} (h : Mk w b n S) (g : Below B w w') (hb : b < B) : Mk w' b n S := by
  obtain ⟨D, ⟨es, clock, h1, r⟩, hS⟩ := h
  exact ⟨D, ⟨es, clock, (Below.block g b hb).trans h1, r⟩, hS⟩
theorem grownBy_below_after {w w1 w2 : World} {r : Option Nat} (h : w.grownBy w1 r) (g : Below w.heap.size w1 w2) : w.grownBy w2 r :=
  ⟨g.os.trans h.os, g.tape.trans h.tape, g.output.trans h.output, Nat.le_trans h.size g.size, fun j hj hr => (Below.block g j hj).trans (h.block j hj hr)⟩

set_option maxHeartbeats 2000000 in
theorem cycle_any {b cnt k : Nat} {S : Int → Bool} (a : Option Addr) (c : Nat) (zs : List Int) (w : World) (hl : zs.length ≤ 17592186044416) (hP : IsP zs) (hk : k < zs.length) (hfree : ∀ j : Nat, S (it zs k j) = false) (hm : Mk w b cnt S) (hc : cnt ≤ 17592186044416) (h : RdK .i64 w.heap.size w a zs) :
    Calls Try.prog 30 #[.map (some b), .int .i64 k, .slice a zs.length c] w fun e w' => (∃ a' c', e = .returned (.slice a' (per zs k) c') ∧ BufK .i64 3 w.heap.size w' a' (per zs k) c' (cyc zs k)) ∧ (∃ S', Mk w' b (cnt + per zs k) S' ∧ CInv zs S S' k (per zs k)) ∧ w.grownBy w' (some b) := by
  have hper := per_is hP hk
  have hp0 := hper.1
  have hpl := hper.2.1
  have HP := Lib.hid hP
  have HF := Lib.hid hfree
  have HX := Lib.hid h
  have HM0 := Lib.hid hm
  have hblt := hm.lt
  have HMap := Lib.hid hm.isMap
  have HCyc : Hid (cycTo zs k (per zs k) = cyc zs k) := Lib.hid rfl
  have HEnd := Lib.hid (fun S' => cInv_end (S := S) (S' := S') hP hk)
  obtain ⟨L, hL⟩ : ∃ L, L = per zs k := ⟨_, rfl⟩
  rw [← hL] at hp0 hpl HCyc HEnd ⊢
  have HLp := Lib.hid hL
  obtain ⟨i0, hi, hz0, hz1, hz2⟩ := info_parts info_int7
  clear hper hP hfree hm h hL
  go_enter Try.func30, Try.ntmps30
  go_wp2
  go_loopg [1, 7] L (fun r x v wr => ∃ m : Nat, m ≤ L ∧ r = L - m ∧ x = .int .i64 (it zs k m) ∧ Hid (wr.ownsRow w.heap.size 3 1 v m ((cycTo zs k m).map (Value.int .i64))) ∧ Hid (w.grownBy wr (some b)) ∧ ∃ S', Hid (Mk wr b (cnt + m) S') ∧ Hid (CInv zs S S' k m))
  case atStart => exact ⟨0, Nat.zero_le _, rfl, rfl, Lib.hid (World.ownsRow_nil _ _ _ _), Lib.hid (grown_refl _ _), S, HM0, Lib.hid (cInv_start S k)⟩
  case round =>
    obtain ⟨m, hm, rfl, rfl, HO, HG, S', HM, HC⟩ := hrel
    have hitn := it_lt HP.out hk m
    have hwf : (Lit.int .i64 (it zs k m)).wf = true := wf_in64 (by unfold In64; omega)
    have hlk := HM.out.look hwf
    by_cases hlt : m < L
    · rw [cInv_new HP.out hk HF.out (by rw [← HLp.out]; exact hlt) HC.out] at hlk
      obtain ⟨w2, hup, hm2, hg2⟩ := HM.out.mark (by unfold maxLen; omega) hwf
      have HC2 := Lib.hid (cInv_step HC.out)
      have HG2 := Lib.hid (grownBy_trans HG.out hg2)
      have hb2 := HM.out.isMap
      have HO2 := Lib.hid (own_kept HO.out hg2 (fun g e cur => by
        injection e with e
        subst e
        obtain ⟨es, clock, hx⟩ := hb2
        rw [hx]
        simp))
      have HM2 := Lib.hid hm2
      have HX2 := Lib.hid (HX.out.marked HMap.out HG2.out (Nat.le_refl _))
      have hs2 := HG2.out.size
      have HT := Lib.hid (cycTo_snoc zs k m)
      have hnext := it_el HP.out hk m
      have HNx := Lib.hid hnext
      obtain ⟨y, hy⟩ : ∃ y, y = it zs k m := ⟨_, rfl⟩
      rw [← hy] at hlk hup HT HM2 HC2 HNx hitn ⊢
      clear hm2 hg2 hb2 hwf hnext hy
      go_wp2_with (at_builtin; refine wpList_append_own _ rfl _ _ 22 rfl w.heap.size 3 i0 (.int .i64 0) 1 8 Try.underlying22 hi hz0 hz1 hz2 rfl (by decide) _ m _ rfl (HO2.out.alloc _) ⟨w2.heap.size, 0, none⟩ 1 1 [.int .i64 y] rfl ?qc1 ?qc2 ?qc3 ?qc4 ?qc5 ?qc6 ?_)
      case qc1 => rfl
      case qc2 => exact cell_one_at _ _ _
      case qc3 => intro u hu; simp only [List.mem_singleton] at hu; subst hu; rfl
      case qc4 => unfold maxLen; omega
      case qc5 => omega
      case qc6 => simp; omega
      intro v' w3 hown hgrow hnil
      have hb3 : Below w.heap.size w2 w3 := Below.grown ((Below.refl _ _).alloc hs2 _) hgrow (by simp; omega) (fun b hb => (World.ownsRow.lt HO2.out b hb).1)
      have HO3 : Hid (w3.ownsRow w.heap.size 3 1 v' (m + 1) ((cycTo zs k (m + 1)).map (Value.int .i64))) := Lib.hid (by rw [HT.out, List.map_append]; exact hown)
      have HM3 := Lib.hid (HM2.out.below hb3 hblt)
      have HG3 := Lib.hid (grownBy_below_after HG2.out hb3)
      obtain ⟨g, off, rfl, hg, hcell⟩ := (HX2.out.below hb3).at hitn
      rw [HNx.out] at hcell
      clear hown hgrow hnil hb3 hlk hup
      go_wp2
      go_roundg (L - (m + 1))
      case measure => omega
      case rel => exact ⟨m + 1, by omega, rfl, rfl, HO3, HG3, _, HM3, HC2⟩
    · obtain rfl : m = L := by omega
      have hE := HEnd.out S' HC.out
      rw [hE] at hlk
      obtain ⟨a2, c2, rfl, hbf⟩ := own_ints HO.out
      have HBf := Lib.hid hbf
      have HCf := Lib.hid HC.out
      clear hbf hE
      go_wp2
      go_ret
      exact ⟨⟨_, _, rfl, by rw [← HCyc.out]; exact HBf.out⟩, ⟨_, HM.out, HCf.out⟩, HG.out⟩

theorem cycles_no (a : Option Addr) (c : Nat) (zs : List Int) (w : World) (hl : zs.length ≤ 17592186044416) (hf : Fit zs) (h : RdK .i64 w.heap.size w a zs) (hv : validB zs = false) :
    Calls Try.prog 19 #[.slice a zs.length c] w fun e w' => e = .returned (.tuple #[.slice none 0 0, .bool false]) ∧ Grew w w' := by
  have hmm := run_makeMarks zs.length
  have g0 : Grew w (w.alloc (.map #[] 0)) := (Grew.refl w).alloc _
  have HX := Lib.hid (h.grow g0)
  have HM := Lib.hid (Mk.made w)
  have HG := Lib.hid g0
  have HV := Lib.hid hv
  clear h g0 hv
  go_enter Try.func19, Try.ntmps19
  go_wp2_with fail
  refine (perm_any a c zs _ hl hf HM.out HX.out).mono ?_
  rintro e w1 ⟨rfl, ⟨S1, hm1⟩, hg⟩
  rw [HV.out]
  have HG1 := Lib.hid (grew_marked HG.out hg (Nat.le_refl _))
  clear hg hm1
  go_wp2
  go_ret2
  exact ⟨rfl, HG1.out⟩

set_option maxHeartbeats 2000000 in
theorem cycles_yes (a : Option Addr) (c : Nat) (zs : List Int) (w : World) (hl0 : zs.length ≤ 4294967296) (hf : Fit zs) (h : RdK .i64 w.heap.size w a zs) (hv : IsP zs) :
    Calls Try.prog 19 #[.slice a zs.length c] w fun e w' => (∃ v, e = .returned (.tuple #[v, .bool true]) ∧ Lots w.heap.size w' v (cycs zs zs.length)) ∧ Grew w w' := by
  have hl : zs.length ≤ 17592186044416 := by omega
  have hmm := run_makeMarks zs.length
  have g0 : Grew w (w.alloc (.map #[] 0)) := (Grew.refl w).alloc _
  have HX := Lib.hid (h.grow g0)
  have HX0 := Lib.hid h
  have HM := Lib.hid (Mk.made w)
  have HG := Lib.hid g0
  have HP := Lib.hid hv
  have HV := Lib.hid (validB_yes hv)
  obtain ⟨i0, hi, hz0, hz1, hz2⟩ := info_parts info_rows
  clear h g0 hv
  go_enter Try.func19, Try.ntmps19
  go_wp2_with fail
  refine (perm_any a c zs _ hl hf HM.out HX.out).mono ?_
  rintro e w1 ⟨rfl, ⟨S1, hm1⟩, hg⟩
  rw [HV.out]
  have HG1 := Lib.hid (grew_marked HG.out hg (Nat.le_refl _))
  obtain ⟨w2, hcl, hm2, hg2⟩ := hm1.wipe
  have HM2 := Lib.hid hm2
  have HG2 := Lib.hid (grew_marked HG1.out hg2 (Nat.le_refl _))
  clear hg hm1 hm2 hg2
  go_wp2
  clear hcl hmm
  go_loopw [5, 17] (fun v i wr => ∃ k : Nat, k ≤ zs.length ∧ i = .int .i64 k ∧ Hid (Lots w.heap.size wr v (cycs zs k)) ∧ Hid (Grew w wr) ∧ ∃ S, Hid (Mk wr w.heap.size (cycs zs k).flatten.length S) ∧ Hid (SInv zs S k)) (fun _ i _ => zs.length - (intOf i).toNat)
  case atStart => exact ⟨0, Nat.zero_le _, rfl, Lib.hid (Lots.nil _ _), HG2, _, HM2, Lib.hid sInv_start⟩
  case round =>
    obtain ⟨k, hk, rfl, HL, HG3, S, HM3, HS⟩ := hrel
    by_cases hlt : k < zs.length
    · have hlk := HM3.out.look (x := k) (wf_in64 (by unfold In64; omega))
      have hls := sInv_ls HP.out hlt HS.out
      cases hb : S k with
      | true =>
        have HS' := Lib.hid (sInv_skip HS.out hb)
        rw [hb] at hlk hls
        have HE := Lib.hid (cycs_no hls)
        rw [← HE.out] at HL HM3
        clear hb hls
        go_wp2
        go_roundw
        case rel => exact ⟨k + 1, by omega, by go_num, HL, HG3, _, HM3, HS'⟩
        case measure => simp [intOf]; omega
      | false =>
        have hfree := sInv_free HP.out hlt HS.out hb
        have hle := cycs_le HP.out (k := k) (by omega)
        have hfew := cycs_few zs k
        rw [hb] at hlk hls
        have HE := Lib.hid (cycs_yes hls)
        have HFl : Hid ((cycs zs (k + 1)).flatten.length = (cycs zs k).flatten.length + per zs k) := Lib.hid (by rw [HE.out, List.flatten_append, List.length_append]; simp [cyc_len])
        have HCy := Lib.hid (cycle_any a c zs wr hl HP.out hlt hfree HM3.out (by omega) ((HX0.out.below HG3.out).mono HG3.out.size))
        have HCl := Lib.hid (cyc_len zs k)
        have HMap := Lib.hid HM3.out.isMap
        obtain ⟨L, hL⟩ : ∃ L, L = per zs k := ⟨_, rfl⟩
        have hLn := (per_is HP.out hlt).2.1
        have HLp := Lib.hid hL
        rw [← hL] at HCy HCl HFl hLn
        clear hb hls hfree hL
        go_wp2_with fail
        refine HCy.out.mono ?_
        rintro e w4 ⟨⟨a4, c4, rfl, hb4⟩, ⟨S4, hm4, hc4⟩, hg4⟩
        have hs3 := HG3.out.size
        have HG4 := Lib.hid (grew_marked HG3.out hg4 (Nat.le_refl _))
        have HM4 := Lib.hid hm4
        have hlots := HL.out.marked HMap.out hg4
        have HS4 := Lib.hid (sInv_cyc HP.out hlt HS.out (by rw [← HLp.out]; exact hc4))
        obtain ⟨A, C, h1, h2⟩ := hlots
        have H1 := Lib.hid h1
        have H2 := Lib.hid h2
        have HB4 : Hid (BufK .i64 3 0 w4 a4 (cyc zs k).length c4 (cyc zs k)) := Lib.hid (by rw [HCl.out]; exact hb4.mono (Nat.zero_le _))
        have hs4 := HG4.out.size
        have hbl := HM4.out.lt
        have HCy' := Lib.hid hb4.fits
        clear h1 h2 hb4 hm4 hc4 hg4 hlk HCy
        go_wp2_with (at_builtin; refine wpList_append_own _ rfl _ _ 40 rfl w.heap.size 22 i0 (.slice none 0 0) 1 24 Try.underlying40 hi hz0 hz1 hz2 rfl (by decide) _ (cycs zs k).length _ rfl (H1.out.alloc _) ⟨w4.heap.size, 0, none⟩ 1 1 [.slice a4 L c4] rfl ?qc1 ?qc2 ?qc3 ?qc4 ?qc5 ?qc6 ?_)
        case qc1 => rfl
        case qc2 => exact cell_one_at _ _ _
        case qc3 => intro u hu; simp only [List.mem_singleton] at hu; subst hu; rfl
        case qc4 => unfold maxLen; omega
        case qc5 => omega
        case qc6 => simp; omega
        intro v' w5 hown hgrow hnil
        have g0 : Grew w4 (w4.alloc (.cells #[.slice a4 L c4] 22)) := (Grew.refl _).alloc _
        have HL5 : Hid (Lots w.heap.size w5 v' (cycs zs (k + 1))) := Lib.hid (by
          rw [HE.out]
          exact Lots.snoc H1.out H2.out HB4.out g0 hgrow (by rw [HCl.out]; exact hown))
        have HG5 : Hid (Grew w w5) := Lib.hid (Below.grown (HG4.out.alloc _) hgrow (by simp; omega) (fun b hb => (World.ownsRow.lt H1.out b hb).1))
        have HM5 : Hid (Mk w5 w.heap.size (cycs zs (k + 1)).flatten.length S4) := Lib.hid (by
          rw [HFl.out]
          refine (HM4.out.grow g0).kept hgrow ?_
          intro e
          obtain ⟨cur, e2⟩ := own_type H1.out e.symm
          obtain ⟨es, clock, e3⟩ := HM4.out.isMap
          rw [e3] at e2
          cases e2)
        clear hown hgrow hnil g0
        go_wp2_with fail
        go_roundw
        case measure => simp [intOf]; omega
        case rel => exact ⟨k + 1, by omega, by go_num, HL5, HG5, _, HM5, HS4⟩
    · obtain rfl : k = zs.length := by omega
      go_wp2
      go_ret2
      exact ⟨⟨_, rfl, HL.out⟩, HG3.out⟩
end Go.Proofs.Ythhhbopigehbhaa
