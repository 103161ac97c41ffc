/-
  DataCopies: copies are the same and share no memory; two examples are the same exactly if their texts are. The listed tables hold what the program's start lays.
-/
import Derived.Test.YthdkanmpapioeaaDoorCards
import Derived.Test.YthdkanmpapioeaaDoorTie
import Derived.Test.YthdkanmpapioeaaDoorEc
import Derived.Test.YthdkanmpapioeaaDoorEw
import Derived.Test.YthdkanmpapioeaaDoorEl
import Derived.Test.YthdkanmpapioeaaDoorEm
import Derived.Test.YthdkanmpapioeaaDoorEn
import Derived.Deep.DeepHandedRow
import Derived.Lib.LaidTab
import Derived.Lay
import Derived.Stop.LaidErr
import Derived.Lib.ItoaNum
import Derived.WalkKit
import Derived.ProofKit
import Derived.OpenShut
import Derived.ShutString
import Derived.ChangeOld
import Derived.Below
import Derived.Lib.SmallJoins
namespace Go.Proofs.YthdkanmpapioeaaDoor.dataCopies
open Go.ChangeShapes Go.WideShapes Go.ChangeAt Go.RowKit Go.Shelf
open Go.ChangeMaps (open_string shut_string)
open Go.Proofs.YthdkanmpapioeaaDoor
set_option linter.unusedVariables false

theorem own : ownKnob Tryd.prog.godebug = none := by kernel_rfl
theorem laidOut : laidOutB Tryd.prog = true := by kernel_rfl

theorem few_two {e f : Ex} (h : fewE [e, f] = true) : (e.1.length ≤ 600 ∧ e.2.length ≤ 600) ∧ f.1.length ≤ 600 ∧ f.2.length ≤ 600 := ⟨(few_small h).2 0 (by simp), (few_small h).2 1 (by simp)⟩
def Four (W : World) (b : Nat) (x y x' y' : Value) : Prop := W.heap[b]? = some (.cells #[x, y, x', y'] 24 (0, 0))
theorem rdE_two {B b : Nat} {W : World} {xa ya xa' ya' : Option Addr} {xc yc xc' yc' : Nat} {e f : Ex} (h : Four W b (.slice xa e.1.length xc) (.slice ya e.2.length yc) (.slice xa' f.1.length xc') (.slice ya' f.2.length yc')) (hb : b < B) (hx : RdK .i64 B W xa e.1) (hy : RdK .i64 B W ya e.2) (hx' : RdK .i64 B W xa' f.1) (hy' : RdK .i64 B W ya' f.2) (h1 : xa = none → xc = 0) (h2 : ya = none → yc = 0) (h3 : xa' = none → xc' = 0) (h4 : ya' = none → yc' = 0) : RdE B W (some ⟨b, 0, none⟩) [e, f] := by
  have h' : W.heap[b]? = _ := h
  refine .inr ⟨b, 0, rfl, hb, fun j hj => ?_⟩
  rcases (by simp at hj; omega : j = 0 ∨ j = 1) with rfl | rfl
  · exact ⟨xa, xc, ya, yc, by simp [World.cell?, h']; rfl, by simp [World.cell?, h']; rfl, hx, hy, h1, h2⟩
  · exact ⟨xa', xc', ya', yc', by simp [World.cell?, h']; rfl, by simp [World.cell?, h']; rfl, hx', hy', h3, h4⟩
theorem Four.new (W : World) (x y x' y' : Value) : Four (W.alloc (.cells #[x, y, x', y'] 24)) W.heap.size x y x' y' := (MapKept.heap_alloc W _).1
/-- Two examples with a text are the same exactly if their texts are. -/
theorem same_text {e f : Ex} {l m : List UInt8} {p q : Bool} (ie : InE e) (jf : InE f) (h : exT e 4 = (l, p)) (k : exT f 4 = (m, q)) : p = false ∨ (p = true ∧ q = false) ∨ p = true ∧ q = true ∧ (l == m) = decide (e = f) := by
  by_cases he : exOk e 4
  · rw [exT_yes he] at h
    injection h with h1 h2
    by_cases hf : exOk f 4
    · rw [exT_yes hf] at k
      injection k with k1 k2
      subst h1 h2 k1 k2
      refine .inr (.inr ⟨rfl, rfl, ?_⟩)
      by_cases hs : e = f
      · subst hs; simp
      · rw [decide_eq_false hs]
        exact beq_eq_false_iff_ne.2 (fun h => hs (exL_inj he hf ie jf h))
    · rw [exT_no hf] at k
      injection k with _ k2
      exact .inr (.inl ⟨h2.symm, k2.symm⟩)
  · rw [exT_no he] at h
    injection h with _ h2
    exact .inl h2.symm

theorem gTab : Tryd.prog.globalNamed "internal/strconv.uint64pow10" = some 1 := by kernel_rfl
theorem gTabType : (Tryd.prog.globals[1]?).map (·.type) = some 140 := by kernel_rfl
theorem cellsTab : Tryd.prog.cellsOf 140 = 20 := by kernel_rfl
theorem cellsElem : Tryd.prog.cellsOf 81 = 1 := by kernel_rfl
theorem powTab : Lib.pow10Tab = [1, 10, 100, 1000, 10000, 100000, 1000000, 10000000, 100000000, 1000000000, 10000000000, 100000000000, 1000000000000, 10000000000000, 100000000000000, 1000000000000000, 10000000000000000, 100000000000000000, 1000000000000000000, 10000000000000000000] := by decide +kernel
/-- What the row's list gives: the table of powers of ten. -/
theorem table {W : World} (h0 : laidMetH Tryd.prog Rows.dataCopiesRow.laid W) : Lib.TabIs Tryd.prog W "internal/strconv.uint64pow10" .u64 Lib.pow10Tab := by
  have h : laidMet Tryd.prog Rows.dataCopiesRow.laid W := h0
  rw [powTab]
  exact Lib.tabIs_of_head (rest := _) gTab gTabType Tryd.underlying140 Tryd.underlying81 cellsElem cellsTab (h.tail.tail)

set_option maxRecDepth 100000 in
set_option maxHeartbeats 4000000 in
theorem walk (xa0 : Option Addr) (xc0 : Nat) (ya0 : Option Addr) (yc0 : Nat) (e0 : Ex) (xa1 : Option Addr) (xc1 : Nat) (ya1 : Option Addr) (yc1 : Nat) (e1 : Ex) (w : World) (w0 : CameX w xa0 xc0 ya0 yc0 e0) (w1 : CameX w xa1 xc1 ya1 yc1 e1)
    (hT : Lib.TabIs Tryd.prog w "internal/strconv.uint64pow10" .u64 Lib.pow10Tab) :
    Calls Tryd.prog 8 #[.agg #[.slice xa0 e0.1.length xc0, .slice ya0 e0.2.length yc0], .agg #[.slice xa1 e1.1.length xc1, .slice ya1 e1.2.length yc1]] w fun e w' => e = .returned (.bool true) ∧ Below w.heap.size w w' := by
  obtain ⟨⟨_, _, hm1, hr1, hf1, hn1⟩, ⟨_, _, hm2, hr2, hf2, hn2⟩⟩ := w0
  obtain ⟨⟨_, _, hm3, hr3, hf3, hn3⟩, ⟨_, _, hm4, hr4, hf4, hn4⟩⟩ := w1
  have hb1 : e0.1.length ≤ 9223372036854775807 := by unfold maxLen at hm1; omega
  have hb2 : e0.2.length ≤ 9223372036854775807 := by unfold maxLen at hm2; omega
  have hb3 : e1.1.length ≤ 9223372036854775807 := by unfold maxLen at hm3; omega
  have hb4 : e1.2.length ≤ 9223372036854775807 := by unfold maxLen at hm4; omega
  have HI : Hid (InE e0 ∧ InE e1) := Lib.hid ⟨⟨hf1, hf2⟩, hf3, hf4⟩
  have g0 : Grew w (((w.alloc (.cells #[.slice xa0 e0.1.length xc0, .slice ya0 e0.2.length yc0] 24)).alloc (.cells #[.slice xa1 e1.1.length xc1, .slice ya1 e1.2.length yc1] 24)).alloc (.cells #[.slice xa0 e0.1.length xc0, .slice ya0 e0.2.length yc0, .slice xa1 e1.1.length xc1, .slice ya1 e1.2.length yc1] 24)) := (((Grew.refl w).alloc _).alloc _).alloc _
  have t1 := ((Two.new w 24 (.slice xa0 e0.1.length xc0) (.slice ya0 e0.2.length yc0)).alloc (.cells #[.slice xa1 e1.1.length xc1, .slice ya1 e1.2.length yc1] 24)).alloc (.cells #[.slice xa0 e0.1.length xc0, .slice ya0 e0.2.length yc0, .slice xa1 e1.1.length xc1, .slice ya1 e1.2.length yc1] 24)
  have t2 := (Two.new (w.alloc (.cells #[.slice xa0 e0.1.length xc0, .slice ya0 e0.2.length yc0] 24)) 24 (.slice xa1 e1.1.length xc1) (.slice ya1 e1.2.length yc1)).alloc (.cells #[.slice xa0 e0.1.length xc0, .slice ya0 e0.2.length yc0, .slice xa1 e1.1.length xc1, .slice ya1 e1.2.length yc1] 24)
  have t3 := Four.new ((w.alloc (.cells #[.slice xa0 e0.1.length xc0, .slice ya0 e0.2.length yc0] 24)).alloc (.cells #[.slice xa1 e1.1.length xc1, .slice ya1 e1.2.length yc1] 24)) (.slice xa0 e0.1.length xc0) (.slice ya0 e0.2.length yc0) (.slice xa1 e1.1.length xc1) (.slice ya1 e1.2.length yc1)
  simp only [World.size_alloc] at t2 t3
  have HN : Hid (((xa0 = none → xc0 = 0) ∧ (ya0 = none → yc0 = 0)) ∧ (xa1 = none → xc1 = 0) ∧ (ya1 = none → yc1 = 0)) := Lib.hid ⟨⟨hn1, hn2⟩, hn3, hn4⟩
  have T1 := Lib.hid t1
  have T2 := Lib.hid t2
  have R1 := Lib.hid (hr1.grow g0)
  have R2 := Lib.hid (hr2.grow g0)
  have R3 := Lib.hid (hr3.grow g0)
  have R4 := Lib.hid (hr4.grow g0)
  have RE := Lib.hid (rdE_two t3 (B := (((w.alloc (.cells #[.slice xa0 e0.1.length xc0, .slice ya0 e0.2.length yc0] 24)).alloc (.cells #[.slice xa1 e1.1.length xc1, .slice ya1 e1.2.length yc1] 24)).alloc (.cells #[.slice xa0 e0.1.length xc0, .slice ya0 e0.2.length yc0, .slice xa1 e1.1.length xc1, .slice ya1 e1.2.length yc1] 24)).heap.size) (by simp) R1.out R2.out R3.out R4.out hn1 hn2 hn3 hn4)
  have HG0 := Lib.hid g0
  have HLE : Hid (LenE [e0, e1]) := Lib.hid (fun k hk => by
    rcases (by simp at hk; omega : k = 0 ∨ k = 1) with rfl | rfl
    · exact ⟨hb1, hb2⟩
    · exact ⟨hb3, hb4⟩)
  clear g0 t1 t2 t3 hr1 hr2 hr3 hr4 hf1 hf2 hf3 hf4 hn1 hn2 hn3 hn4 hm1 hm2 hm3 hm4
  cases hf : fewE [e0, e1] with
  | false =>
    have HF := Lib.hid hf
    clear hf
    go_enter Tryd.func8, Tryd.ntmps8

    go_wp2_with fail
    generalize ((w.alloc (.cells #[.slice xa0 e0.1.length xc0, .slice ya0 e0.2.length yc0] 24)).alloc (.cells #[.slice xa1 e1.1.length xc1, .slice ya1 e1.2.length yc1] 24)).alloc (.cells #[.slice xa0 e0.1.length xc0, .slice ya0 e0.2.length yc0, .slice xa1 e1.1.length xc1, .slice ya1 e1.2.length yc1] 24) = W0 at *
    generalize w.heap.size = b0 at *
    refine (rfewE_any (some ⟨b0 + 2, 0, none⟩) 2 [e0, e1] W0 (by simp) HLE.out RE.out).mono ?_
    rintro u w1 ⟨rfl, g1⟩
    rw [HF.out]
    have HG1 := Lib.hid g1
    clear g1 RE
    go_wp2_with fail
    refine (aliveE_any _ (tab_below hT (Nat.le_refl _) (HG0.out.trans HG1.out))).mono ?_
    rintro u w2 ⟨rfl, g2⟩
    go_wp2
    go_ret
    exact ⟨rfl, HG0.out.trans (HG1.out.trans g2)⟩
  | true =>
    have hq := few_two hf
    have hsm := few_sm hf
    have HF := Lib.hid hf
    have HSM := Lib.hid hsm
    clear hf hsm
    obtain ⟨⟨hl1, hl2⟩, hl3, hl4⟩ := hq
    obtain ⟨tl, ok, hx⟩ : ∃ tl ok, exT e0 4 = (tl, ok) := ⟨_, _, rfl⟩
    obtain ⟨tm, om, hy⟩ : ∃ tl ok, exT e1 4 = (tl, ok) := ⟨_, _, rfl⟩
    obtain ⟨d, hd⟩ : ∃ d, decide (e0 = e1) = d := ⟨_, rfl⟩
    have HCASE := Lib.hid (same_text HI.out.1 HI.out.2 hx hy)
    have HX := Lib.hid hx
    have HY := Lib.hid hy
    have HD := Lib.hid hd
    clear hx hy hd
    go_enter Tryd.func8, Tryd.ntmps8

    go_wp2_with fail
    generalize ((w.alloc (.cells #[.slice xa0 e0.1.length xc0, .slice ya0 e0.2.length yc0] 24)).alloc (.cells #[.slice xa1 e1.1.length xc1, .slice ya1 e1.2.length yc1] 24)).alloc (.cells #[.slice xa0 e0.1.length xc0, .slice ya0 e0.2.length yc0, .slice xa1 e1.1.length xc1, .slice ya1 e1.2.length yc1] 24) = W0 at *
    generalize w.heap.size = b0 at *
    refine (rfewE_any (some ⟨b0 + 2, 0, none⟩) 2 [e0, e1] W0 (by simp) HLE.out RE.out).mono ?_
    rintro u w1 ⟨rfl, g1⟩
    rw [HF.out]
    have HG1 := Lib.hid g1
    clear g1 RE

    have t1 := T1.out.grow HG1.out
    have t2 := T2.out.grow HG1.out
    have c0 := t1.c0
    have c1 := t1.c1
    have d0 := t2.c0
    have d1 := t2.c1
    clear t1 t2

    go_wp2_with fail
    refine (rsameE_any e0 e1 xa0 ya0 xa1 ya1 xc0 yc0 xc1 yc1 w1 (by omega) (by omega) (by omega) (by omega) (R1.out.grow HG1.out) (R2.out.grow HG1.out) (R3.out.grow HG1.out) (R4.out.grow HG1.out)).mono ?_
    rintro u wa ⟨rfl, ga⟩
    rw [HD.out]
    have HGa := Lib.hid (HG1.out.trans ga)
    clear ga c0 c1 d0 d1

    have t1 := T1.out.grow HGa.out
    have t2 := T2.out.grow HGa.out
    have c0 := t1.c0
    have c1 := t1.c1
    have d0 := t2.c0
    have d1 := t2.c1
    clear t1 t2

    go_wp2_with fail
    refine (dText_any xa0 ya0 xc0 yc0 e0 4 wa rfl rfl (by omega) (by omega) HI.out.1 (R1.out.grow HGa.out) (R2.out.grow HGa.out) (tab_below hT (Nat.le_refl _) (HG0.out.trans HGa.out))).mono ?_
    rintro u wb ⟨rfl, gb⟩
    rw [HX.out]
    have HGb := Lib.hid (HGa.out.trans gb)
    clear gb c0 c1 d0 d1

    have t1 := T1.out.grow HGb.out
    have t2 := T2.out.grow HGb.out
    have c0 := t1.c0
    have c1 := t1.c1
    have d0 := t2.c0
    have d1 := t2.c1
    clear t1 t2

    go_wp2_with fail
    refine (dText_any xa1 ya1 xc1 yc1 e1 4 wb rfl rfl (by omega) (by omega) HI.out.2 (R3.out.grow HGb.out) (R4.out.grow HGb.out) (tab_below hT (Nat.le_refl _) (HG0.out.trans HGb.out))).mono ?_
    rintro u wc ⟨rfl, gc⟩
    rw [HY.out]
    have HGc := Lib.hid (HGb.out.trans gc)
    clear gc c0 c1 d0 d1

    have t1 := T1.out.grow HGc.out
    have t2 := T2.out.grow HGc.out
    have c0 := t1.c0
    have c1 := t1.c1
    have d0 := t2.c0
    have d1 := t2.c1
    clear t1 t2

    have gA : Grew wc (wc.alloc (.cells #[.slice xa0 e0.1.length xc0, .slice ya0 e0.2.length yc0, .slice xa1 e1.1.length xc1, .slice ya1 e1.2.length yc1] 24)) := (Grew.refl _).alloc _
    have t3 := Four.new wc (.slice xa0 e0.1.length xc0) (.slice ya0 e0.2.length yc0) (.slice xa1 e1.1.length xc1) (.slice ya1 e1.2.length yc1)
    have HGd := Lib.hid (HGc.out.trans gA)
    have HYd := Lib.hid (rdE_two t3 (B := (wc.alloc (.cells #[.slice xa0 e0.1.length xc0, .slice ya0 e0.2.length yc0, .slice xa1 e1.1.length xc1, .slice ya1 e1.2.length yc1] 24)).heap.size) (by simp) (R1.out.grow HGd.out) (R2.out.grow HGd.out) (R3.out.grow HGd.out) (R4.out.grow HGd.out) HN.out.1.1 HN.out.1.2 HN.out.2.1 HN.out.2.2)
    clear t3 gA
    go_wp2_with fail
    generalize wc.alloc (.cells #[.slice xa0 e0.1.length xc0, .slice ya0 e0.2.length yc0, .slice xa1 e1.1.length xc1, .slice ya1 e1.2.length yc1] 24) = wd at *
    generalize wc.heap.size = bd at *
    refine (rcloneE_any (some ⟨bd, 0, none⟩) 2 [e0, e1] wd rfl HSM.out HYd.out).mono ?_
    rintro u w2 ⟨⟨v, rs, rfl, hrs, hlo, hoo⟩, g2⟩
    obtain ⟨va, vc, rfl, _, _⟩ := hlo.form
    have HLO := Lib.hid hlo
    have HOO := Lib.hid hoo
    have HG2 := Lib.hid (HGd.out.trans g2)
    have HRE := Lib.hid (hlo.rdE hoo.rd)
    have HSMR : Hid (SmE (rs.map Prod.snd)) := Lib.hid (by rw [hrs]; exact HSM.out)
    have HRS := Lib.hid hrs
    have HB0 : Hid (W0.heap.size ≤ wd.heap.size) := Lib.hid HGd.out.size
    have hrl : rs.length ≤ 100 := by
      have h := HSMR.out.1
      rw [List.length_map] at h
      exact h
    have HLEN : Hid (∀ (j : Nat) (r : Pl × Ex), rs[j]? = some r → r.2.1.length ≤ 1000 ∧ r.2.2.length ≤ 1000) := Lib.hid (fun j r hj => by
      have h := HSMR.out.2 j (by rw [List.length_map]; exact (List.getElem?_eq_some_iff.1 hj).1)
      unfold lx ly at h
      rw [ex_map rs hj] at h
      exact h)
    clear hrs hlo hoo g2 HYd c0 c1 d0 d1
    go_wp2_with fail
    refine (dcloneE_any va vc (rs.map Prod.snd) w2 (by rw [List.length_map]) HSMR.out HRE.out).mono ?_
    rintro u w4 ⟨⟨v3, rs3, rfl, hrs3, hl3, ho3⟩, g4⟩
    obtain ⟨xa, xc, rfl, _, _⟩ := hl3.form
    have HX4 := Lib.hid hl3
    have HXO4 := Lib.hid ho3
    have HSAME : Hid (rs3.map Prod.snd = [e0, e1]) := Lib.hid (hrs3.trans HRS.out)
    have HSM3 : Hid (SmE (rs3.map Prod.snd)) := Lib.hid (by rw [HSAME.out]; exact HSM.out)
    have HG4 := Lib.hid (HG2.out.trans g4)
    obtain ⟨G, hva, hmu⟩ := Mut.start HLO.out HOO.out g4
    have HVA := Lib.hid hva
    have HMU := Lib.hid hmu
    clear hl3 ho3 hrs3 g4 hva hmu HLO HOO HRE HRS HSMR HG2 HGa HGb HGc HGd HG1
    generalize wd.heap.size = B0 at *
    generalize w2.heap.size = D at *

    go_wp2
    go_loopw [42] (fun i wr => ∃ k : Nat, k ≤ rs.length ∧ i = .int .i64 (k : Int) ∧ Hid (Mut B0 D G w4 wr rs)) (fun i _ => rs.length - (intOf i).toNat)
    case atStart => exact ⟨0, Nat.zero_le _, rfl, HMU⟩
    case round =>
      rename World => wr
      clear HMU
      obtain ⟨k, hk, rfl, HMU⟩ := hrel
      by_cases hlt : k < rs.length
      · obtain ⟨r, hrk⟩ : ∃ r, rs[k]? = some r := ⟨_, List.getElem?_eq_getElem hlt⟩
        obtain rfl := HVA.out (by omega)
        obtain ⟨k0, k1⟩ := HMU.out.row k r hrk
        have hGl := World.block_lt_of_cell? wr _ k0
        have HMU1 := HMU
        obtain ⟨hlx, hly⟩ := HLEN.out k r hrk
        go_wp2
        go_loopw [51] (fun i wi => ∃ t : Nat, t ≤ r.2.1.length ∧ i = .int .i64 (t : Int) ∧ Hid (Mut B0 D G w4 wi rs)) (fun i _ => r.2.1.length - (intOf i).toNat)
        case atStart => exact ⟨0, Nat.zero_le _, rfl, HMU1⟩
        case round =>
          clear k0 k1 hGl HMU1 HMU
          rename World => wi
          obtain ⟨t, ht, rfl, HMt⟩ := hrel
          obtain ⟨k0, k1⟩ := HMt.out.row k r hrk
          have hGl := World.block_lt_of_cell? wi _ k0
          by_cases htl : t < r.2.1.length
          · obtain ⟨g, z, hga, hg1, hg2, hg3, hcz, hfz⟩ := (HMt.out.ints k r hrk).1.at htl
            have HST := Lib.hid (fun y => HMt.out.set (t := t) hg1 hg2 hg3 y)
            have HGA := Lib.hid hga
            rw [hga] at k0
            clear hga
            generalize r.2.1.length = m1 at *
            go_wp2
            go_roundw
            case rel => exact ⟨t + 1, by omega, by go_num, Lib.hid (HST.out _)⟩
            case measure => simp [intOf]; omega
          · obtain rfl : t = r.2.1.length := by omega
            have HMU2 := HMt
            go_wp2
            go_loopw [71] (fun i wi => ∃ t : Nat, t ≤ r.2.2.length ∧ i = .int .i64 (t : Int) ∧ Hid (Mut B0 D G w4 wi rs)) (fun i _ => r.2.2.length - (intOf i).toNat)
            case atStart => exact ⟨0, Nat.zero_le _, rfl, HMU2⟩
            case round =>
              clear k0 k1 hGl HMU2 HMt
              rename World => wj
              obtain ⟨t, ht, rfl, HMt⟩ := hrel
              obtain ⟨k0, k1⟩ := HMt.out.row k r hrk
              have hGl := World.block_lt_of_cell? wj _ k0
              by_cases htl : t < r.2.2.length
              · obtain ⟨g, z, hga, hg1, hg2, hg3, hcz, hfz⟩ := (HMt.out.ints k r hrk).2.at htl
                have HST := Lib.hid (fun y => HMt.out.set (t := t) hg1 hg2 hg3 y)
                rw [hga] at k1
                clear hga
                generalize r.2.2.length = m2 at *
                go_wp2
                go_roundw
                case rel => exact ⟨t + 1, by omega, by go_num, Lib.hid (HST.out _)⟩
                case measure => simp [intOf]; omega
              · obtain rfl : t = r.2.2.length := by omega
                go_wp2
                go_roundw
                case rel => exact ⟨k + 1, by omega, by go_num, HMt⟩
                case measure => simp [intOf]; omega
      · obtain rfl : k = rs.length := by omega
        have HMD := Lib.hid HMU.out.mid
        have HGW : Hid (Grew W0 wr) := Lib.hid (HG4.out.trans_below HMD.out.below HB0.out)
        have HX5 := Lib.hid (LotE.rdE (HMD.out.lot HX4.out) (HMD.out.own HXO4.out).rd)
        clear HMU HMD
        go_wp2_with fail
        refine (aliveE_any _ (tab_below hT (Nat.le_refl _) (HG0.out.trans HGW.out))).mono ?_
        rintro u w6 ⟨rfl, g6⟩
        have HX6 := Lib.hid (HX5.out.grow g6)
        have HG6 := Lib.hid (HGW.out.trans g6)
        clear g6 HX5

        have t1 := T1.out.grow HG6.out
        have t2 := T2.out.grow HG6.out
        have c0 := t1.c0
        have c1 := t1.c1
        have d0 := t2.c0
        have d1 := t2.c1
        clear t1 t2

        go_wp2_with fail
        refine (dsame_any e0 e1 xa0 ya0 xa1 ya1 xc0 yc0 xc1 yc1 w6 (by omega) (by omega) (by omega) (by omega) (R1.out.grow HG6.out) (R2.out.grow HG6.out) (R3.out.grow HG6.out) (R4.out.grow HG6.out)).mono ?_
        rintro u w7 ⟨rfl, g7⟩
        rw [HD.out]
        have HX7 := Lib.hid (HX6.out.grow g7)
        have HG7 := Lib.hid (HG6.out.trans g7)
        clear g7 HX6 c0 c1 d0 d1

        have t1 := T1.out.grow HG7.out
        have t2 := T2.out.grow HG7.out
        have c0 := t1.c0
        have c1 := t1.c1
        have d0 := t2.c0
        have d1 := t2.c1
        clear t1 t2

        go_wp2_with fail
        refine (dsame_any e0 e0 xa0 ya0 xa0 ya0 xc0 yc0 xc0 yc0 w7 (by omega) (by omega) (by omega) (by omega) (R1.out.grow HG7.out) (R2.out.grow HG7.out) (R1.out.grow HG7.out) (R2.out.grow HG7.out)).mono ?_
        rintro u w8 ⟨rfl, g8⟩
        rw [decide_eq_true rfl]
        have HX8 := Lib.hid (HX7.out.grow g8)
        have HG8 := Lib.hid (HG7.out.trans g8)
        clear g8 HX7 c0 c1 d0 d1

        have t1 := T1.out.grow HG8.out
        have t2 := T2.out.grow HG8.out
        have c0 := t1.c0
        have c1 := t1.c1
        have d0 := t2.c0
        have d1 := t2.c1
        clear t1 t2

        have gA : Grew w8 (w8.alloc (.cells #[.slice xa0 e0.1.length xc0, .slice ya0 e0.2.length yc0, .slice xa1 e1.1.length xc1, .slice ya1 e1.2.length yc1] 24)) := (Grew.refl _).alloc _
        have t3 := Four.new w8 (.slice xa0 e0.1.length xc0) (.slice ya0 e0.2.length yc0) (.slice xa1 e1.1.length xc1) (.slice ya1 e1.2.length yc1)
        have HG9 := Lib.hid (HG8.out.trans gA)
        have HX9 := Lib.hid (HX8.out.grow gA)
        have HY9 := Lib.hid (rdE_two t3 (B := (w8.alloc (.cells #[.slice xa0 e0.1.length xc0, .slice ya0 e0.2.length yc0, .slice xa1 e1.1.length xc1, .slice ya1 e1.2.length yc1] 24)).heap.size) (by simp) (R1.out.grow HG9.out) (R2.out.grow HG9.out) (R3.out.grow HG9.out) (R4.out.grow HG9.out) HN.out.1.1 HN.out.1.2 HN.out.2.1 HN.out.2.2)
        clear t3 gA HX8
        go_wp2_with fail
        generalize w8.alloc (.cells #[.slice xa0 e0.1.length xc0, .slice ya0 e0.2.length yc0, .slice xa1 e1.1.length xc1, .slice ya1 e1.2.length yc1] 24) = W9 at *
        generalize w8.heap.size = b9 at *
        refine (rsameAll_any xa (some ⟨b9, 0, none⟩) xc 2 (rs3.map Prod.snd) [e0, e1] W9 (by rw [List.length_map]) rfl HSM3.out HSM.out HX9.out HY9.out).mono ?_
        rintro u w10 ⟨rfl, g10⟩
        rw [decide_eq_true HSAME.out]
        have HG10 := Lib.hid (HG9.out.trans g10)
        clear g10 c0 c1 d0 d1
        rcases HCASE.out with rfl | ⟨rfl, rfl⟩ | ⟨rfl, rfl, t1⟩
        · go_wp2
          go_ret
          exact ⟨ret_bool (by simp), HG0.out.trans HG10.out⟩
        · go_wp2
          go_ret
          exact ⟨ret_bool (by simp), HG0.out.trans HG10.out⟩
        · rw [HD.out] at t1
          go_wp2
          go_ret
          exact ⟨ret_bool (by simp), HG0.out.trans HG10.out⟩

/-- The listed variables hold what they list in a world where the program's start has laid them. -/
theorem laid_met (os : Os) : laidMet Tryd.prog Rows.dataCopiesRow.laid ((World.laidAll Tryd.prog os Rows.dataCopiesRow.laid).forCall (fun _ _ => 0) ⟨#[], #[.agg #[.slice none 0 0, .slice none 0 0], .agg #[.slice none 0 0, .slice none 0 0]], []⟩).memory :=
  laidMet_of_run' 8 (by kernel_rfl) (by kernel_rfl)
theorem reads (os : Os) {H : Type} (enc : TypeId × Value → H) : ∃ places, DataW.whole enc Tryd.prog ((World.laidAll Tryd.prog os Rows.dataCopiesRow.laid).forCall (fun _ _ => 0) ⟨#[], #[.agg #[.slice none 0 0, .slice none 0 0], .agg #[.slice none 0 0, .slice none 0 0]], []⟩).memory Tryd.f8.params.toList Rows.dataCopiesSpec.vars false (#[.agg #[.slice none 0 0, .slice none 0 0], .agg #[.slice none 0 0, .slice none 0 0]] : Array Value).toList 8 = some ([.agg [.nil, .nil], .agg [.nil, .nil]], [], places) :=
  ⟨[], by kernel_rfl⟩

set_option maxRecDepth 100000 in
theorem lifted (os : Os) (started : os.Started) (H : Type) (enc : TypeId × Value → H) (F : Stop.Interp) :
    ReturnsInHanded {} Tryd.checked os 8 .any ((OpenSpec.ofChange Rows.dataCopiesSpec).preRow enc Tryd.prog Tryd.f8 Rows.dataCopiesRow.domain false Rows.dataCopiesRow.laid) (((OpenSpec.ofChange Rows.dataCopiesSpec).at F).post enc Tryd.prog Tryd.f8 false true false false) := by
  obtain ⟨places, hx⟩ := reads os enc
  refine returnsInHanded_of_row (C := Tryd.checked) (s := (OpenSpec.ofChange Rows.dataCopiesSpec)) own started (by kernel_rfl) Tryd.func8
    (witness_row_at (enc := enc) (C := Tryd.checked) false (World.laidAll Tryd.prog os Rows.dataCopiesRow.laid) #[.agg #[.slice none 0 0, .slice none 0 0], .agg #[.slice none 0 0, .slice none 0 0]] rfl (by kernel_rfl) (by kernel_rfl) (by kernel_rfl)
      (OpenSpec.preRow_of_cond 8 hx (by kernel_rfl) (fun k hk => by cases hk) (by kernel_rfl) (laid_met os))) ?_
  intro W base args ds gs before hval0 hW _ _ hsz0 hL hsh _
  have hval : ∀ (j : Nat) t v, Tryd.f8.params[j]? = some t → args[j]? = some v → Value.okWide Tryd.prog W .any base t v := hval0
  have hW' := hW
  obtain ⟨p, q, hA0, hV, rfl, hfz, hnd⟩ := hW
  have hA : DataW.TrodAll enc Tryd.prog W 0 (fun _ => true) true Tryd.f8.params.toList args.toList ds p := hA0
  rw [Tryd.params8] at hA hval
  obtain ⟨v0, vs0, d0, ds0, p0, q0, hargs, rfl, rfl, h0, r0⟩ := trodAll_cons hA
  obtain ⟨v1, vs1, d1, ds1, p1, q1, rfl, rfl, rfl, h1, r1⟩ := trodAll_cons r0
  obtain ⟨rfl, rfl, rfl⟩ := trodAll_nil r1
  obtain rfl : args = #[v0, v1] := by cases args; simp_all
  obtain ⟨rfl, rfl⟩ := trodVars_none hV
  have k0 := h0
  have lt0 : ∀ x ∈ p0, x.block < W.heap.size := by obtain ⟨m, hm⟩ := k0; exact DataW.trod_lt m _ _ _ hm
  obtain ⟨c00, c10, y00, y10, m0, rfl, rfl, rfl, hy00, hy10⟩ := Joins.open_agg2 Tryd.underlying24 (by kernel_rfl) (by kernel_rfl) (hval 0 24 v0 rfl rfl) h0
  obtain ⟨xa0, xn0, xc0, xz0, rfl, cx0⟩ := list_in Tryd.underlying22 Tryd.underlying2 (by kernel_rfl) hy00
  obtain ⟨ya0, yn0, yc0, yz0, rfl, cy0⟩ := list_in Tryd.underlying22 Tryd.underlying2 (by kernel_rfl) hy10
  obtain ⟨e0, eq0, w0⟩ := example_in cx0 cy0
  have k1 := h1
  have lt1 : ∀ x ∈ p1, x.block < W.heap.size := by obtain ⟨m, hm⟩ := k1; exact DataW.trod_lt m _ _ _ hm
  obtain ⟨c01, c11, y01, y11, m1, rfl, rfl, rfl, hy01, hy11⟩ := Joins.open_agg2 Tryd.underlying24 (by kernel_rfl) (by kernel_rfl) (hval 1 24 v1 rfl rfl) h1
  obtain ⟨xa1, xn1, xc1, xz1, rfl, cx1⟩ := list_in Tryd.underlying22 Tryd.underlying2 (by kernel_rfl) hy01
  obtain ⟨ya1, yn1, yc1, yz1, rfl, cy1⟩ := list_in Tryd.underlying22 Tryd.underlying2 (by kernel_rfl) hy11
  obtain ⟨e1, eq1, w1⟩ := example_in cx1 cy1
  clear hA0 hval0 hsz0
  have hwalk := walk xa0 xc0 ya0 yc0 e0 xa1 xc1 ya1 yc1 e1 W w0 w1 (table hL)
  rw [← eq0] at hwalk
  rw [← eq1] at hwalk
  refine hwalk.mono fun e W' ⟨he, bel⟩ => ?_
  subst he
  exact ⟨_, rfl, _, _, _, [], _, [], hW', trodAll_mk1 (shut_bool Tryd.underlying4 _), (trodAll_cons_mk (Below.trod laidOut (by kernel_rfl) (of_decide_eq_true (by kernel_rfl)) k0 bel lt0) (trodAll_cons_mk (Below.trod laidOut (by kernel_rfl) (of_decide_eq_true (by kernel_rfl)) k1 bel lt1) trodAll_mk0)), rfl, bel.frame _, fun h => by cases h⟩

theorem said : Rows.DataCopiesSaid :=
  OpenClaim.holds_of_cond 8 Tryd.f8 rfl rfl rfl rfl rfl rfl rfl ⟨rfl, rfl, rfl, rfl, rfl⟩ rfl rfl rfl rfl rfl (by kernel_rfl) Tryd.func8 (by kernel_rfl)
    (of_decide_eq_true (by kernel_rfl)) (by unfold Func.isWrapper; first | (rw [if_pos (by decide +kernel)]; kernel_rfl) | (rw [if_neg (by decide +kernel)]; exact ⟨rfl, rfl⟩))
    (fun os started H enc _ F => by rw [OpenClaim.pre_eq_preRow]; exact lifted os started H enc F)
theorem plain (f : FuncId) (fn : Func) (hf : Tryd.pinned.checked.prog.funcNamed "sakia/sakialaw10.DataCopies" = some f) (hfn : Tryd.pinned.checked.prog.funcs[f]? = some fn) :
    false = Tryd.pinned.checked.prog.looks [] ∧ ∀ (j : Nat) t, fn.params[j]? = some t → Tryd.pinned.checked.prog.wantsStandIn t = false := by
  obtain rfl : f = 8 := Option.some.inj ((show Tryd.prog.funcNamed "sakia/sakialaw10.DataCopies" = some 8 by kernel_rfl).symm.trans hf) |>.symm
  obtain rfl : fn = Tryd.f8 := (Option.some.inj (Tryd.func8.symm.trans hfn)).symm
  refine ⟨by kernel_rfl, fun j t ht => ?_⟩
  rw [Tryd.params8] at ht
  have hm : t = 24 := by simpa using Array.mem_of_getElem? ht
  obtain rfl := hm
  · exact (show Tryd.prog.wantsStandIn 24 = false by kernel_rfl)

/-- The card. -/
theorem proved : Rows.DataCopiesCardSaid :=
  Claim7.holds_tied_plain_at .later [] _ _ _ _ said (fun _ h => by cases h) (by kernel_rfl) (fun _ h => by cases h) dataCopies_row_tie rfl ⟨rfl, rfl⟩ (by kernel_rfl) rfl plain (by kernel_rfl)
end Go.Proofs.YthdkanmpapioeaaDoor.dataCopies
