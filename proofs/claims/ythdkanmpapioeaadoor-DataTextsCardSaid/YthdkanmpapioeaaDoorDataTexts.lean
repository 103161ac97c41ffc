/-
  DataTexts: Text returns the text of the reference, or none, and Parse leads back to the example. The listed tables hold what the program's start lays.
-/
import Derived.Test.YthdkanmpapioeaaDoorCards
import Derived.Test.YthdkanmpapioeaaDoorTie
import Derived.Test.YthdkanmpapioeaaDoorEl
import Derived.Test.YthdkanmpapioeaaDoorEm
import Derived.Deep.DeepHandedRow
import Derived.Lib.LaidTab
import Derived.Lay
import Derived.Stop.LaidErr
import Derived.Lib.ItoaNum
import Derived.WalkKit
import Derived.ProofKit
import Derived.OpenShut
import Derived.ShutString
import Derived.ChangeOld
import Derived.Below
import Derived.Lib.SmallJoins
namespace Go.Proofs.YthdkanmpapioeaaDoor.dataTexts
open Go.ChangeShapes Go.WideShapes Go.ChangeAt Go.RowKit Go.Shelf
open Go.ChangeMaps (open_string shut_string)
open Go.Proofs.YthdkanmpapioeaaDoor
set_option linter.unusedVariables false

theorem own : ownKnob Tryd.prog.godebug = none := by kernel_rfl
theorem laidOut : laidOutB Tryd.prog = true := by kernel_rfl

theorem exL_size {e : Ex} {q : Int} (hq : qOk q) (hi : InE e) (h1 : e.1.length ≤ 600) (h2 : e.2.length ≤ 600) : (exL q.toNat e).length ≤ 200000 := by
  have a := side_len (toNat_le hq) (show FitL e.1 from hi.1)
  have b := side_len (toNat_le hq) (show FitL e.2 from hi.2)
  simp only [exL, SEP, List.length_append, List.length_cons, List.length_nil]
  omega
theorem few_one {e : Ex} (h : fewE [e] = true) : e.1.length ≤ 600 ∧ e.2.length ≤ 600 := (few_small h).2 0 (by simp)
theorem rdE_one {B b : Nat} {W : World} {xa ya : Option Addr} {xc yc : Nat} {e : Ex} (hT : Two W b 24 (.slice xa e.1.length xc) (.slice ya e.2.length yc)) (hb : b < B) (hx : RdK .i64 B W xa e.1) (hy : RdK .i64 B W ya e.2) (h1 : xa = none → xc = 0) (h2 : ya = none → yc = 0) : RdE B W (some ⟨b, 0, none⟩) [e] := by
  refine .inr ⟨b, 0, rfl, hb, fun j hj => ?_⟩
  obtain rfl : j = 0 := by simp at hj; omega
  exact ⟨xa, xc, ya, yc, hT.c0, hT.c1, hx, hy, h1, h2⟩

theorem gTab : Tryd.prog.globalNamed "internal/strconv.uint64pow10" = some 1 := by kernel_rfl
theorem gTabType : (Tryd.prog.globals[1]?).map (·.type) = some 140 := by kernel_rfl
theorem cellsTab : Tryd.prog.cellsOf 140 = 20 := by kernel_rfl
theorem cellsElem : Tryd.prog.cellsOf 81 = 1 := by kernel_rfl
theorem powTab : Lib.pow10Tab = [1, 10, 100, 1000, 10000, 100000, 1000000, 10000000, 100000000, 1000000000, 10000000000, 100000000000, 1000000000000, 10000000000000, 100000000000000, 1000000000000000, 10000000000000000, 100000000000000000, 1000000000000000000, 10000000000000000000] := by decide +kernel
/-- What the row's list gives: the table of powers of ten. -/
theorem table {W : World} (h0 : laidMetH Tryd.prog Rows.dataTextsRow.laid W) : Lib.TabIs Tryd.prog W "internal/strconv.uint64pow10" .u64 Lib.pow10Tab := by
  have h : laidMet Tryd.prog Rows.dataTextsRow.laid W := h0
  rw [powTab]
  exact Lib.tabIs_of_head (rest := _) gTab gTabType Tryd.underlying140 Tryd.underlying81 cellsElem cellsTab (h.tail.tail)

set_option maxHeartbeats 4000000 in
theorem walk (xa0 : Option Addr) (xc0 : Nat) (ya0 : Option Addr) (yc0 : Nat) (e0 : Ex) (a1 : Int) (w : World) (w0 : CameX w xa0 xc0 ya0 yc0 e0) (w1 : (Lit.int .i64 a1).wf = true)
    (hT : Lib.TabIs Tryd.prog w "internal/strconv.uint64pow10" .u64 Lib.pow10Tab) (hC : CutOk w) :
    Calls Tryd.prog 3 #[.agg #[.slice xa0 e0.1.length xc0, .slice ya0 e0.2.length yc0], .int .i64 a1] w fun e w' => e = .returned (.bool true) ∧ Below w.heap.size w w' := by
  obtain ⟨⟨_, _, hm1, hr1, hf1, hn1⟩, ⟨_, _, hm2, hr2, hf2, hn2⟩⟩ := w0
  clear w1
  have hb1 : e0.1.length ≤ 9223372036854775807 := by rename_i a b c d; unfold maxLen at hm1; omega
  have hb2 : e0.2.length ≤ 9223372036854775807 := by rename_i a b c d; unfold maxLen at hm2; omega
  have HI : Hid (InE e0) := Lib.hid ⟨hf1, hf2⟩
  have g0 : Grew w ((w.alloc (.cells #[.slice xa0 e0.1.length xc0, .slice ya0 e0.2.length yc0] 24)).alloc (.cells #[.slice xa0 e0.1.length xc0, .slice ya0 e0.2.length yc0] 24)) := ((Grew.refl w).alloc _).alloc _
  have T1 := Lib.hid ((Two.new w 24 (.slice xa0 e0.1.length xc0) (.slice ya0 e0.2.length yc0)).alloc (.cells #[.slice xa0 e0.1.length xc0, .slice ya0 e0.2.length yc0] 24))
  have T2' := Two.new (w.alloc (.cells #[.slice xa0 e0.1.length xc0, .slice ya0 e0.2.length yc0] 24)) 24 (.slice xa0 e0.1.length xc0) (.slice ya0 e0.2.length yc0)
  rw [World.size_alloc] at T2'
  have R1 := Lib.hid (hr1.grow g0)
  have R2 := Lib.hid (hr2.grow g0)
  have RE := Lib.hid (rdE_one T2' (B := ((w.alloc (.cells #[.slice xa0 e0.1.length xc0, .slice ya0 e0.2.length yc0] 24)).alloc (.cells #[.slice xa0 e0.1.length xc0, .slice ya0 e0.2.length yc0] 24)).heap.size) (by simp) R1.out R2.out hn1 hn2)
  have HG0 := Lib.hid g0
  have HLE : Hid (LenE [e0]) := Lib.hid (fun k hk => by
    obtain rfl : k = 0 := by simp at hk; omega
    exact ⟨hb1, hb2⟩)
  clear g0 T2' hr1 hr2 hf1 hf2 hn1 hn2 hm1 hm2
  cases hf : fewE [e0] with
  | false =>
    have HF := Lib.hid hf
    clear hf
    go_enter Tryd.func3, Tryd.ntmps3

    go_wp2_with fail
    generalize (w.alloc (.cells #[.slice xa0 e0.1.length xc0, .slice ya0 e0.2.length yc0] 24)).alloc (.cells #[.slice xa0 e0.1.length xc0, .slice ya0 e0.2.length yc0] 24) = W0 at *
    generalize w.heap.size = b0 at *
    refine (rfewE_any (some ⟨b0 + 1, 0, none⟩) 1 [e0] W0 (by simp) HLE.out RE.out).mono ?_
    rintro u w1 ⟨rfl, g1⟩
    rw [HF.out]
    have HG1 := Lib.hid (HG0.out.trans g1)
    have HT1 := Lib.hid (T1.out.grow g1)
    have Q1 := Lib.hid (R1.out.grow g1)
    have Q2 := Lib.hid (R2.out.grow g1)
    clear g1 T1 R1 R2 RE HG0
    go_wp2_with fail
    refine (aliveE_any _ (tab_below hT (Nat.le_refl _) HG1.out)).mono ?_
    rintro u w2 ⟨rfl, g2⟩
    go_wp2
    go_ret
    exact ⟨rfl, HG1.out.trans g2⟩
  | true =>
    have hq := (few_one hf)
    have HF := Lib.hid hf
    clear hf
    have hl1 := hq.1
    have hl2 := hq.2
    clear hq
    obtain ⟨tl, ok, hx⟩ : ∃ tl ok, exT e0 a1 = (tl, ok) := ⟨_, _, rfl⟩
    have hsz : (⟨tl.toArray⟩ : ByteArray).size ≤ 1000000 := by
      rw [size_data]
      show tl.length ≤ _
      by_cases h : exOk e0 a1
      · rw [exT_yes h] at hx
        have := exL_size h.1 HI.out hl1 hl2
        injection hx with hx _
        rw [← hx]; omega
      · rw [exT_no h] at hx
        injection hx with hx _
        rw [← hx]; simp
    have HSZ := Lib.hid hsz
    have hcase : (ok = true ∧ readE tl a1 = some e0) ∨ (ok = false ∧ readE tl a1 = none) := by
      by_cases h : exOk e0 a1
      · rw [exT_yes h] at hx
        injection hx with h1 h2
        subst h1 h2
        exact .inl ⟨rfl, readE_text h HI.out⟩
      · rw [exT_no h] at hx
        injection hx with h1 h2
        subst h1 h2
        refine .inr ⟨rfl, ?_⟩
        cases hr : readE [] a1 with
        | none => rfl
        | some e =>
          obtain ⟨ho, _, h3⟩ := readE_some hr
          have := congrArg List.length h3
          simp [exL, SEP] at this
    have HX := Lib.hid hx
    have HCASE := Lib.hid hcase
    clear hx hcase hsz
    go_enter Tryd.func3, Tryd.ntmps3

    go_wp2_with fail
    generalize (w.alloc (.cells #[.slice xa0 e0.1.length xc0, .slice ya0 e0.2.length yc0] 24)).alloc (.cells #[.slice xa0 e0.1.length xc0, .slice ya0 e0.2.length yc0] 24) = W0 at *
    generalize w.heap.size = b0 at *
    refine (rfewE_any (some ⟨b0 + 1, 0, none⟩) 1 [e0] W0 (by simp) HLE.out RE.out).mono ?_
    rintro u w1 ⟨rfl, g1⟩
    rw [HF.out]
    have HG1 := Lib.hid (HG0.out.trans g1)
    have HT1 := Lib.hid (T1.out.grow g1)
    have Q1 := Lib.hid (R1.out.grow g1)
    have Q2 := Lib.hid (R2.out.grow g1)
    clear g1 T1 R1 R2 RE HG0

    have c0 := HT1.out.c0
    have c1 := HT1.out.c1
    have t1 : (tl != tl) = false := by simp
    have t2 : (ok != ok) = false := by simp
    go_wp2_with fail
    refine (dText_any xa0 ya0 xc0 yc0 e0 a1 w1 rfl rfl (by omega) (by omega) HI.out Q1.out Q2.out (tab_below hT (Nat.le_refl _) HG1.out)).mono ?_
    rintro u w2 ⟨rfl, g2⟩
    rw [HX.out]
    have HG2 := Lib.hid (HG1.out.trans g2)
    have HT2 := Lib.hid (HT1.out.grow g2)
    have S1 := Lib.hid (Q1.out.grow g2)
    have S2 := Lib.hid (Q2.out.grow g2)
    clear g2 c0 c1 HT1 Q1 Q2
    have c0 := HT2.out.c0
    have c1 := HT2.out.c1
    go_wp2_with fail
    refine (rTextE_any xa0 ya0 xc0 yc0 e0 a1 w2 rfl rfl (by omega) (by omega) HI.out S1.out S2.out).mono ?_
    rintro u w3 ⟨rfl, g3⟩
    rw [HX.out]
    have HG3 := Lib.hid (HG2.out.trans g3)
    have HT3 := Lib.hid (HT2.out.grow g3)
    have V1 := Lib.hid (S1.out.grow g3)
    have V2 := Lib.hid (S2.out.grow g3)
    clear g3 c0 c1 HT2 S1 S2
    go_wp2_with fail
    refine (dParse_any ⟨tl.toArray⟩ a1 w3 HSZ.out (tab_below hT (Nat.le_refl _) HG3.out) (hC.grow HG3.out)).mono ?_
    rintro u w4 ⟨⟨e1, xa, xc, ya, yc, he, rfl, hbx, hby⟩ | ⟨he, rfl⟩, g4⟩
    · rcases HCASE.out with ⟨rfl, h⟩ | ⟨rfl, h⟩
      · obtain rfl : e0 = e1 := Option.some.inj (h.symm.trans he)
        have gA : Grew w4 (w4.alloc (.cells #[.slice xa e0.1.length xc, .slice ya e0.2.length yc] 24)) := (Grew.refl _).alloc _
        have HB1 := Lib.hid (hbx.grow gA)
        have HB2 := Lib.hid (hby.grow gA)
        have HT4 := Lib.hid (Two.new w4 24 (.slice xa e0.1.length xc) (.slice ya e0.2.length yc))
        have HG4 := Lib.hid (HG3.out.trans (g4.trans gA))
        have HT3' := Lib.hid (HT3.out.grow (g4.trans gA))
        have U1 := Lib.hid (V1.out.grow (g4.trans gA))
        have U2 := Lib.hid (V2.out.grow (g4.trans gA))
        clear he h g4 gA hbx hby HT3 V1 V2
        go_wp2_with fail
        generalize w4.alloc (.cells #[.slice xa e0.1.length xc, .slice ya e0.2.length yc] 24) = W4 at *
        generalize w4.heap.size = b4 at *
        refine (aliveE_any _ (tab_below hT (Nat.le_refl _) HG4.out)).mono ?_
        rintro u w5 ⟨rfl, g5⟩
        have HG5 := Lib.hid (HG4.out.trans g5)
        have t3 := HT4.out.grow g5
        have t4 := HT3'.out.grow g5
        have c0 := t3.c0
        have c1 := t3.c1
        have d0 := t4.c0
        have d1 := t4.c1
        have HS := Lib.hid (rsameE_any e0 e0 xa ya xa0 ya0 xc yc xc0 yc0 w5 (by omega) (by omega) (by omega) (by omega) (HB1.out.grow g5).rd (HB2.out.grow g5).rd (U1.out.grow g5) (U2.out.grow g5))
        clear g5 t3 t4
        go_wp2_with fail
        refine HS.out.mono ?_
        rintro u w6 ⟨rfl, g6⟩
        first | rw [decide_eq_true rfl] | simp only [decide_true]
        go_wp2
        go_ret
        exact ⟨ret_bool (by simp), HG5.out.trans g6⟩
      · have h : readE tl a1 = none := h
        rw [show (⟨tl.toArray⟩ : ByteArray).data.toList = tl from rfl, h] at he
        cases he
    · rcases HCASE.out with ⟨rfl, h⟩ | ⟨rfl, h⟩
      · rw [show (⟨tl.toArray⟩ : ByteArray).data.toList = tl from rfl, h] at he
        cases he
      · have gA : Grew w4 (w4.alloc (.cells #[.slice none 0 0, .slice none 0 0] 24)) := (Grew.refl _).alloc _
        have HG4 := Lib.hid (HG3.out.trans (g4.trans gA))
        clear he h g4 gA
        go_wp2_with fail
        generalize w4.alloc (.cells #[.slice none 0 0, .slice none 0 0] 24) = W4 at *
        generalize w4.heap.size = b4 at *
        refine (aliveE_any _ (tab_below hT (Nat.le_refl _) HG4.out)).mono ?_
        rintro u w5 ⟨rfl, g5⟩
        go_wp2
        go_ret
        exact ⟨ret_bool (by simp), HG4.out.trans g5⟩

/-- The listed variables hold what they list in a world where the program's start has laid them. -/
theorem laid_met (os : Os) : laidMet Tryd.prog Rows.dataTextsRow.laid ((World.laidAll Tryd.prog os Rows.dataTextsRow.laid).forCall (fun _ _ => 0) ⟨#[], #[.agg #[.slice none 0 0, .slice none 0 0], .int .i64 0], []⟩).memory :=
  laidMet_of_run' 8 (by kernel_rfl) (by kernel_rfl)
theorem reads (os : Os) {H : Type} (enc : TypeId × Value → H) : ∃ places, DataW.whole enc Tryd.prog ((World.laidAll Tryd.prog os Rows.dataTextsRow.laid).forCall (fun _ _ => 0) ⟨#[], #[.agg #[.slice none 0 0, .slice none 0 0], .int .i64 0], []⟩).memory Tryd.f3.params.toList Rows.dataTextsSpec.vars false (#[.agg #[.slice none 0 0, .slice none 0 0], .int .i64 0] : Array Value).toList 8 = some ([.agg [.nil, .nil], .lit (.int .i64 0)], [], places) :=
  ⟨[], by kernel_rfl⟩

set_option maxRecDepth 100000 in
theorem lifted (os : Os) (started : os.Started) (H : Type) (enc : TypeId × Value → H) (F : Stop.Interp) :
    ReturnsInHanded {} Tryd.checked os 3 .any ((OpenSpec.ofChange Rows.dataTextsSpec).preRow enc Tryd.prog Tryd.f3 Rows.dataTextsRow.domain false Rows.dataTextsRow.laid) (((OpenSpec.ofChange Rows.dataTextsSpec).at F).post enc Tryd.prog Tryd.f3 false true false false) := by
  obtain ⟨places, hx⟩ := reads os enc
  refine returnsInHanded_of_row (C := Tryd.checked) (s := (OpenSpec.ofChange Rows.dataTextsSpec)) own started (by kernel_rfl) Tryd.func3
    (witness_row_at (enc := enc) (C := Tryd.checked) false (World.laidAll Tryd.prog os Rows.dataTextsRow.laid) #[.agg #[.slice none 0 0, .slice none 0 0], .int .i64 0] rfl (by kernel_rfl) (by kernel_rfl) (by kernel_rfl)
      (OpenSpec.preRow_of_cond 8 hx (by kernel_rfl) (fun k hk => by cases hk) (by kernel_rfl) (laid_met os))) ?_
  intro W base args ds gs before hval0 hW _ _ hsz0 hL hsh _
  have hval : ∀ (j : Nat) t v, Tryd.f3.params[j]? = some t → args[j]? = some v → Value.okWide Tryd.prog W .any base t v := hval0
  have hW' := hW
  obtain ⟨p, q, hA0, hV, rfl, hfz, hnd⟩ := hW
  have hA : DataW.TrodAll enc Tryd.prog W 0 (fun _ => true) true Tryd.f3.params.toList args.toList ds p := hA0
  rw [Tryd.params3] at hA hval
  obtain ⟨v0, vs0, d0, ds0, p0, q0, hargs, rfl, rfl, h0, r0⟩ := trodAll_cons hA
  obtain ⟨v1, vs1, d1, ds1, p1, q1, rfl, rfl, rfl, h1, r1⟩ := trodAll_cons r0
  obtain ⟨rfl, rfl, rfl⟩ := trodAll_nil r1
  obtain rfl : args = #[v0, v1] := by cases args; simp_all
  obtain ⟨rfl, rfl⟩ := trodVars_none hV
  have k0 := h0
  have lt0 : ∀ x ∈ p0, x.block < W.heap.size := by obtain ⟨m, hm⟩ := k0; exact DataW.trod_lt m _ _ _ hm
  obtain ⟨c00, c10, y00, y10, m0, rfl, rfl, rfl, hy00, hy10⟩ := Joins.open_agg2 Tryd.underlying24 (by kernel_rfl) (by kernel_rfl) (hval 0 24 v0 rfl rfl) h0
  obtain ⟨xa0, xn0, xc0, xz0, rfl, cx0⟩ := list_in Tryd.underlying22 Tryd.underlying2 (by kernel_rfl) hy00
  obtain ⟨ya0, yn0, yc0, yz0, rfl, cy0⟩ := list_in Tryd.underlying22 Tryd.underlying2 (by kernel_rfl) hy10
  obtain ⟨e0, eq0, w0⟩ := example_in cx0 cy0
  obtain ⟨a1, rfl, rfl, rfl, w1⟩ := open_int Tryd.underlying3 (hval 1 3 v1 rfl rfl) h1
  clear hA0 hval0 hsz0
  have hwalk := walk xa0 xc0 ya0 yc0 e0 a1 W w0 w1 (table hL) (cutOk_of W hsh)
  rw [← eq0] at hwalk
  refine hwalk.mono fun e W' ⟨he, bel⟩ => ?_
  subst he
  exact ⟨_, rfl, _, _, _, [], _, [], hW', trodAll_mk1 (shut_bool Tryd.underlying4 _), (trodAll_cons_mk (Below.trod laidOut (by kernel_rfl) (of_decide_eq_true (by kernel_rfl)) k0 bel lt0) (trodAll_cons_mk (shut_int Tryd.underlying3 w1) trodAll_mk0)), rfl, bel.frame _, fun h => by cases h⟩

theorem said : Rows.DataTextsSaid :=
  OpenClaim.holds_of_cond 3 Tryd.f3 rfl rfl rfl rfl rfl rfl rfl ⟨rfl, rfl, rfl, rfl, rfl⟩ rfl rfl rfl rfl rfl (by kernel_rfl) Tryd.func3 (by kernel_rfl)
    (of_decide_eq_true (by kernel_rfl)) (by unfold Func.isWrapper; first | (rw [if_pos (by decide +kernel)]; kernel_rfl) | (rw [if_neg (by decide +kernel)]; exact ⟨rfl, rfl⟩))
    (fun os started H enc _ F => by rw [OpenClaim.pre_eq_preRow]; exact lifted os started H enc F)
theorem plain (f : FuncId) (fn : Func) (hf : Tryd.pinned.checked.prog.funcNamed "sakia/sakialaw10.DataTexts" = some f) (hfn : Tryd.pinned.checked.prog.funcs[f]? = some fn) :
    false = Tryd.pinned.checked.prog.looks [] ∧ ∀ (j : Nat) t, fn.params[j]? = some t → Tryd.pinned.checked.prog.wantsStandIn t = false := by
  obtain rfl : f = 3 := Option.some.inj ((show Tryd.prog.funcNamed "sakia/sakialaw10.DataTexts" = some 3 by kernel_rfl).symm.trans hf) |>.symm
  obtain rfl : fn = Tryd.f3 := (Option.some.inj (Tryd.func3.symm.trans hfn)).symm
  refine ⟨by kernel_rfl, fun j t ht => ?_⟩
  rw [Tryd.params3] at ht
  have hm : t = 24 ∨ t = 3 := by simpa using Array.mem_of_getElem? ht
  rcases hm with rfl | rfl
  · exact (show Tryd.prog.wantsStandIn 24 = false by kernel_rfl)
  · exact (show Tryd.prog.wantsStandIn 3 = false by kernel_rfl)

/-- The card. -/
theorem proved : Rows.DataTextsCardSaid :=
  Claim7.holds_tied_plain_at .later [] _ _ _ _ said (fun _ h => by cases h) (by kernel_rfl) (fun _ h => by cases h) dataTexts_row_tie rfl ⟨rfl, rfl⟩ (by kernel_rfl) rfl plain (by kernel_rfl)
end Go.Proofs.YthdkanmpapioeaaDoor.dataTexts
