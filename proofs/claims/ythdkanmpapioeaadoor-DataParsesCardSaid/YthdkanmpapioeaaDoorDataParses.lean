/-
  DataParses: Parse returns the example of the reference, whose text it is, or none. The listed tables hold what the program's start lays.
-/
import Derived.Test.YthdkanmpapioeaaDoorCards
import Derived.Test.YthdkanmpapioeaaDoorTie
import Derived.Test.YthdkanmpapioeaaDoorEl
import Derived.Test.YthdkanmpapioeaaDoorEm
import Derived.Deep.DeepHandedRow
import Derived.Lib.LaidTab
import Derived.Lay
import Derived.Stop.LaidErr
import Derived.Lib.ItoaNum
import Derived.WalkKit
import Derived.ProofKit
import Derived.OpenShut
import Derived.ShutString
import Derived.ChangeOld
import Derived.Below
import Derived.Lib.SmallJoins
namespace Go.Proofs.YthdkanmpapioeaaDoor.dataParses
open Go.ChangeShapes Go.WideShapes Go.ChangeAt Go.RowKit Go.Shelf
open Go.ChangeMaps (open_string shut_string)
open Go.Proofs.YthdkanmpapioeaaDoor
set_option linter.unusedVariables false

theorem own : ownKnob Tryd.prog.godebug = none := by kernel_rfl
theorem laidOut : laidOutB Tryd.prog = true := by kernel_rfl

theorem readS_len {q : Int} {l : List UInt8} {x : List Int} (h : readS q l = some x) : x.length ≤ l.length + 1 := by
  have h1 := mapO_len h
  have h2 := nParts_le ⟨l.toArray⟩
  rw [size_data] at h2
  unfold nParts at h2
  have h3 : (splitSp l).length ≤ l.length + 1 := h2
  omega
theorem readE_len {q : Int} {l : List UInt8} {e : Ex} (h : readE l q = some e) : e.1.length ≤ l.length + 1 ∧ e.2.length ≤ l.length + 1 := by
  obtain ⟨h1, h2⟩ := cut_sizes l
  unfold readE at h
  cases hx : readS q (Lib.cut l SEP).1 with
  | none => rw [hx] at h; cases h
  | some x =>
    cases hy : readS q (Lib.cut l SEP).2.1 with
    | none => rw [hx, hy] at h; cases h
    | some y =>
      rw [hx, hy] at h
      injection h with h
      subst h
      have := readS_len hx
      have := readS_len hy
      exact ⟨by dsimp only; omega, by dsimp only; omega⟩

theorem gTab : Tryd.prog.globalNamed "internal/strconv.uint64pow10" = some 1 := by kernel_rfl
theorem gTabType : (Tryd.prog.globals[1]?).map (·.type) = some 140 := by kernel_rfl
theorem cellsTab : Tryd.prog.cellsOf 140 = 20 := by kernel_rfl
theorem cellsElem : Tryd.prog.cellsOf 81 = 1 := by kernel_rfl
theorem powTab : Lib.pow10Tab = [1, 10, 100, 1000, 10000, 100000, 1000000, 10000000, 100000000, 1000000000, 10000000000, 100000000000, 1000000000000, 10000000000000, 100000000000000, 1000000000000000, 10000000000000000, 100000000000000000, 1000000000000000000, 10000000000000000000] := by decide +kernel
/-- What the row's list gives: the table of powers of ten. -/
theorem table {W : World} (h0 : laidMetH Tryd.prog Rows.dataParsesRow.laid W) : Lib.TabIs Tryd.prog W "internal/strconv.uint64pow10" .u64 Lib.pow10Tab := by
  have h : laidMet Tryd.prog Rows.dataParsesRow.laid W := h0
  rw [powTab]
  exact Lib.tabIs_of_head (rest := _) gTab gTabType Tryd.underlying140 Tryd.underlying81 cellsElem cellsTab (h.tail.tail)

set_option maxHeartbeats 4000000 in
theorem walk (a0 : ByteArray) (a1 : Int) (w : World) (w0 : a0.size ≤ maxLen) (w1 : (Lit.int .i64 a1).wf = true)
    (hT : Lib.TabIs Tryd.prog w "internal/strconv.uint64pow10" .u64 Lib.pow10Tab) (hC : CutOk w) :
    Calls Tryd.prog 4 #[.string a0, .int .i64 a1] w fun e w' => e = .returned (.bool true) ∧ Below w.heap.size w w' := by
  clear w0 w1
  by_cases h600 : a0.size ≤ 600
  · cases hE : readE a0.data.toList a1 with
    | some e =>
      have HE := Lib.hid hE
      obtain ⟨hok, hin, hex⟩ := readE_some hE
      obtain ⟨hl1, hl2⟩ := readE_len hE
      rw [← size_data] at hl1 hl2
      have HX := Lib.hid (exT_yes hok)
      have HEX := Lib.hid hex
      have HI := Lib.hid hin
      clear hok hin hex hE
      go_enter Tryd.func4, Tryd.ntmps4

      go_wp2_with fail
      refine (dParse_any a0 a1 w (by omega) hT hC).mono ?_
      rintro u w1 ⟨⟨e1, xa, xc, ya, yc, he, rfl, hbx, hby⟩ | ⟨he, rfl⟩, g1⟩
      · obtain rfl : e = e1 := Option.some.inj (HE.out.symm.trans he)
        have gA : Grew w1 (w1.alloc (.cells #[.slice xa e.1.length xc, .slice ya e.2.length yc] 24)) := (Grew.refl _).alloc _
        have HB1 := Lib.hid (hbx.grow gA)
        have HB2 := Lib.hid (hby.grow gA)
        have HT1 := Lib.hid (Two.new w1 24 (.slice xa e.1.length xc) (.slice ya e.2.length yc))
        have HG1 := Lib.hid (g1.trans gA)
        clear he g1 gA hbx hby
        go_wp2_with fail
        generalize w1.alloc (.cells #[.slice xa e.1.length xc, .slice ya e.2.length yc] 24) = W1 at *
        generalize w1.heap.size = b1 at *
        refine (rParseE_any a0 a1 W1 (by omega)).mono ?_
        rintro u w2 ⟨⟨e1, za, zc, va, vc, he, rfl, hbx, hby⟩ | ⟨he, rfl⟩, g2⟩
        · obtain rfl : e = e1 := Option.some.inj (HE.out.symm.trans he)
          have gA : Grew w2 (w2.alloc (.cells #[.slice za e.1.length zc, .slice va e.2.length vc] 24)) := (Grew.refl _).alloc _
          have HB3 := Lib.hid (hbx.grow gA)
          have HB4 := Lib.hid (hby.grow gA)
          have HT2 := Lib.hid (Two.new w2 24 (.slice za e.1.length zc) (.slice va e.2.length vc))
          have HB12 := Lib.hid (HB1.out.grow (g2.trans gA))
          have HB22 := Lib.hid (HB2.out.grow (g2.trans gA))
          have HT12 := Lib.hid (HT1.out.grow (g2.trans gA))
          have HG2 := Lib.hid (HG1.out.trans (g2.trans gA))
          clear he g2 gA hbx hby HB1 HB2 HT1
          have c0 := HT12.out.c0
          have c1 := HT12.out.c1
          go_wp2_with fail
          generalize w2.alloc (.cells #[.slice za e.1.length zc, .slice va e.2.length vc] 24) = W2 at *
          generalize w2.heap.size = b2 at *
          refine (dText_any xa ya xc yc e a1 W2 rfl rfl (by omega) (by omega) HI.out HB12.out.rd HB22.out.rd (tab_below hT (Nat.le_refl _) HG2.out)).mono ?_
          rintro u w3 ⟨rfl, g3⟩
          rw [HX.out, HEX.out]
          have HG3 := Lib.hid (HG2.out.trans g3)
          have HB13 := Lib.hid (HB12.out.grow g3)
          have HB23 := Lib.hid (HB22.out.grow g3)
          have HB33 := Lib.hid (HB3.out.grow g3)
          have HB43 := Lib.hid (HB4.out.grow g3)
          have HT13 := Lib.hid (HT12.out.grow g3)
          have HT23 := Lib.hid (HT2.out.grow g3)
          clear g3 c0 c1 HB12 HB22 HB3 HB4 HT12 HT2
          go_wp2_with fail
          refine (aliveE_any _ (tab_below hT (Nat.le_refl _) HG3.out)).mono ?_
          rintro u w4 ⟨rfl, g4⟩
          have HG4 := Lib.hid (HG3.out.trans g4)
          have t1 := HT13.out.grow g4
          have t2 := HT23.out.grow g4
          have c0 := t1.c0
          have c1 := t1.c1
          have d0 := t2.c0
          have d1 := t2.c1
          have HS := Lib.hid (rsameE_any e e xa ya za va xc yc zc vc w4 (by omega) (by omega) (by omega) (by omega) (HB13.out.grow g4).rd (HB23.out.grow g4).rd (HB33.out.grow g4).rd (HB43.out.grow g4).rd)
          clear g4 t1 t2
          go_wp2_with fail
          refine HS.out.mono ?_
          rintro u w5 ⟨rfl, g5⟩
          first | rw [decide_eq_true rfl] | simp only [decide_true]
          have t1 : (a0.data.toList == a0.toList) = true := by rw [Lib.toList_data]; simp
          go_wp2
          go_ret
          exact ⟨ret_bool (by simp), HG4.out.trans g5⟩
        · rw [HE.out] at he; cases he
      · rw [HE.out] at he; cases he
    | none =>
      have HE := Lib.hid hE
      have HX := Lib.hid (exT_no (e := ([], [])) (q := a1) (fun h => h.2.1 rfl))
      clear hE
      go_enter Tryd.func4, Tryd.ntmps4

      go_wp2_with fail
      refine (dParse_any a0 a1 w (by omega) hT hC).mono ?_
      rintro u w1 ⟨⟨e1, xa, xc, ya, yc, he, rfl, hbx, hby⟩ | ⟨he, rfl⟩, g1⟩
      · rw [HE.out] at he; cases he
      · have gA : Grew w1 (w1.alloc (.cells #[.slice none 0 0, .slice none 0 0] 24)) := (Grew.refl _).alloc _
        have HT1 := Lib.hid (Two.new w1 24 (.slice none 0 0) (.slice none 0 0))
        have HG1 := Lib.hid (g1.trans gA)
        clear he g1 gA
        go_wp2_with fail
        generalize w1.alloc (.cells #[.slice none 0 0, .slice none 0 0] 24) = W1 at *
        generalize w1.heap.size = b1 at *
        refine (rParseE_any a0 a1 W1 (by omega)).mono ?_
        rintro u w2 ⟨⟨e1, za, zc, va, vc, he, rfl, hbx, hby⟩ | ⟨he, rfl⟩, g2⟩
        · rw [HE.out] at he; cases he
        · have gA : Grew w2 (w2.alloc (.cells #[.slice none 0 0, .slice none 0 0] 24)) := (Grew.refl _).alloc _
          have HT2 := Lib.hid (Two.new w2 24 (.slice none 0 0) (.slice none 0 0))
          have HT12 := Lib.hid (HT1.out.grow (g2.trans gA))
          have HG2 := Lib.hid (HG1.out.trans (g2.trans gA))
          clear he g2 gA HT1
          have c0 := HT12.out.c0
          have c1 := HT12.out.c1
          go_wp2_with fail
          generalize w2.alloc (.cells #[.slice none 0 0, .slice none 0 0] 24) = W2 at *
          generalize w2.heap.size = b2 at *
          refine (dText_any (n := 0) (m := 0) none none 0 0 ([], []) a1 W2 rfl rfl (by decide) (by decide) ⟨by simp, by simp⟩ RdK.empty RdK.empty (tab_below hT (Nat.le_refl _) HG2.out)).mono ?_
          rintro u w3 ⟨rfl, g3⟩
          rw [HX.out]
          have HG3 := Lib.hid (HG2.out.trans g3)
          have HT13 := Lib.hid (HT12.out.grow g3)
          have HT23 := Lib.hid (HT2.out.grow g3)
          clear g3 c0 c1 HT12 HT2
          go_wp2_with fail
          refine (aliveE_any _ (tab_below hT (Nat.le_refl _) HG3.out)).mono ?_
          rintro u w4 ⟨rfl, g4⟩
          have HG4 := Lib.hid (HG3.out.trans g4)
          have t1 := HT13.out.grow g4
          have t2 := HT23.out.grow g4
          have c0 := t1.c0
          have c1 := t1.c1
          have d0 := t2.c0
          have d1 := t2.c1
          clear g4 t1 t2
          go_wp2_with fail
          refine (rsameE_any ([], []) ([], []) none none none none 0 0 0 0 w4 (by decide) (by decide) (by decide) (by decide) RdK.empty RdK.empty RdK.empty RdK.empty).mono ?_
          rintro u w5 ⟨rfl, g5⟩
          first | rw [decide_eq_true rfl] | simp only [decide_true]
          go_wp2
          go_ret
          exact ⟨ret_bool (by simp), HG4.out.trans g5⟩
  · have h600b : ¬ (a0.size : Int) ≤ 600 := by omega
    go_enter Tryd.func4, Tryd.ntmps4
    go_wp2_with fail
    refine (aliveE_any _ hT).mono ?_
    rintro e w1 ⟨rfl, g1⟩
    go_wp2_with fail
    go_ret
    exact ⟨rfl, g1⟩

/-- The listed variables hold what they list in a world where the program's start has laid them. -/
theorem laid_met (os : Os) : laidMet Tryd.prog Rows.dataParsesRow.laid ((World.laidAll Tryd.prog os Rows.dataParsesRow.laid).forCall (fun _ _ => 0) ⟨#[], #[.string ByteArray.empty, .int .i64 0], []⟩).memory :=
  laidMet_of_run' 8 (by kernel_rfl) (by kernel_rfl)
theorem reads (os : Os) {H : Type} (enc : TypeId × Value → H) : ∃ places, DataW.whole enc Tryd.prog ((World.laidAll Tryd.prog os Rows.dataParsesRow.laid).forCall (fun _ _ => 0) ⟨#[], #[.string ByteArray.empty, .int .i64 0], []⟩).memory Tryd.f4.params.toList Rows.dataParsesSpec.vars false (#[.string ByteArray.empty, .int .i64 0] : Array Value).toList 8 = some ([.lit (.string []), .lit (.int .i64 0)], [], places) :=
  ⟨[], by kernel_rfl⟩

set_option maxRecDepth 100000 in
theorem lifted (os : Os) (started : os.Started) (H : Type) (enc : TypeId × Value → H) (F : Stop.Interp) :
    ReturnsInHanded {} Tryd.checked os 4 .any ((OpenSpec.ofChange Rows.dataParsesSpec).preRow enc Tryd.prog Tryd.f4 Rows.dataParsesRow.domain false Rows.dataParsesRow.laid) (((OpenSpec.ofChange Rows.dataParsesSpec).at F).post enc Tryd.prog Tryd.f4 false true false false) := by
  obtain ⟨places, hx⟩ := reads os enc
  refine returnsInHanded_of_row (C := Tryd.checked) (s := (OpenSpec.ofChange Rows.dataParsesSpec)) own started (by kernel_rfl) Tryd.func4
    (witness_row_at (enc := enc) (C := Tryd.checked) false (World.laidAll Tryd.prog os Rows.dataParsesRow.laid) #[.string ByteArray.empty, .int .i64 0] rfl (by kernel_rfl) (by kernel_rfl) (by kernel_rfl)
      (OpenSpec.preRow_of_cond 8 hx (by kernel_rfl) (fun k hk => by cases hk) (by kernel_rfl) (laid_met os))) ?_
  intro W base args ds gs before hval0 hW _ _ hsz0 hL hsh _
  have hval : ∀ (j : Nat) t v, Tryd.f4.params[j]? = some t → args[j]? = some v → Value.okWide Tryd.prog W .any base t v := hval0
  have hW' := hW
  obtain ⟨p, q, hA0, hV, rfl, hfz, hnd⟩ := hW
  have hA : DataW.TrodAll enc Tryd.prog W 0 (fun _ => true) true Tryd.f4.params.toList args.toList ds p := hA0
  rw [Tryd.params4] at hA hval
  obtain ⟨v0, vs0, d0, ds0, p0, q0, hargs, rfl, rfl, h0, r0⟩ := trodAll_cons hA
  obtain ⟨v1, vs1, d1, ds1, p1, q1, rfl, rfl, rfl, h1, r1⟩ := trodAll_cons r0
  obtain ⟨rfl, rfl, rfl⟩ := trodAll_nil r1
  obtain rfl : args = #[v0, v1] := by cases args; simp_all
  obtain ⟨rfl, rfl⟩ := trodVars_none hV
  obtain ⟨a0, rfl, rfl, rfl, w0⟩ := open_string Tryd.underlying9 (hval 0 9 v0 rfl rfl) h0
  obtain ⟨a1, rfl, rfl, rfl, w1⟩ := open_int Tryd.underlying3 (hval 1 3 v1 rfl rfl) h1
  clear hA0 hval0 hsz0
  have hwalk := walk a0 a1 W w0 w1 (table hL) (cutOk_of W hsh)
  refine hwalk.mono fun e W' ⟨he, bel⟩ => ?_
  subst he
  exact ⟨_, rfl, _, _, _, [], _, [], hW', trodAll_mk1 (shut_bool Tryd.underlying4 _), (trodAll_cons_mk (shut_string Tryd.underlying9 w0) (trodAll_cons_mk (shut_int Tryd.underlying3 w1) trodAll_mk0)), rfl, bel.frame _, fun h => by cases h⟩

theorem said : Rows.DataParsesSaid :=
  OpenClaim.holds_of_cond 4 Tryd.f4 rfl rfl rfl rfl rfl rfl rfl ⟨rfl, rfl, rfl, rfl, rfl⟩ rfl rfl rfl rfl rfl (by kernel_rfl) Tryd.func4 (by kernel_rfl)
    (of_decide_eq_true (by kernel_rfl)) (by unfold Func.isWrapper; first | (rw [if_pos (by decide +kernel)]; kernel_rfl) | (rw [if_neg (by decide +kernel)]; exact ⟨rfl, rfl⟩))
    (fun os started H enc _ F => by rw [OpenClaim.pre_eq_preRow]; exact lifted os started H enc F)
theorem plain (f : FuncId) (fn : Func) (hf : Tryd.pinned.checked.prog.funcNamed "sakia/sakialaw10.DataParses" = some f) (hfn : Tryd.pinned.checked.prog.funcs[f]? = some fn) :
    false = Tryd.pinned.checked.prog.looks [] ∧ ∀ (j : Nat) t, fn.params[j]? = some t → Tryd.pinned.checked.prog.wantsStandIn t = false := by
  obtain rfl : f = 4 := Option.some.inj ((show Tryd.prog.funcNamed "sakia/sakialaw10.DataParses" = some 4 by kernel_rfl).symm.trans hf) |>.symm
  obtain rfl : fn = Tryd.f4 := (Option.some.inj (Tryd.func4.symm.trans hfn)).symm
  refine ⟨by kernel_rfl, fun j t ht => ?_⟩
  rw [Tryd.params4] at ht
  have hm : t = 9 ∨ t = 3 := by simpa using Array.mem_of_getElem? ht
  rcases hm with rfl | rfl
  · exact (show Tryd.prog.wantsStandIn 9 = false by kernel_rfl)
  · exact (show Tryd.prog.wantsStandIn 3 = false by kernel_rfl)

/-- The card. -/
theorem proved : Rows.DataParsesCardSaid :=
  Claim7.holds_tied_plain_at .later [] _ _ _ _ said (fun _ h => by cases h) (by kernel_rfl) (fun _ h => by cases h) dataParses_row_tie rfl ⟨rfl, rfl⟩ (by kernel_rfl) rfl plain (by kernel_rfl)
end Go.Proofs.YthdkanmpapioeaaDoor.dataParses
