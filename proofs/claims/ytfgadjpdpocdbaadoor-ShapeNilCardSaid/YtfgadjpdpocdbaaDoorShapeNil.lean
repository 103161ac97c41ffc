/-
  ShapeNil: a nil shape has nothing, and changing sizes that were returned does not change a shape. The listed tables hold what the program's start lays.
-/
import Derived.Test.YtfgadjpdpocdbaaDoorCards
import Derived.Test.YtfgadjpdpocdbaaDoorTie
import Derived.Test.YtfgadjpdpocdbaaDoorHp
import Derived.Deep.DeepHandedRow
import Derived.Lib.LaidTab
import Derived.Lay
import Derived.Stop.LaidErr
import Derived.Lib.ItoaNum
import Derived.WalkKit
import Derived.ProofKit
import Derived.OpenShut
import Derived.ShutString
import Derived.ChangeOld
import Derived.Below
namespace Go.Proofs.YtfgadjpdpocdbaaDoor.shapeNil
open Go.ChangeShapes Go.WideShapes Go.ChangeAt Go.RowKit Go.Proofs.YtfgadjpdpocdbaaDoor
open Go.ChangeMaps (open_string shut_string)
set_option linter.unusedVariables false

theorem own : ownKnob Tryd.prog.godebug = none := by kernel_rfl
theorem laidOut : laidOutB Tryd.prog = true := by kernel_rfl

/-- WHAT THE WALK IS TOLD OF A SLICE OF INTEGERS THAT CAME IN: it is nil; or it leads to a row of 'cap' cells, the numbers 'zs' (the first 'len' are its elements, the rest its spare room), each fitting its kind. -/
def IsRow (k : IntKind) (w : World) (a : Option Addr) (len cap : Nat) (zs : List Int) : Prop :=
  (a = none ∧ len = 0 ∧ cap = 0 ∧ zs = []) ∨
  ∃ x, a = some x ∧ len ≤ cap ∧ cap ≤ maxLen ∧ zs.length = cap ∧ (∀ i, i < zs.length → w.cell? (x.add i) = some (.int k (zs.getD i 0))) ∧ ∀ n ∈ zs, (Lit.int k n).wf = true


theorem gTab : Tryd.prog.globalNamed "internal/strconv.uint64pow10" = some 0 := by kernel_rfl
theorem gTabType : (Tryd.prog.globals[0]?).map (·.type) = some 94 := by kernel_rfl
theorem cellsTab : Tryd.prog.cellsOf 94 = 20 := by kernel_rfl
theorem cellsElem : Tryd.prog.cellsOf 71 = 1 := by kernel_rfl
theorem powTab : Lib.pow10Tab = [1, 10, 100, 1000, 10000, 100000, 1000000, 10000000, 100000000, 1000000000, 10000000000, 100000000000, 1000000000000, 10000000000000, 100000000000000, 1000000000000000, 10000000000000000, 100000000000000000, 1000000000000000000, 10000000000000000000] := by decide +kernel
/-- What the row's list gives: the table of powers of ten. -/
theorem table {W : World} (h0 : laidMetH Tryd.prog Rows.shapeNilRow.laid W) : Lib.TabIs Tryd.prog W "internal/strconv.uint64pow10" .u64 Lib.pow10Tab := by
  have h : laidMet Tryd.prog Rows.shapeNilRow.laid W := h0
  rw [powTab]
  exact Lib.tabIs_of_head (rest := []) gTab gTabType Tryd.underlying94 Tryd.underlying71 cellsElem cellsTab (h.tail.tail)

set_option maxHeartbeats 4000000 in
theorem walk (a0 : Option Addr) (len0 cap0 : Nat) (z0 : List Int) (a1 : Int) (a2 : ByteArray) (w : World) (w0 : IsRow .i64 w a0 len0 cap0 z0) (w1 : (Lit.int .i64 a1).wf = true) (w2 : a2.size ≤ maxLen)
    (hT : Lib.TabIs Tryd.prog w "internal/strconv.uint64pow10" .u64 Lib.pow10Tab) :
    Calls Tryd.prog 7 #[.slice a0 len0 cap0, .int .i64 a1, .string a2] w fun e w' => e = .returned (.bool true) ∧ Below w.heap.size w w' := by
  have hrow : ∃ zs, CameS w a0 len0 cap0 zs := by
    rcases w0 with ⟨rfl, rfl, rfl, rfl⟩ | ⟨x, rfl, hl, hm, hz, hc, _⟩
    · exact ⟨[], cameS_none w⟩
    · exact ⟨_, cameS_some hl hm hz hc⟩
  obtain ⟨zs, hn, hlc, hcm, hnn, hrd⟩ := hrow
  clear w0
  clear w1
  have HX := Lib.hid hrd
  have HN := Lib.hid hn
  cases hf : fewV zs with
  | false =>
    have HF := Lib.hid hf
    clear hf
    go_enter Tryd.func7, Tryd.ntmps7
    go_wp2_with fail
    refine (rfew_n a0 cap0 zs _ HN.out HX.out).mono ?_
    rintro e w1 ⟨rfl, g1⟩
    rw [HF.out]
    have HG1 := Lib.hid g1
    clear g1
    go_wp2_with fail
    refine (alive_any _ (tab_below hT (Nat.le_refl _) HG1.out)).mono ?_
    rintro e w9 ⟨rfl, g9⟩
    go_wp2_with fail
    go_ret
    exact ⟨ret_bool (by simp), HG1.out.trans g9⟩
  | true =>
    have HF := Lib.hid hf
    have h40 : len0 ≤ 40 := by
      rcases Nat.lt_or_ge 40 len0 with h | h
      · rw [few_many (by omega)] at hf; cases hf
      · exact h
    clear hf
    by_cases h200 : a2.size ≤ 200
    · go_enter Tryd.func7, Tryd.ntmps7
      go_wp2_with fail
      refine (rfew_n a0 cap0 zs _ HN.out HX.out).mono ?_
      rintro e w1 ⟨rfl, g1⟩
      rw [HF.out]
      have HG1 := Lib.hid g1
      clear g1
      go_wp2_with fail
      refine (place_nil a1 _).mono ?_
      rintro e w2 ⟨rfl, rfl⟩
      go_wp2_with fail
      refine (index_nil a2 _).mono ?_
      rintro e w2 ⟨rfl, g2⟩
      have HG2 := Lib.hid (HG1.out.trans g2)
      clear g2
      go_wp2_with fail
      refine (sizes_nil _).mono ?_
      rintro e w3 ⟨rfl, rfl⟩
      go_wp2_with fail
      refine (links_nil _).mono ?_
      rintro e w3 ⟨rfl, rfl⟩
      go_wp2_with fail
      refine (count_nil _).mono ?_
      rintro e w3 ⟨rfl, g3⟩
      have HG3 := Lib.hid (HG2.out.trans g3)
      clear g3
      go_wp2_with fail
      refine (weights_nil a1 _).mono ?_
      rintro e w4 ⟨rfl, g4⟩
      have HG4 := Lib.hid (HG3.out.trans g4)
      clear g4
      go_wp2_with fail
      refine (biases_nil a1 _).mono ?_
      rintro e w5 ⟨rfl, g5⟩
      have HG5 := Lib.hid (HG4.out.trans g5)
      clear g5
      go_wp2_with fail
      refine (name_nil a1 _).mono ?_
      rintro e w6 ⟨rfl, rfl⟩
      go_wp2_with fail
      refine (new_any a0 cap0 zs _ HN.out (by omega) hlc hcm (HX.out.grow HG5.out)).mono ?_
      rintro e x1 ⟨⟨p, rfl, hnew⟩, y1⟩
      have HZ1 := Lib.hid (HG5.out.trans y1)
      have HNw := Lib.hid hnew
      clear hnew y1
      by_cases h0 : codeV zs = 0
      · obtain ⟨b, rfl, hS⟩ := HNw.out.1 h0
        have HS := Lib.hid hS
        have H0 := Lib.hid h0
        have HR := Lib.hid (codeV_zero h0)
        have hR2 := HR.out.2.1
        rw [HN.out] at hR2
        clear hS h0 HNw
        go_wp2_with fail
        refine (sizes_any (by rw [HN.out]; exact hR2) HS.out).mono ?_
        rintro e x2 ⟨⟨la, lc, rfl, hb2⟩, y2⟩
        rw [HN.out] at hb2 ⊢
        have HB2 := Lib.hid hb2
        have HY2 := Lib.hid y2
        clear hb2 y2
        go_wp2_with fail
        go_loopw [106] (fun iv wr => ∃ (k : Nat) (us : List Int), k ≤ len0 ∧ iv = .int .i64 (k : Int) ∧ Hid (BufK .i64 3 x1.heap.size wr la len0 lc us) ∧ Hid (Grew x1 wr)) (fun iv _ => len0 - (intOf iv).toNat)
        case atStart => exact ⟨0, zs, Nat.zero_le _, rfl, HB2, HY2⟩
        case round =>
          obtain ⟨k, us, hk, rfl, HBr, HGr⟩ := hrel
          by_cases hlt : k < len0
          · obtain ⟨g, ex, hxg, hgl, hcell, hfro⟩ := HBr.out.at hlt
            subst ex
            have HSt := Lib.hid (fun v => HBr.out.set k v)
            generalize el us k = u at *
            go_wp2
            go_roundw
            case rel => exact ⟨k + 1, _, by omega, by go_num, Lib.hid (HSt.out _), Lib.hid (Below.setCell HGr.out (p := ⟨g, k, none⟩) hxg _)⟩
            case measure => simp [intOf]; omega
          · obtain rfl : k = len0 := by omega
            have HZr := Lib.hid (HZ1.out.trans HGr.out)
            have HSr := Lib.hid (HS.out.grow HGr.out)
            go_wp2_with fail
            refine (alive_any _ (tab_below hT (Nat.le_refl _) HZr.out)).mono ?_
            rintro e x3 ⟨rfl, y3⟩
            have HZ3 := Lib.hid (HZr.out.trans y3)
            have HS3 := Lib.hid (HSr.out.grow y3)
            clear y3
            go_wp2_with fail
            refine (rcheck_n a0 cap0 zs _ HN.out (by omega) (HX.out.grow HZ3.out)).mono ?_
            rintro e x4 ⟨rfl, y4⟩
            rw [H0.out]
            have HZ4 := Lib.hid (HZ3.out.trans y4)
            have HS4 := Lib.hid (HS3.out.grow y4)
            clear y4
            go_wp2_with fail
            refine (sizes_any (by rw [HN.out]; exact hR2) HS4.out).mono ?_
            rintro e x5 ⟨⟨ma, mc, rfl, hb5⟩, y5⟩
            rw [HN.out] at hb5 ⊢
            have HB5 := Lib.hid hb5.rd
            have HZ5 := Lib.hid (HZ4.out.trans y5)
            clear hb5 y5
            go_wp2_with fail
            refine (iequal_n ma a0 mc cap0 zs zs _ HN.out HN.out (by omega) (by omega) HB5.out (HX.out.grow HZ5.out)).mono ?_
            rintro e x6 ⟨rfl, y6⟩
            rw [decide_eq_true rfl]
            go_wp2
            go_ret
            exact ⟨ret_bool (by simp), HZ5.out.trans y6⟩
      · obtain rfl := HNw.out.2 h0
        clear HNw
        go_wp2_with fail
        refine (sizes_nil _).mono ?_
        rintro e x2 ⟨rfl, rfl⟩
        go_wp2_with fail
        go_loopw [106] (fun iv wr => iv = .int .i64 0 ∧ wr = x1) (fun _ _ => 0)
        case atStart => exact ⟨rfl, rfl⟩
        case round =>
          obtain ⟨rfl, rfl⟩ := hrel
          go_wp2_with fail
          refine (alive_any _ (tab_below hT (Nat.le_refl _) HZ1.out)).mono ?_
          rintro e x3 ⟨rfl, y3⟩
          have HZ3 := Lib.hid (HZ1.out.trans y3)
          clear y3
          go_wp2_with fail
          refine (rcheck_n a0 cap0 zs _ HN.out (by omega) (HX.out.grow HZ3.out)).mono ?_
          rintro e x4 ⟨rfl, y4⟩
          generalize codeV zs = cv at *
          have h0b : (cv == 0) = false := by simp [h0]
          have h0c : (cv != 0) = true := by simp [h0]
          go_wp2
          go_ret
          exact ⟨ret_bool (by simp), HZ3.out.trans y4⟩
    · have h200b : (200 : Int) < (a2.size : Int) := by omega
      go_enter Tryd.func7, Tryd.ntmps7
      go_wp2_with fail
      refine (rfew_n a0 cap0 zs _ HN.out HX.out).mono ?_
      rintro e w1 ⟨rfl, g1⟩
      rw [HF.out]
      have HG1 := Lib.hid g1
      clear g1
      go_wp2_with fail
      refine (alive_any _ (tab_below hT (Nat.le_refl _) HG1.out)).mono ?_
      rintro e w9 ⟨rfl, g9⟩
      go_wp2_with fail
      go_ret
      exact ⟨ret_bool (by simp), HG1.out.trans g9⟩

/-- The listed variables hold what they list in a world where the program's start has laid them. -/
theorem laid_met (os : Os) : laidMet Tryd.prog Rows.shapeNilRow.laid ((World.laidAll Tryd.prog os Rows.shapeNilRow.laid).forCall (fun _ _ => 0) ⟨#[], #[.slice none 0 0, .int .i64 0, .string ByteArray.empty], []⟩).memory :=
  laidMet_of_run' 8 (by kernel_rfl) (by kernel_rfl)
theorem reads (os : Os) {H : Type} (enc : TypeId × Value → H) : ∃ places, DataW.whole enc Tryd.prog ((World.laidAll Tryd.prog os Rows.shapeNilRow.laid).forCall (fun _ _ => 0) ⟨#[], #[.slice none 0 0, .int .i64 0, .string ByteArray.empty], []⟩).memory Tryd.f7.params.toList Rows.shapeNilSpec.vars false (#[.slice none 0 0, .int .i64 0, .string ByteArray.empty] : Array Value).toList 8 = some ([.nil, .lit (.int .i64 0), .lit (.string [])], [], places) :=
  ⟨[], by kernel_rfl⟩

set_option maxRecDepth 100000 in
theorem lifted (os : Os) (started : os.Started) (H : Type) (enc : TypeId × Value → H) (F : Stop.Interp) :
    ReturnsInHanded {} Tryd.checked os 7 .any ((OpenSpec.ofChange Rows.shapeNilSpec).preRow enc Tryd.prog Tryd.f7 Rows.shapeNilRow.domain false Rows.shapeNilRow.laid) (((OpenSpec.ofChange Rows.shapeNilSpec).at F).post enc Tryd.prog Tryd.f7 false true false false) := by
  obtain ⟨places, hx⟩ := reads os enc
  refine returnsInHanded_of_row (C := Tryd.checked) (s := (OpenSpec.ofChange Rows.shapeNilSpec)) own started (by kernel_rfl) Tryd.func7
    (witness_row_at (enc := enc) (C := Tryd.checked) false (World.laidAll Tryd.prog os Rows.shapeNilRow.laid) #[.slice none 0 0, .int .i64 0, .string ByteArray.empty] rfl (by kernel_rfl) (by kernel_rfl) (by kernel_rfl)
      (OpenSpec.preRow_of_cond 8 hx (by kernel_rfl) (fun k hk => by cases hk) (by kernel_rfl) (laid_met os))) ?_
  intro W base args ds gs before hval0 hW _ _ _ hL _ _
  have hval : ∀ (j : Nat) t v, Tryd.f7.params[j]? = some t → args[j]? = some v → Value.okWide Tryd.prog W .any base t v := hval0
  have hW' := hW
  obtain ⟨p, q, hA0, hV, rfl, hfz, hnd⟩ := hW
  have hA : DataW.TrodAll enc Tryd.prog W 0 (fun _ => true) true Tryd.f7.params.toList args.toList ds p := hA0
  rw [Tryd.params7] at hA hval
  obtain ⟨v0, vs0, d0, ds0, p0, q0, hargs, rfl, rfl, h0, r0⟩ := trodAll_cons hA
  obtain ⟨v1, vs1, d1, ds1, p1, q1, rfl, rfl, rfl, h1, r1⟩ := trodAll_cons r0
  obtain ⟨v2, vs2, d2, ds2, p2, q2, rfl, rfl, rfl, h2, r2⟩ := trodAll_cons r1
  obtain ⟨rfl, rfl, rfl⟩ := trodAll_nil r2
  obtain rfl : args = #[v0, v1, v2] := by cases args; simp_all
  obtain ⟨rfl, rfl⟩ := trodVars_none hV
  obtain ⟨a0, len0, cap0, rfl⟩ := okWide_slice Tryd.underlying22 (hval 0 22 v0 rfl rfl)
  have k0 := h0
  have lt0 : ∀ x ∈ p0, x.block < W.heap.size := by obtain ⟨m, hm⟩ := k0; exact DataW.trod_lt m _ _ _ hm
  obtain ⟨z0, w0⟩ : ∃ zs, IsRow .i64 W a0 len0 cap0 zs := by
    obtain ⟨fuel, hf⟩ := h0
    rcases open_ints Tryd.underlying22 Tryd.underlying3 (by kernel_rfl) hf with ⟨hcs, _⟩ | ⟨x, l, c, zs, hcs, _, hl, hm, hz, _, hcell, hwz⟩
    · simp [Value.cells] at hcs
      obtain ⟨rfl, rfl, rfl⟩ := hcs
      exact ⟨[], .inl ⟨rfl, rfl, rfl, rfl⟩⟩
    · simp [Value.cells] at hcs
      obtain ⟨rfl, rfl, rfl⟩ := hcs
      exact ⟨zs, .inr ⟨_, rfl, hl, hm, by simpa using hz, hcell, hwz⟩⟩
  obtain ⟨a1, rfl, rfl, rfl, w1⟩ := open_int Tryd.underlying3 (hval 1 3 v1 rfl rfl) h1
  obtain ⟨a2, rfl, rfl, rfl, w2⟩ := open_string Tryd.underlying9 (hval 2 9 v2 rfl rfl) h2
  clear hA0 hval0
  refine (walk a0 len0 cap0 z0 a1 a2 W w0 w1 w2 (table hL)).mono fun e W' ⟨he, bel⟩ => ?_
  subst he
  exact ⟨_, rfl, _, _, _, [], _, [], hW', trodAll_mk1 (shut_bool Tryd.underlying4 _), (trodAll_cons_mk (Below.trod laidOut (by kernel_rfl) (of_decide_eq_true (by kernel_rfl)) k0 bel lt0) (trodAll_cons_mk (shut_int Tryd.underlying3 w1) (trodAll_cons_mk (shut_string Tryd.underlying9 w2) trodAll_mk0))), rfl, bel.frame _, fun h => by cases h⟩

theorem said : Rows.ShapeNilSaid :=
  OpenClaim.holds_of_cond 7 Tryd.f7 rfl rfl rfl rfl rfl rfl rfl ⟨rfl, rfl, rfl, rfl, rfl⟩ rfl rfl rfl rfl rfl (by kernel_rfl) Tryd.func7 (by kernel_rfl)
    (of_decide_eq_true (by kernel_rfl)) (by unfold Func.isWrapper; first | (rw [if_pos (by decide +kernel)]; kernel_rfl) | (rw [if_neg (by decide +kernel)]; exact ⟨rfl, rfl⟩))
    (fun os started H enc _ F => by rw [OpenClaim.pre_eq_preRow]; exact lifted os started H enc F)
theorem plain (f : FuncId) (fn : Func) (hf : Tryd.pinned.checked.prog.funcNamed "sakia/sakialaw08.ShapeNil" = some f) (hfn : Tryd.pinned.checked.prog.funcs[f]? = some fn) :
    false = Tryd.pinned.checked.prog.looks [] ∧ ∀ (j : Nat) t, fn.params[j]? = some t → Tryd.pinned.checked.prog.wantsStandIn t = false := by
  obtain rfl : f = 7 := Option.some.inj ((show Tryd.prog.funcNamed "sakia/sakialaw08.ShapeNil" = some 7 by kernel_rfl).symm.trans hf) |>.symm
  obtain rfl : fn = Tryd.f7 := (Option.some.inj (Tryd.func7.symm.trans hfn)).symm
  refine ⟨by kernel_rfl, fun j t ht => ?_⟩
  rw [Tryd.params7] at ht
  have hm : t = 22 ∨ t = 3 ∨ t = 9 := by simpa using Array.mem_of_getElem? ht
  rcases hm with rfl | rfl | rfl
  · exact (show Tryd.prog.wantsStandIn 22 = false by kernel_rfl)
  · exact (show Tryd.prog.wantsStandIn 3 = false by kernel_rfl)
  · exact (show Tryd.prog.wantsStandIn 9 = false by kernel_rfl)

/-- The card. -/
theorem proved : Rows.ShapeNilCardSaid :=
  Claim7.holds_tied_plain_at .later [] _ _ _ _ said (fun _ h => by cases h) (by kernel_rfl) (fun _ h => by cases h) shapeNil_row_tie rfl ⟨rfl, rfl⟩ (by kernel_rfl) rfl plain (by kernel_rfl)
end Go.Proofs.YtfgadjpdpocdbaaDoor.shapeNil
