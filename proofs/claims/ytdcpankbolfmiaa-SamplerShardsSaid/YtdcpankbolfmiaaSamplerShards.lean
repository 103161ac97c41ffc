/-
  For all runs, steps and numbers of workers, the shards that Shard returns are those of the reference, and all of them together are the batch. No condition.
-/
import Derived.Test.YtdcpankbolfmiaaRows
import Derived.Test.YtdcpankbolfmiaaQl
import Derived.Lib.SmallJoins
import Derived.Laws.AppendOwnNone
import Derived.WalkKit
import Derived.ProofKit
import Derived.OpenShut
import Derived.ShutString
import Derived.ChangeOld
import Derived.Below
namespace Go.Proofs.Ytdcpankbolfmiaa.samplerShards
open Go.ChangeShapes Go.WideShapes Go.ChangeAt Go.RowKit
open Go.Proofs.Ytdcpankbolfmiaa
set_option linter.unusedVariables false

theorem own : ownKnob Try.prog.godebug = none := by kernel_rfl
theorem laidOut : laidOutB Try.prog = true := by kernel_rfl

set_option maxRecDepth 100000 in
set_option maxHeartbeats 4000000 in
theorem walk (N0 B0 S0 : Int) (a0 : Option Addr) (len0 cap0 : Nat) (zs0 : List Int) (a1 : Int) (a2 : Int) (w : World) (w0 : CameRun w N0 B0 S0 a0 len0 cap0 zs0) (w1 : (Lit.int .i64 a1).wf = true) (w2 : (Lit.int .u8 a2).wf = true) :
    Calls Try.prog 4 #[.agg #[.int .i64 N0, .int .i64 B0, .int .i64 S0, .slice a0 len0 cap0], .int .i64 a1, .int .u8 a2] w fun e w' => e = .returned (.bool true) ∧ Below w.heap.size w w' := by
  obtain ⟨hz, hlc, hcm, hr, _, hu⟩ := w0
  have HX := Lib.hid hr
  have HU := Lib.hid hu
  clear hr hu
  have hw8 := u8_in w2
  obtain ⟨u, rfl⟩ := Int.eq_ofNat_of_zero_le hw8.1
  by_cases hf : fewB N0 S0 len0 = true
  · have h60 : N0 ≤ 60 ∧ S0 ≤ 60 ∧ len0 ≤ 4000 := by unfold fewB at hf; simpa [and_assoc] using hf
    by_cases hok : ∃ n sz st, Ok12 N0 B0 S0 len0 n sz st
    · obtain ⟨n, sz, st, rfl, rfl, rfl, hS, hm⟩ := hok
      have HF0 := Lib.hid (Four.new w 24 (.int .i64 (n : Int)) (.int .i64 (sz : Int)) (.int .i64 (st : Int)) (.slice a0 len0 cap0))
      have HG0 := Lib.hid ((Grew.refl w).alloc (.cells #[.int .i64 (n : Int), .int .i64 (sz : Int), .int .i64 (st : Int), .slice a0 len0 cap0] 24))
      have HStart := Lib.hid (fun W (g : Grew w W) => start_good a0 len0 cap0 zs0 W hz hS hm h60.2.2 hlc hcm HU.out (HX.out.grow g))
      have HSm := Lib.hid hS
      have hE := epoN_le st (n / sz)
      have hS' := hS
      obtain ⟨k1, k2, k3, k4⟩ := hS'
      have hk : ((u : Int) % 20) = ((u % 20 : Nat) : Int) := by simp
      have hk2 : Int.tmod (u : Int) 20 = ((u % 20 : Nat) : Int) := by rw [Int.tmod_eq_emod_of_nonneg (by omega), hk]
      have hk3 : u % 20 < 20 := Nat.mod_lt _ (by omega)
      generalize u % 20 = k at *
      have hle := batL_le n sz st zs0 a1
      clear hm
      go_enter Try.func4, Try.ntmps4
      go_wp2_with fail
      refine (few_any (n : Int) (sz : Int) (st : Int) a0 len0 cap0 _).mono ?_
      rintro e w1 ⟨rfl, g1⟩
      rw [hf]
      have HF1 := Lib.hid (HF0.out.grow g1)
      have HG1 := Lib.hid (HG0.out.trans g1)
      clear g1
      have X0 := HF1.out.c0
      have X1 := HF1.out.c1
      have X2 := HF1.out.c2
      have X3 := HF1.out.c3
      have hlX := HF1.out.lt
      go_wp2_with fail
      refine (HStart.out _ HG1.out).mono ?_
      rintro e w2 ⟨⟨b, oa, oc, rfl, hs, ho⟩, g2⟩
      have HS2 := Lib.hid (hs.grow ((Grew.refl w2).alloc (.cells #[.int .i64 n, .int .i64 sz, .int .i64 st, .slice oa (epoN st (n / sz)) oc] 33)))
      have HO2 := Lib.hid (ho.grow ((Grew.refl w2).alloc (.cells #[.int .i64 n, .int .i64 sz, .int .i64 st, .slice oa (epoN st (n / sz)) oc] 33)))
      have HW2 := Lib.hid (Four.new w2 33 (.int .i64 n) (.int .i64 sz) (.int .i64 st) (.slice oa (epoN st (n / sz)) oc))
      have HG2 := Lib.hid ((HG1.out.trans g2).alloc (.cells #[.int .i64 n, .int .i64 sz, .int .i64 st, .slice oa (epoN st (n / sz)) oc] 33))
      clear hs ho g2 X0 X1 X2 X3 hlX
      go_wp2_with fail
      generalize w2.alloc (.cells #[.int .i64 n, .int .i64 sz, .int .i64 st, .slice oa (epoN st (n / sz)) oc] 33) = U at *
      generalize w2.heap.size = wb at *
      have HSh := Lib.hid (fun (i : Int) (W : World) (g : Grew U W) => shard_any a1 i k (by omega) (HS2.out.grow g))
      have HRs := Lib.hid (fun (i : Int) (W : World) (g : Grew U W) => rshard_any a1 i k (by omega) HSm.out (HO2.out.grow g))
      have HBt := Lib.hid (fun (W : World) (g : Grew U W) => batch_any a1 (HS2.out.grow g))
      generalize batL n sz st zs0 a1 = l at *
      generalize epoN st (n / sz) = E at *
      obtain ⟨i0, hi, hz0, hz1, hz2⟩ := info_parts info_int12
      have HEnd := Lib.hid (fun (h : 0 < k) => firstL_all (l := l) (m := k + 2) h (by omega))
      go_wp2
      go_loopw [11, 12] (fun v i wr => ∃ m : Nat, m ≤ k + 2 ∧ i = .int .i64 ((m : Int) - 1) ∧ Hid (wr.ownsRow U.heap.size 3 1 v (firstL l k m).length ((firstL l k m).map (Value.int .i64))) ∧ Hid (Grew U wr)) (fun _ i _ => ((k : Int) + 1 - intOf i).toNat)
      case atStart => exact ⟨0, Nat.zero_le _, by go_num, Lib.hid (by rw [firstL_zero]; exact World.ownsRow_nil _ _ _ _), Lib.hid (Grew.refl _)⟩
      case round =>
        obtain ⟨m, hm2, rfl, HO, HG⟩ := hrel
        have hsz := HG.out.size
        by_cases hlt : m < k + 2
        · have hi1 : (m : Int) - 1 ≤ (k : Int) := by omega
          have HT := Lib.hid (firstL_snoc l k m)
          have hpl := pieceL_le l ((m : Int) - 1) k
          have hfl := firstL_le l k m
          have HC1 := Lib.hid (HSh.out ((m : Int) - 1) wr HG.out)
          have HC2 := Lib.hid (fun (W : World) (g : Grew U W) => HRs.out ((m : Int) - 1) W g)
          obtain ⟨p, hp⟩ : ∃ p, p = pieceL l ((m : Int) - 1) k := ⟨_, rfl⟩
          rw [← hp] at HT hpl HC1 HC2
          obtain ⟨q, hq⟩ : ∃ q, q = p.length := ⟨_, rfl⟩
          obtain ⟨fl, hf1⟩ : ∃ fl, fl = (firstL l k m).length := ⟨_, rfl⟩
          rw [← hq] at hpl HC1 HC2
          rw [← hf1] at hfl HO
          have HQ := Lib.hid hq
          have HF1' := Lib.hid hf1
          clear hp hq hf1
          go_wp2_with fail
          refine HC1.out.mono ?_
          rintro e w3 ⟨⟨a3, c3, rfl, hb3⟩, g3⟩
          have HB3 := Lib.hid hb3
          have HO3 := Lib.hid (own_grow HO.out g3)
          have HG3 := Lib.hid (HG.out.trans g3)
          have HWr := Lib.hid (HW2.out.grow HG3.out)
          clear hb3 g3
          have W0 := HWr.out.c0
          have W1 := HWr.out.c1
          have W2 := HWr.out.c2
          have W3 := HWr.out.c3
          have hlW := HWr.out.lt
          go_wp2_with fail
          refine (HC2.out w3 HG3.out).mono ?_
          rintro e w4 ⟨⟨a4, c4, rfl, _, _, hr4⟩, g4⟩
          have HR4 := Lib.hid hr4
          have HB4 := Lib.hid (HB3.out.grow g4)
          have HO4 := Lib.hid (own_grow HO3.out g4)
          have HG4 := Lib.hid (HG3.out.trans g4)
          clear hr4 g4 W0 W1 W2 W3 hlW
          go_wp2_with fail
          refine (iequal_n (n := q) (m := q) a3 a4 c3 c4 p p w4 HQ.out.symm HQ.out.symm (by omega) (by omega) HB4.out.rd HR4.out).mono ?_
          rintro e w5 ⟨rfl, g5⟩
          rw [decide_eq_true rfl]
          have HB5 := Lib.hid (HB4.out.grow g5)
          have HO5 := Lib.hid (own_grow HO4.out g5)
          have HG5 := Lib.hid (HG4.out.trans g5)
          have hsz5 := HG5.out.size
          clear g5
          cases a3 with
          | none =>
            obtain ⟨e1, e2, e3⟩ := bufK_none HB5.out
            subst e1 e2 e3
            have h6 := HO5.out
            rw [HF1'.out, show firstL l k m = firstL l k (m + 1) from by rw [← HT.out, List.append_nil]] at h6
            have HO6 := Lib.hid h6
            clear h6
            go_wp2_with (at_builtin; refine wpList_append_own_none rfl _ _ 38 rfl U.heap.size 3 i0 1 Try.underlying38 hi _ _ _ rfl HO5.out rfl ?_)
            go_wp2_with fail
            go_roundw
            case rel => exact ⟨m + 1, by omega, by go_num, HO6, HG5⟩
            case measure => simp [intOf]; omega
          | some x3 =>
            go_wp2_with (at_builtin; refine wpList_append_own _ rfl _ _ 38 rfl U.heap.size 3 i0 (.int .i64 0) 1 8 Try.underlying38 hi hz0 hz1 hz2 rfl (by decide) _ fl _ rfl HO5.out x3 q c3 (p.map (Value.int .i64)) rfl ?qc1 ?qc2 ?qc3 ?qc4 ?qc5 ?qc6 ?_)
            case qc1 => rw [List.length_map, ← HQ.out]; simp
            case qc2 => exact news_at HB5.out
            case qc3 => intro u hu; obtain ⟨z, _, rfl⟩ := List.mem_map.1 hu; rfl
            case qc4 => unfold maxLen; omega
            case qc5 => omega
            case qc6 => omega
            intro v' w6 hown hgrow hnil
            have HO6 : Hid (w6.ownsRow U.heap.size 3 1 v' (firstL l k (m + 1)).length ((firstL l k (m + 1)).map (Value.int .i64))) := Lib.hid (by rw [← HT.out, List.length_append, ← HF1'.out, ← HQ.out, List.map_append]; exact hown)
            have HG6 : Hid (Grew U w6) := Lib.hid (Below.grown HG5.out hgrow hsz5 (fun b hb => (World.ownsRow.lt HO5.out b hb).1))
            clear hown hgrow hnil
            go_wp2_with fail
            go_roundw
            case rel => exact ⟨m + 1, by omega, by go_num, HO6, HG6⟩
            case measure => simp [intOf]; omega
        · obtain rfl : m = k + 2 := by omega
          have hi1 : ¬ (((k + 2 : Nat) : Int) - 1 ≤ (k : Int)) := by omega
          obtain ⟨aA, cA, rfl, hbA⟩ := own_ints HO.out
          have HBA := Lib.hid hbA
          have HGw := Lib.hid (HG2.out.trans HG.out)
          clear hbA HO
          by_cases hk0 : k = 0
          · subst hk0
            rw [firstL_none] at HBA ⊢
            go_wp2_with fail
            refine (salive_any _).mono ?_
            rintro e w9 ⟨rfl, g9⟩
            have HG9 := Lib.hid (HGw.out.trans g9)
            clear g9
            go_wp2
            go_ret
            exact ⟨rfl, HG9.out⟩
          · have hkp : 0 < k := by omega
            rw [HEnd.out hkp] at HBA ⊢
            go_wp2_with fail
            refine (salive_any _).mono ?_
            rintro e w9 ⟨rfl, g9⟩
            have HG9 := Lib.hid (HGw.out.trans g9)
            have HU9 := Lib.hid (HG.out.trans g9)
            have HB9 := Lib.hid (HBA.out.grow g9)
            clear g9
            go_wp2_with fail
            refine (HBt.out w9 HU9.out).mono ?_
            rintro e w10 ⟨⟨a10, c10, rfl, hr10⟩, g10⟩
            have HR10 := Lib.hid hr10
            have HB10 := Lib.hid (HB9.out.grow g10)
            have HG10 := Lib.hid (HG9.out.trans g10)
            clear hr10 g10
            go_wp2_with fail
            refine (iequal_n (n := l.length) (m := l.length) aA a10 cA c10 l l w10 rfl rfl (by omega) (by omega) HB10.out.rd HR10.out).mono ?_
            rintro e w11 ⟨rfl, g11⟩
            rw [decide_eq_true rfl]
            have HG11 := Lib.hid (HG10.out.trans g11)
            clear g11
            go_wp2
            go_ret
            exact ⟨rfl, HG11.out⟩
    · skip
      have HF0 := Lib.hid (Four.new w 24 (.int .i64 N0) (.int .i64 B0) (.int .i64 S0) (.slice a0 len0 cap0))
      have HG0 := Lib.hid ((Grew.refl w).alloc (.cells #[.int .i64 N0, .int .i64 B0, .int .i64 S0, .slice a0 len0 cap0] 24))
      have HB := Lib.hid (fun w => start_bad N0 B0 S0 a0 len0 cap0 w h60.1 h60.2.1 h60.2.2 hok)
      clear hok
      go_enter Try.func4, Try.ntmps4
      go_wp2_with fail
      refine (few_any N0 B0 S0 a0 len0 cap0 _).mono ?_
      rintro e w1 ⟨rfl, g1⟩
      rw [hf]
      have HF1 := Lib.hid (HF0.out.grow g1)
      have HG1 := Lib.hid (HG0.out.trans g1)
      clear g1
      have X0 := HF1.out.c0
      have X1 := HF1.out.c1
      have X2 := HF1.out.c2
      have X3 := HF1.out.c3
      have hlX := HF1.out.lt
      go_wp2_with fail
      refine (HB.out _).mono ?_
      rintro e w2 ⟨rfl, g2⟩
      have HG2 := Lib.hid ((HG1.out.trans g2).alloc (.cells #[.int .i64 0, .int .i64 0, .int .i64 0, .slice none 0 0] 33))
      clear g2 X0 X1 X2 X3 hlX
      go_wp2_with fail
      refine (salive_any _).mono ?_
      rintro e w9 ⟨rfl, g9⟩
      have HG9 := Lib.hid (HG2.out.trans g9)
      clear g9
      go_wp2
      go_ret
      exact ⟨rfl, HG9.out⟩
  · have hf : fewB N0 S0 len0 = false := by simpa using hf
    have HF0 := Lib.hid (Four.new w 24 (.int .i64 N0) (.int .i64 B0) (.int .i64 S0) (.slice a0 len0 cap0))
    have HG0 := Lib.hid ((Grew.refl w).alloc (.cells #[.int .i64 N0, .int .i64 B0, .int .i64 S0, .slice a0 len0 cap0] 24))
    go_enter Try.func4, Try.ntmps4
    go_wp2_with fail
    refine (few_any N0 B0 S0 a0 len0 cap0 _).mono ?_
    rintro e w1 ⟨rfl, g1⟩
    rw [hf]
    have HF1 := Lib.hid (HF0.out.grow g1)
    have HG1 := Lib.hid (HG0.out.trans g1)
    clear g1
    go_wp2_with fail
    refine (salive_any _).mono ?_
    rintro e w9 ⟨rfl, g9⟩
    have HG9 := Lib.hid (HG1.out.trans g9)
    clear g9
    go_wp2
    go_ret
    exact ⟨rfl, HG9.out⟩

set_option maxRecDepth 100000 in
theorem lifted (os : Os) (started : os.Started) (H : Type) (enc : TypeId × Value → H) :
    ReturnsInHanded {} Try.checked os 4 .any (Rows.samplerShardsSpec.pre6 enc Try.prog Try.f4 Rows.samplerShardsRow.domain false) (Rows.samplerShardsSpec.post enc Try.prog Try.f4 false true false false) := by
  refine returnsInHanded_of_change (C := Try.checked) own started (by kernel_rfl) Try.func4
    (ChangeSpec.witness6 (enc := enc) (C := Try.checked) false ⟨#[], #[.agg #[.int .i64 0, .int .i64 0, .int .i64 0, .slice none 0 0], .int .i64 0, .int .u8 0], []⟩ 8 (by kernel_rfl) (by kernel_rfl) (by kernel_rfl) (by kernel_rfl)) ?_
  intro W base args ds gs before hval0 hW hcnd _
  have hval : ∀ (j : Nat) t v, Try.f4.params[j]? = some t → args[j]? = some v → Value.okWide Try.prog W .any base t v := hval0
  have hW' := hW
  obtain ⟨p, q, hA0, hV, rfl, hfz, hnd⟩ := hW
  have hA : DataW.TrodAll enc Try.prog W 0 (fun _ => true) true Try.f4.params.toList args.toList ds p := hA0
  rw [Try.params4] at hA hval
  obtain ⟨v0, vs0, d0, ds0, p0, q0, hargs, rfl, rfl, h0, r0⟩ := trodAll_cons hA
  obtain ⟨v1, vs1, d1, ds1, p1, q1, rfl, rfl, rfl, h1, r1⟩ := trodAll_cons r0
  obtain ⟨v2, vs2, d2, ds2, p2, q2, rfl, rfl, rfl, h2, r2⟩ := trodAll_cons r1
  obtain ⟨rfl, rfl, rfl⟩ := trodAll_nil r2
  obtain rfl : args = #[v0, v1, v2] := by cases args; simp_all
  obtain ⟨rfl, rfl⟩ := trodVars_none hV
  have k0 := h0
  have lt0 : ∀ x ∈ p0, x.block < W.heap.size := by obtain ⟨m, hm⟩ := k0; exact DataW.trod_lt m _ _ _ hm
  obtain ⟨c00, c10, c20, c30, y00, y10, y20, y30, m0, rfl, rfl, rfl, hy00, hy10, hy20, hy30⟩ := Joins.open_agg4 Try.underlying24 (by kernel_rfl) (by kernel_rfl) (hval 0 24 v0 rfl rfl) h0
  obtain ⟨N0, e00, rfl, _⟩ := DataW.trod_int Try.underlying3 hy00
  obtain ⟨B0, e10, rfl, _⟩ := DataW.trod_int Try.underlying3 hy10
  obtain ⟨S0, e20, rfl, _⟩ := DataW.trod_int Try.underlying3 hy20
  simp at e00 e10 e20
  subst e00 e10 e20
  obtain ⟨a0, len0, cap0, zs0, rfl, w0⟩ : ∃ a l c us, c30 = .slice a l c ∧ CameRun W N0 B0 S0 a l c us := by
    rcases open_ints Try.underlying22 Try.underlying36 (by kernel_rfl) hy30 with ⟨hcs, _⟩ | ⟨x, l, c, zs, hcs, _, hl, hm, hz, hx, hcell, hwz⟩
    · simp at hcs
      subst hcs
      exact ⟨none, 0, 0, [], rfl, cameRun_none _ _ _ _⟩
    · simp at hcs
      subst hcs
      simp only [if_true] at hz
      exact ⟨some x, l, c, _, rfl, cameRun_some hl hm hz hcell hwz⟩
  obtain ⟨a1, rfl, rfl, rfl, w1⟩ := open_int Try.underlying3 (hval 1 3 v1 rfl rfl) h1
  obtain ⟨a2, rfl, rfl, rfl, w2⟩ := open_int Try.underlying5 (hval 2 5 v2 rfl rfl) h2
  clear hA0 hval0
  refine (walk N0 B0 S0 a0 len0 cap0 zs0 a1 a2 W w0 w1 w2).mono fun e W' ⟨he, bel⟩ => ?_
  subst he
  exact ⟨_, rfl, _, _, _, [], _, [], hW', trodAll_mk1 (shut_bool Try.underlying4 _), (trodAll_cons_mk (Below.trod laidOut (by kernel_rfl) (of_decide_eq_true (by kernel_rfl)) k0 bel lt0) (trodAll_cons_mk (shut_int Try.underlying3 w1) (trodAll_cons_mk (shut_int Try.underlying5 w2) trodAll_mk0))), rfl, bel.frame _, fun h => by cases h⟩

theorem over : Rows.samplerShardsRow.holds Try.pinned (OpenSpec.ofChange Rows.samplerShardsSpec) :=
  OpenClaim.holds_of_wide 4 Try.f4 rfl rfl rfl rfl rfl rfl rfl ⟨rfl, rfl, rfl, rfl, rfl⟩ rfl rfl rfl rfl rfl (by kernel_rfl) Try.func4 (by kernel_rfl)
    (of_decide_eq_true (by kernel_rfl)) (by unfold Func.isWrapper; first | (rw [if_pos (by decide +kernel)]; kernel_rfl) | (rw [if_neg (by decide +kernel)]; exact ⟨rfl, rfl⟩))
    (fun os started H enc _ => lifted os started H enc)

theorem proved : Rows.SamplerShardsSaid := over
end Go.Proofs.Ytdcpankbolfmiaa.samplerShards
