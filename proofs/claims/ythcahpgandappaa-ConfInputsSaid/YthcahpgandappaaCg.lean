/- Input of package conf. Conditions: what came in; at most 2^44 sizes and examples. -/
import Derived.Test.YthcahpgandappaaCf
import Derived.Deep.RegionHeld
import Derived.OrdersHeld
namespace Go.Proofs.Ythcahpgandappaa
open Go.RowKit

/-- The code of an input. -/
def codeI (f : Cf) (es : List Ex) (sn rn : Nat) : Int :=
  if codeC f ≠ 0 then codeC f else if inR es.length f.ba 1048576 = false then 7
  else if (chkV es (el f.z 0) (el f.z (f.z.length - 1))).2 = false ∨ (sn : Int) ≠ cnt f.z then 5
  else if (rn : Int) < epV f es.length * needV es.length then 8 else 0
theorem codeI_c {f : Cf} {es : List Ex} {sn rn : Nat} (h : codeC f ≠ 0) : codeI f es sn rn = codeC f := by unfold codeI; rw [if_pos h]
theorem codeI_7 {f : Cf} {es : List Ex} {sn rn : Nat} (h : codeC f = 0) (h1 : inR es.length f.ba 1048576 = false) : codeI f es sn rn = 7 := by unfold codeI; rw [if_neg (by simp [h]), if_pos h1]
theorem codeI_5 {f : Cf} {es : List Ex} {sn rn m : Nat} (h : codeC f = 0) (h1 : inR es.length f.ba 1048576 = true) (hm : f.z.length = m + 1) (h2 : (chkV es (el f.z 0) (el f.z m)).2 = false ∨ (sn : Int) ≠ cnt f.z) : codeI f es sn rn = 5 := by
  unfold codeI
  rw [if_neg (by simp [h]), if_neg (by simp [h1]), show f.z.length - 1 = m by omega, if_pos h2]
theorem codeI_8 {f : Cf} {es : List Ex} {sn rn m : Nat} (h : codeC f = 0) (h1 : inR es.length f.ba 1048576 = true) (hm : f.z.length = m + 1) (h2 : (chkV es (el f.z 0) (el f.z m)).2 = true) (h3 : (sn : Int) = cnt f.z) (h4 : (rn : Int) < epV f es.length * needV es.length) : codeI f es sn rn = 8 := by
  unfold codeI
  rw [if_neg (by simp [h]), if_neg (by simp [h1]), show f.z.length - 1 = m by omega, if_neg (by simp [h2, h3]), if_pos h4]
theorem codeI_0 {f : Cf} {es : List Ex} {sn rn m : Nat} (h : codeC f = 0) (h1 : inR es.length f.ba 1048576 = true) (hm : f.z.length = m + 1) (h2 : (chkV es (el f.z 0) (el f.z m)).2 = true) (h3 : (sn : Int) = cnt f.z) (h4 : ¬ (rn : Int) < epV f es.length * needV es.length) : codeI f es sn rn = 0 := by
  unfold codeI
  rw [if_neg (by simp [h]), if_neg (by simp [h1]), show f.z.length - 1 = m by omega, if_neg (by simp [h2, h3]), if_neg h4]
theorem last_facts {n m : Nat} (h : n = m + 1) (hn : n ≤ 17592186044416) : (n : Int) - 1 = (m : Int) ∧ wrap64 (m : Int) = (m : Int) ∧ IntKind.i64.wrap (m : Int) = (m : Int) ∧ m < n ∧ 0 < n ∧ (m : Int).toNat = m :=
  ⟨by omega, IntWalk.wrap64_in _ (by omega), IntWalk.i64_in _ (by omega), by omega, by omega, Int.toNat_natCast m⟩
theorem dcheck_n {n : Nat} (l : Option Addr) (c : Nat) (es : List Ex) (i o : Int) (w : World) (hn : es.length = n) (hl : n ≤ 17592186044416) (hL : LenE es) (h : RdE w.heap.size w l es) :
    Calls Try.prog 21 #[.slice l n c, .int .i64 i, .int .i64 o] w fun e w' => e = .returned (.tuple #[.int .i64 (chkV es i o).1, .bool (chkV es i o).2]) ∧ Grew w w' := by
  subst hn; exact dcheck_any l c es i o w hl hL h
theorem rcheckE_n {n : Nat} (l : Option Addr) (c : Nat) (es : List Ex) (i o : Int) (w : World) (hn : es.length = n) (hl : n ≤ 17592186044416) (hL : LenE es) (h : RdE w.heap.size w l es) :
    Calls Try.prog 23 #[.slice l n c, .int .i64 i, .int .i64 o] w fun e w' => e = .returned (.tuple #[.int .i64 (chkV es i o).1, .bool (chkV es i o).2]) ∧ Grew w w' := by
  subst hn; exact rcheckE_any l c es i o w hl hL h

set_option maxRecDepth 100000 in
set_option maxHeartbeats 4000000 in
theorem input_any (a : Option Addr) (n c : Nat) (f : Cf) (da : Option Addr) (dn dc : Nat) (es : List Ex) (sa : Option Addr) (sn sc : Nat) (ra : Option Addr) (rn rc : Nat) (w : World) (hcame : CameI w a n c f da dn dc es sn sc rn rc) (hd : dn ≤ 17592186044416) (hn : n ≤ 17592186044416) :
    Calls Try.prog 10 #[.agg #[.slice a n c, .int .i64 f.sh, .int .i64 f.ra, .int .i64 f.mo, .int .i64 f.wo, .int .i64 f.ba, .int .i64 f.mi, .int .i64 f.st, .int .i64 f.bu, .int .i64 f.ch, .int .i64 f.wi, .int .i64 f.ca, .slice da dn dc, .slice sa sn sc, .slice ra rn rc]] w fun e w' => e = .returned (.int .i64 (codeI f es sn rn)) ∧ Grew w w' := by
  obtain ⟨⟨hn0, hc0, hm0, _, hr0, _, bsh, _, _, bwo, bba, bmi, bst, bbu, bch, bwi, bca⟩, ⟨hdl, hdc, hdm, hre, _, hle⟩, hs, hr⟩ := hcame
  have g0 : Grew w (w.alloc (.cells #[.slice a n c, .int .i64 f.sh, .int .i64 f.ra, .int .i64 f.mo, .int .i64 f.wo, .int .i64 f.ba, .int .i64 f.mi, .int .i64 f.st, .int .i64 f.bu, .int .i64 f.ch, .int .i64 f.wi, .int .i64 f.ca, .slice da dn dc, .slice sa sn sc, .slice ra rn rc] 34)) := (Grew.refl w).alloc _
  have HM := Lib.hid (InM.new w a n c f da dn dc sa sn sc ra rn rc)
  have HX := Lib.hid (hr0.grow g0)
  have HE := Lib.hid (hre.grow g0)
  have HG := Lib.hid g0
  have HN := Lib.hid hn0
  have HDL := Lib.hid hdl
  have HLE := Lib.hid hle
  clear g0 hn0 hr0 hre hdl hle
  go_enter Try.func10, Try.ntmps10
  go_upto_region 1 with fail
  generalize hW0 : w.alloc (.cells #[.slice a n c, .int .i64 f.sh, .int .i64 f.ra, .int .i64 f.mo, .int .i64 f.wo, .int .i64 f.ba, .int .i64 f.mi, .int .i64 f.st, .int .i64 f.bu, .int .i64 f.ch, .int .i64 f.wi, .int .i64 f.ca, .slice da dn dc, .slice sa sn sc, .slice ra rn rc] 34) = W0 at *
  generalize hb0 : w.heap.size = b0 at *
  refine wp_region_held_drew (S := (fun W' => Grew W0 W' ∧ W'.cell? ⟨b0, 0, none⟩ = some (.slice a n c) ∧ W'.cell? ⟨b0, 1, none⟩ = some (.int .i64 f.sh) ∧ W'.cell? ⟨b0, 2, none⟩ = some (.int .i64 f.ra) ∧ W'.cell? ⟨b0, 3, none⟩ = some (.int .i64 f.mo) ∧ W'.cell? ⟨b0, 4, none⟩ = some (.int .i64 f.wo) ∧ W'.cell? ⟨b0, 5, none⟩ = some (.int .i64 f.ba) ∧ W'.cell? ⟨b0, 6, none⟩ = some (.int .i64 f.mi) ∧ W'.cell? ⟨b0, 7, none⟩ = some (.int .i64 f.st) ∧ W'.cell? ⟨b0, 8, none⟩ = some (.int .i64 f.bu) ∧ W'.cell? ⟨b0, 9, none⟩ = some (.int .i64 f.ch) ∧ W'.cell? ⟨b0, 10, none⟩ = some (.int .i64 f.wi) ∧ W'.cell? ⟨b0, 11, none⟩ = some (.int .i64 f.ca) ∧ W'.cell? ⟨b0, 12, none⟩ = some (.slice da dn dc) ∧ W'.cell? ⟨b0, 13, none⟩ = some (.slice sa sn sc) ∧ W'.cell? ⟨b0, 14, none⟩ = some (.slice ra rn rc))) (by kernel_rfl) ⟨Grew.drew' (Grew.refl _), HM.out.c0, HM.out.c1, HM.out.c2, HM.out.c3, HM.out.c4, HM.out.c5, HM.out.c6, HM.out.c7, HM.out.c8, HM.out.c9, HM.out.c10, HM.out.c11, HM.out.c12, HM.out.c13, HM.out.c14⟩ (fun hHeld => ?_)
  refine wpAnyH_take (i := 0) (oi := { dst := some 10, op := Go.Op.fieldAddr 34 (Go.Operand.tmp 1) 0, type := 0, pos := _, after := #[], guard := none }) (v := ?v1) rfl (by kernel_rfl) (by kernel_rfl) (by kernel_rfl) (fun _ _ _ h => h) (Or.inl ⟨by kernel_rfl, ?hy1⟩) (by assumption) ?_
  case hy1 => intro w hSw; (try dsimp only at hSw); first | (go_simp; done) | (go_simp; with_reducible rfl)
  (try simp only [Act.put, List.setIfInBounds_toArray, List.set_cons_zero, List.set_cons_succ])
  refine wpAnyH_take (i := 1) (oi := { dst := some 11, op := Go.Op.load 24 (Go.Operand.tmp 10), type := 24, pos := _, after := #[{ on := 0, ground := Go.Ground.data }], guard := none }) (v := ?v2) rfl (by kernel_rfl) (by kernel_rfl) (by kernel_rfl) (fun _ _ _ h => h) (Or.inl ⟨by kernel_rfl, ?hy2⟩) (by assumption) ?_
  case hy2 => intro w hSw; (try dsimp only at hSw); first | (go_simp; done) | (go_simp; with_reducible rfl)
  (try simp only [Act.put, List.setIfInBounds_toArray, List.set_cons_zero, List.set_cons_succ])
  refine wpAnyH_take (i := 2) (oi := { dst := some 12, op := Go.Op.fieldAddr 34 (Go.Operand.tmp 1) 1, type := 0, pos := _, after := #[], guard := none }) (v := ?v3) rfl (by kernel_rfl) (by kernel_rfl) (by kernel_rfl) (fun _ _ _ h => h) (Or.inl ⟨by kernel_rfl, ?hy3⟩) (by assumption) ?_
  case hy3 => intro w hSw; (try dsimp only at hSw); first | (go_simp; done) | (go_simp; with_reducible rfl)
  (try simp only [Act.put, List.setIfInBounds_toArray, List.set_cons_zero, List.set_cons_succ])
  refine wpAnyH_take (i := 3) (oi := { dst := some 13, op := Go.Op.load 30 (Go.Operand.tmp 12), type := 30, pos := _, after := #[{ on := 2, ground := Go.Ground.data }], guard := none }) (v := ?v4) rfl (by kernel_rfl) (by kernel_rfl) (by kernel_rfl) (fun _ _ _ h => h) (Or.inl ⟨by kernel_rfl, ?hy4⟩) (by assumption) ?_
  case hy4 => intro w hSw; (try dsimp only at hSw); first | (go_simp; done) | (go_simp; with_reducible rfl)
  (try simp only [Act.put, List.setIfInBounds_toArray, List.set_cons_zero, List.set_cons_succ])
  refine wpAnyH_take (i := 4) (oi := { dst := some 14, op := Go.Op.call { callee := Go.Callee.builtin Go.Builtin.len, args := #[Go.Operand.tmp 13], argTypes := #[30] }, type := 3, pos := _, after := #[{ on := 3, ground := Go.Ground.data }], guard := none }) (v := ?v5) rfl (by kernel_rfl) (by kernel_rfl) (by kernel_rfl) (fun _ _ _ h => h) (Or.inl ⟨by kernel_rfl, ?hy5⟩) (by assumption) ?_
  case hy5 => intro w hSw; (try dsimp only at hSw); first | (go_simp; done) | (go_simp; with_reducible rfl)
  (try simp only [Act.put, List.setIfInBounds_toArray, List.set_cons_zero, List.set_cons_succ])
  refine wpAnyH_ready (rs := [5]) (by kernel_rfl) (by simp) ?_
  refine AllReadyH.cons (o := { dst := some 3, op := Go.Op.alloc 24, type := 0, pos := _, after := #[], guard := none }) rfl (fun K hK => ?_) AllReadyH.nil
  go_simp
  skip
  (try go_wp2_with fail)
  refine hK.out _ _ ?hS7 (fun hHeld => ?_)
  case hS7 => (try dsimp only); exact keepI ((Grew.refl _).alloc _) (by assumption)
  clear hK K
  (try simp only [Act.put, List.setIfInBounds_toArray, List.set_cons_zero, List.set_cons_succ])
  refine wpAnyH_ready (rs := [6]) (by kernel_rfl) (by simp) ?_
  refine AllReadyH.cons (o := { dst := none, op := Go.Op.store 24 (Go.Operand.tmp 3) (Go.Operand.tmp 11), type := 0, pos := _, after := #[{ on := 5, ground := Go.Ground.data }, { on := 1, ground := Go.Ground.data }, { on := 0, ground := Go.Ground.phase }, { on := 1, ground := Go.Ground.phase }, { on := 2, ground := Go.Ground.textOnly Go.Departure.lateStores }, { on := 3, ground := Go.Ground.textOnly Go.Departure.lateStores }, { on := 4, ground := Go.Ground.textOnly Go.Departure.lateStoresUnsure }, { on := 5, ground := Go.Ground.phase }], guard := none }) rfl (fun K hK => ?_) AllReadyH.nil
  go_simp
  skip
  (try go_wp2_with fail)
  refine hK.out _ _ ?hS9 (fun hHeld => ?_)
  case hS9 => (try dsimp only); exact keepI (Grew.drew' ((Grew.refl W0).alloc _)) ⟨Grew.refl W0, HM.out.c0, HM.out.c1, HM.out.c2, HM.out.c3, HM.out.c4, HM.out.c5, HM.out.c6, HM.out.c7, HM.out.c8, HM.out.c9, HM.out.c10, HM.out.c11, HM.out.c12, HM.out.c13, HM.out.c14⟩
  clear hK K
  (try simp only [Act.put, List.setIfInBounds_toArray, List.set_cons_zero, List.set_cons_succ])
  refine wpAnyH_take (i := 7) (oi := { dst := some 4, op := Go.Op.assign (Go.Operand.tmp 14), type := 3, pos := _, after := #[{ on := 4, ground := Go.Ground.data }, { on := 6, ground := Go.Ground.chain }, { on := 0, ground := Go.Ground.phase }, { on := 1, ground := Go.Ground.phase }, { on := 2, ground := Go.Ground.phase }, { on := 3, ground := Go.Ground.phase }, { on := 4, ground := Go.Ground.phase }, { on := 5, ground := Go.Ground.phase }, { on := 6, ground := Go.Ground.phase }], guard := none }) (v := ?v10) rfl (by kernel_rfl) (by kernel_rfl) (by kernel_rfl) (fun _ _ _ h => h) (Or.inl ⟨by kernel_rfl, ?hy10⟩) (by assumption) ?_
  case hy10 => intro w hSw; (try dsimp only at hSw); first | (go_simp; done) | (go_simp; with_reducible rfl)
  (try simp only [Act.put, List.setIfInBounds_toArray, List.set_cons_zero, List.set_cons_succ])
  refine wpAnyH_done (by kernel_rfl) ?_ _
  have gA : Grew W0 (W0.alloc (.cells #[.slice a n c, .int .i64 f.sh, .int .i64 f.ra, .int .i64 f.mo, .int .i64 f.wo, .int .i64 f.ba, .int .i64 f.mi, .int .i64 f.st, .int .i64 f.bu, .int .i64 f.ch, .int .i64 f.wi, .int .i64 f.ca] 24)).drew := Grew.drew' ((Grew.refl W0).alloc _)
  have HC0 := Lib.hid ((CfM.new W0 a n c f).grow (Grew.drew' (Grew.refl _)))
  have HM0 := Lib.hid (HM.out.grow gA)
  have HX0 := Lib.hid (HX.out.grow gA)
  have HE0 := Lib.hid (HE.out.grow gA)
  have HG0 := Lib.hid (HG.out.trans gA)
  clear HM HX HE HG gA hHeld
  generalize hW1 : (W0.alloc (.cells #[.slice a n c, .int .i64 f.sh, .int .i64 f.ra, .int .i64 f.mo, .int .i64 f.wo, .int .i64 f.ba, .int .i64 f.mi, .int .i64 f.st, .int .i64 f.bu, .int .i64 f.ch, .int .i64 f.wi, .int .i64 f.ca] 24)).drew = W1 at *
  generalize hb1 : W0.heap.size = b1 at *
  clear hW0 hW1
  have q0 := HC0.out.c0
  have q1 := HC0.out.c1
  have q2 := HC0.out.c2
  have q3 := HC0.out.c3
  have q4 := HC0.out.c4
  have q5 := HC0.out.c5
  have q6 := HC0.out.c6
  have q7 := HC0.out.c7
  have q8 := HC0.out.c8
  have q9 := HC0.out.c9
  have q10 := HC0.out.c10
  have q11 := HC0.out.c11
  go_wp2_with fail
  refine (check_any a c f W1 HN.out hn hc0 hm0 HX0.out).mono ?_
  rintro e w1 ⟨rfl, g1⟩
  have HC1 := Lib.hid (HC0.out.grow g1)
  have HM1 := Lib.hid (HM0.out.grow g1)
  have HX1 := Lib.hid (HX0.out.grow g1)
  have HE1 := Lib.hid (HE0.out.grow g1)
  have HG1 := Lib.hid (HG0.out.trans g1)
  clear HC0 HM0 HX0 HE0 HG0 g1
  clear q0 q1 q2 q3 q4 q5 q6 q7 q8 q9 q10 q11
  have q5 := HC1.out.c5
  by_cases h0 : codeC f = 0
  · have H0 := Lib.hid h0
    rw [h0]
    cases h1 : inR dn f.ba 1048576 with
    | false =>
      have HR := Lib.hid (codeI_7 (sn := sn) (rn := rn) (es := es) h0 (by rw [HDL.out]; exact h1))
      have H1 := Lib.hid h1
      clear h0 h1
      go_wp2_with fail
      refine (within_any _ _ _ _).mono ?_
      rintro e wX ⟨rfl, rfl⟩
      rw [H1.out]
      go_wp2
      go_ret
      exact ⟨ret_int HR.out.symm, HG1.out⟩
    | true =>
      have hdn := (inR_of h1).2
      have hz := (codeC_0 h0).2.2.1
      have hRight := codeV_zero hz
      obtain ⟨m, hnm⟩ : ∃ m, n = m + 1 := ⟨n - 1, by have := hRight.1; rw [HN.out] at this; omega⟩
      have hmz : f.z.length = m + 1 := by rw [HN.out]; exact hnm
      obtain ⟨bz, oz, rfl, hbz, hcz⟩ := rdK_some HX1.out (by omega)
      have hz0 : w1.cell? ⟨bz, oz, none⟩ = some (.int .i64 (el f.z 0)) := hcz 0 (by omega)
      have hzm : w1.cell? ⟨bz, oz + m, none⟩ = some (.int .i64 (el f.z m)) := hcz m (by omega)
      have HZ := Lib.hid hz
      have HRT := Lib.hid hRight
      have HMZ := Lib.hid hmz
      have HR5 := Lib.hid (fun h2 => codeI_5 (sn := sn) (rn := rn) (es := es) (m := m) h0 (by rw [HDL.out]; exact h1) hmz h2)
      have HR8 := Lib.hid (fun h2 h3 h4 => codeI_8 (sn := sn) (rn := rn) (es := es) (m := m) h0 (by rw [HDL.out]; exact h1) hmz h2 h3 h4)
      have HR0 := Lib.hid (fun h2 h3 h4 => codeI_0 (sn := sn) (rn := rn) (es := es) (m := m) h0 (by rw [HDL.out]; exact h1) hmz h2 h3 h4)
      have H1 := Lib.hid h1
      have HED := Lib.hid (HE1.out.grow (Grew.drew' (Grew.refl w1)))
      obtain ⟨i1, i2, i3, i4, i5, i6⟩ := last_facts hnm hn
      clear h0 h1 hcz hz hRight hmz hnm
      go_wp2_with fail
      refine (within_any _ _ _ _).mono ?_
      rintro e wX ⟨rfl, rfl⟩
      rw [H1.out]
      go_upto_region 7 with fail
      refine wp_region_held_drew (S := (fun W' => Grew w1 W' ∧ W'.cell? ⟨b0, 12, none⟩ = some (.slice da dn dc) ∧ W'.cell? ⟨b1, 0, none⟩ = some (.slice (some ⟨bz, oz, none⟩) n c) ∧ W'.cell? ⟨bz, oz, none⟩ = some (.int .i64 (el f.z 0)) ∧ W'.cell? ⟨bz, oz + m, none⟩ = some (.int .i64 (el f.z m)))) (by kernel_rfl) ⟨Grew.drew' (Grew.refl _), HM1.out.c12, HC1.out.c0, hz0, hzm⟩ (fun hHeld => ?_)
      refine wpAnyH_take (i := 0) (oi := { dst := some 26, op := Go.Op.fieldAddr 34 (Go.Operand.tmp 1) 1, type := 0, pos := _, after := #[], guard := none }) (v := ?v11) rfl (by kernel_rfl) (by kernel_rfl) (by kernel_rfl) (fun _ _ _ h => h) (Or.inl ⟨by kernel_rfl, ?hy11⟩) (by assumption) ?_
      case hy11 => intro w hSw; (try dsimp only at hSw); first | (go_simp; done) | (go_simp; with_reducible rfl)
      (try simp only [Act.put, List.setIfInBounds_toArray, List.set_cons_zero, List.set_cons_succ])
      refine wpAnyH_take (i := 1) (oi := { dst := some 27, op := Go.Op.load 30 (Go.Operand.tmp 26), type := 30, pos := _, after := #[{ on := 0, ground := Go.Ground.data }], guard := none }) (v := ?v12) rfl (by kernel_rfl) (by kernel_rfl) (by kernel_rfl) (fun _ _ _ h => h) (Or.inl ⟨by kernel_rfl, ?hy12⟩) (by assumption) ?_
      case hy12 => intro w hSw; (try dsimp only at hSw); first | (go_simp; done) | (go_simp; with_reducible rfl)
      (try simp only [Act.put, List.setIfInBounds_toArray, List.set_cons_zero, List.set_cons_succ])
      refine wpAnyH_take (i := 2) (oi := { dst := some 28, op := Go.Op.fieldAddr 24 (Go.Operand.tmp 3) 0, type := 0, pos := _, after := #[], guard := none }) (v := ?v13) rfl (by kernel_rfl) (by kernel_rfl) (by kernel_rfl) (fun _ _ _ h => h) (Or.inl ⟨by kernel_rfl, ?hy13⟩) (by assumption) ?_
      case hy13 => intro w hSw; (try dsimp only at hSw); first | (go_simp; done) | (go_simp; with_reducible rfl)
      (try simp only [Act.put, List.setIfInBounds_toArray, List.set_cons_zero, List.set_cons_succ])
      refine wpAnyH_take (i := 3) (oi := { dst := some 29, op := Go.Op.load 22 (Go.Operand.tmp 28), type := 22, pos := _, after := #[{ on := 2, ground := Go.Ground.data }], guard := none }) (v := ?v14) rfl (by kernel_rfl) (by kernel_rfl) (by kernel_rfl) (fun _ _ _ h => h) (Or.inl ⟨by kernel_rfl, ?hy14⟩) (by assumption) ?_
      case hy14 => intro w hSw; (try dsimp only at hSw); first | (go_simp; done) | (go_simp; with_reducible rfl)
      (try simp only [Act.put, List.setIfInBounds_toArray, List.set_cons_zero, List.set_cons_succ])
      refine wpAnyH_take (i := 4) (oi := { dst := some 30, op := Go.Op.indexAddr 22 (Go.Operand.tmp 29) (Go.Operand.const (Go.Value.int Go.IntKind.i64 0)), type := 0, pos := _, after := #[{ on := 3, ground := Go.Ground.data }], guard := none }) (v := ?v15) rfl (by kernel_rfl) (by kernel_rfl) (by kernel_rfl) (fun _ _ _ h => h) (Or.inl ⟨by kernel_rfl, ?hy15⟩) (by assumption) ?_
      case hy15 => intro w hSw; (try dsimp only at hSw); first | (go_simp; done) | (go_simp; with_reducible rfl)
      (try simp only [Act.put, List.setIfInBounds_toArray, List.set_cons_zero, List.set_cons_succ])
      refine wpAnyH_take (i := 5) (oi := { dst := some 31, op := Go.Op.load 3 (Go.Operand.tmp 30), type := 3, pos := _, after := #[{ on := 4, ground := Go.Ground.data }], guard := none }) (v := ?v16) rfl (by kernel_rfl) (by kernel_rfl) (by kernel_rfl) (fun _ _ _ h => h) (Or.inl ⟨by kernel_rfl, ?hy16⟩) (by assumption) ?_
      case hy16 => intro w hSw; (try dsimp only at hSw); first | (go_simp; done) | (go_simp; with_reducible rfl)
      (try simp only [Act.put, List.setIfInBounds_toArray, List.set_cons_zero, List.set_cons_succ])
      refine wpAnyH_take (i := 6) (oi := { dst := some 32, op := Go.Op.fieldAddr 24 (Go.Operand.tmp 3) 0, type := 0, pos := _, after := #[], guard := none }) (v := ?v17) rfl (by kernel_rfl) (by kernel_rfl) (by kernel_rfl) (fun _ _ _ h => h) (Or.inl ⟨by kernel_rfl, ?hy17⟩) (by assumption) ?_
      case hy17 => intro w hSw; (try dsimp only at hSw); first | (go_simp; done) | (go_simp; with_reducible rfl)
      (try simp only [Act.put, List.setIfInBounds_toArray, List.set_cons_zero, List.set_cons_succ])
      refine wpAnyH_take (i := 7) (oi := { dst := some 33, op := Go.Op.load 22 (Go.Operand.tmp 32), type := 22, pos := _, after := #[{ on := 6, ground := Go.Ground.data }], guard := none }) (v := ?v18) rfl (by kernel_rfl) (by kernel_rfl) (by kernel_rfl) (fun _ _ _ h => h) (Or.inl ⟨by kernel_rfl, ?hy18⟩) (by assumption) ?_
      case hy18 => intro w hSw; (try dsimp only at hSw); first | (go_simp; done) | (go_simp; with_reducible rfl)
      (try simp only [Act.put, List.setIfInBounds_toArray, List.set_cons_zero, List.set_cons_succ])
      refine wpAnyH_take (i := 8) (oi := { dst := some 34, op := Go.Op.fieldAddr 24 (Go.Operand.tmp 3) 0, type := 0, pos := _, after := #[], guard := none }) (v := ?v19) rfl (by kernel_rfl) (by kernel_rfl) (by kernel_rfl) (fun _ _ _ h => h) (Or.inl ⟨by kernel_rfl, ?hy19⟩) (by assumption) ?_
      case hy19 => intro w hSw; (try dsimp only at hSw); first | (go_simp; done) | (go_simp; with_reducible rfl)
      (try simp only [Act.put, List.setIfInBounds_toArray, List.set_cons_zero, List.set_cons_succ])
      refine wpAnyH_take (i := 9) (oi := { dst := some 35, op := Go.Op.load 22 (Go.Operand.tmp 34), type := 22, pos := _, after := #[{ on := 8, ground := Go.Ground.data }], guard := none }) (v := ?v20) rfl (by kernel_rfl) (by kernel_rfl) (by kernel_rfl) (fun _ _ _ h => h) (Or.inl ⟨by kernel_rfl, ?hy20⟩) (by assumption) ?_
      case hy20 => intro w hSw; (try dsimp only at hSw); first | (go_simp; done) | (go_simp; with_reducible rfl)
      (try simp only [Act.put, List.setIfInBounds_toArray, List.set_cons_zero, List.set_cons_succ])
      refine wpAnyH_take (i := 10) (oi := { dst := some 36, op := Go.Op.call { callee := Go.Callee.builtin Go.Builtin.len, args := #[Go.Operand.tmp 35], argTypes := #[22] }, type := 3, pos := _, after := #[{ on := 9, ground := Go.Ground.data }], guard := none }) (v := ?v21) rfl (by kernel_rfl) (by kernel_rfl) (by kernel_rfl) (fun _ _ _ h => h) (Or.inl ⟨by kernel_rfl, ?hy21⟩) (by assumption) ?_
      case hy21 => intro w hSw; (try dsimp only at hSw); first | (go_simp; done) | (go_simp; with_reducible rfl)
      (try simp only [Act.put, List.setIfInBounds_toArray, List.set_cons_zero, List.set_cons_succ])
      refine wpAnyH_take (i := 11) (oi := { dst := some 37, op := Go.Op.binOp Go.BinOp.sub 3 (Go.Operand.tmp 36) (Go.Operand.const (Go.Value.int Go.IntKind.i64 1)) 3, type := 3, pos := _, after := #[{ on := 10, ground := Go.Ground.data }], guard := none }) (v := ?v22) rfl (by kernel_rfl) (by kernel_rfl) (by kernel_rfl) (fun _ _ _ h => h) (Or.inl ⟨by kernel_rfl, ?hy22⟩) (by assumption) ?_
      case hy22 => intro w hSw; (try dsimp only at hSw); first | (go_simp; done) | (go_simp; with_reducible rfl)
      (try simp only [Act.put, List.setIfInBounds_toArray, List.set_cons_zero, List.set_cons_succ])
      refine wpAnyH_take (i := 12) (oi := { dst := some 38, op := Go.Op.indexAddr 22 (Go.Operand.tmp 33) (Go.Operand.tmp 37), type := 0, pos := _, after := #[{ on := 7, ground := Go.Ground.data }, { on := 11, ground := Go.Ground.data }], guard := none }) (v := ?v23) rfl (by kernel_rfl) (by kernel_rfl) (by kernel_rfl) (fun _ _ _ h => h) (Or.inl ⟨by kernel_rfl, ?hy23⟩) (by assumption) ?_
      case hy23 => intro w hSw; (try dsimp only at hSw); first | (go_simp; done) | (go_simp; with_reducible rfl)
      (try simp only [Act.put, List.setIfInBounds_toArray, List.set_cons_zero, List.set_cons_succ])
      refine wpAnyH_take (i := 13) (oi := { dst := some 39, op := Go.Op.load 3 (Go.Operand.tmp 38), type := 3, pos := _, after := #[{ on := 12, ground := Go.Ground.data }], guard := none }) (v := ?v24) rfl (by kernel_rfl) (by kernel_rfl) (by kernel_rfl) (fun _ _ _ h => h) (Or.inl ⟨by kernel_rfl, ?hy24⟩) (by assumption) ?_
      case hy24 => intro w hSw; (try dsimp only at hSw); first | (go_simp; done) | (go_simp; with_reducible rfl)
      (try simp only [Act.put, List.setIfInBounds_toArray, List.set_cons_zero, List.set_cons_succ])
      refine wpAnyH_ready (rs := [14]) (by kernel_rfl) (by simp) ?_
      refine AllReadyH.cons (o := { dst := some 40, op := Go.Op.call { callee := Go.Callee.value (Go.Operand.func 21), args := #[Go.Operand.tmp 27, Go.Operand.tmp 31, Go.Operand.tmp 39], argTypes := #[30, 3, 3] }, type := 47, pos := _, after := #[{ on := 1, ground := Go.Ground.data }, { on := 5, ground := Go.Ground.data }, { on := 13, ground := Go.Ground.data }], guard := none }) rfl (fun K hK => ?_) AllReadyH.nil
      go_simp
      (go_at_call 21; refine (dcheck_n da dc es (el f.z 0) (el f.z m) _ HDL.out hd HLE.out HED.out).mono ?_; rintro e w2 ⟨rfl, g2⟩)
      (try go_wp2_with fail)
      refine hK.out _ _ ?hS26 (fun hHeld => ?_)
      case hS26 => (try dsimp only); exact keep4 g2 (by assumption)
      clear hK K
      (try simp only [Act.put, List.setIfInBounds_toArray, List.set_cons_zero, List.set_cons_succ])
      refine wpAnyH_take (i := 15) (oi := { dst := some 25, op := Go.Op.move (Go.Operand.tmp 40), type := 47, pos := _, after := #[{ on := 14, ground := Go.Ground.data }], guard := none }) (v := ?v27) rfl (by kernel_rfl) (by kernel_rfl) (by kernel_rfl) (fun _ _ _ h => h) (Or.inl ⟨by kernel_rfl, ?hy27⟩) (by assumption) ?_
      case hy27 => intro w hSw; (try dsimp only at hSw); first | (go_simp; done) | (go_simp; with_reducible rfl)
      (try simp only [Act.put, List.setIfInBounds_toArray, List.set_cons_zero, List.set_cons_succ])
      refine wpAnyH_take (i := 16) (oi := { dst := some 41, op := Go.Op.extract (Go.Operand.tmp 25) 0, type := 3, pos := _, after := #[{ on := 15, ground := Go.Ground.data }], guard := none }) (v := ?v28) rfl (by kernel_rfl) (by kernel_rfl) (by kernel_rfl) (fun _ _ _ h => h) (Or.inl ⟨by kernel_rfl, ?hy28⟩) (by assumption) ?_
      case hy28 => intro w hSw; (try dsimp only at hSw); first | (go_simp; done) | (go_simp; with_reducible rfl)
      (try simp only [Act.put, List.setIfInBounds_toArray, List.set_cons_zero, List.set_cons_succ])
      refine wpAnyH_take (i := 17) (oi := { dst := some 42, op := Go.Op.extract (Go.Operand.tmp 25) 1, type := 4, pos := _, after := #[{ on := 15, ground := Go.Ground.data }, { on := 18, ground := Go.Ground.gcOnly Go.Departure.lateStores }], guard := none }) (v := ?v29) rfl (by kernel_rfl) (by kernel_rfl) (by kernel_rfl) (fun _ _ _ h => h) (Or.inl ⟨by kernel_rfl, ?hy29⟩) (by assumption) ?_
      case hy29 => intro w hSw; (try dsimp only at hSw); first | (go_simp; done) | (go_simp; with_reducible rfl)
      (try simp only [Act.put, List.setIfInBounds_toArray, List.set_cons_zero, List.set_cons_succ])
      refine wpAnyH_take (i := 18) (oi := { dst := some 6, op := Go.Op.assign (Go.Operand.tmp 41), type := 3, pos := _, after := #[{ on := 16, ground := Go.Ground.data }, { on := 14, ground := Go.Ground.chain }, { on := 0, ground := Go.Ground.phase }, { on := 1, ground := Go.Ground.phase }, { on := 2, ground := Go.Ground.phase }, { on := 3, ground := Go.Ground.phase }, { on := 4, ground := Go.Ground.phase }, { on := 5, ground := Go.Ground.phase }, { on := 6, ground := Go.Ground.phase }, { on := 7, ground := Go.Ground.phase }, { on := 8, ground := Go.Ground.phase }, { on := 9, ground := Go.Ground.phase }, { on := 10, ground := Go.Ground.phase }, { on := 11, ground := Go.Ground.phase }, { on := 12, ground := Go.Ground.phase }, { on := 13, ground := Go.Ground.phase }, { on := 14, ground := Go.Ground.phase }, { on := 15, ground := Go.Ground.phase }, { on := 16, ground := Go.Ground.phase }, { on := 17, ground := Go.Ground.textOnly Go.Departure.lateStores }], guard := none }) (v := ?v30) rfl (by kernel_rfl) (by kernel_rfl) (by kernel_rfl) (fun _ _ _ h => h) (Or.inl ⟨by kernel_rfl, ?hy30⟩) (by assumption) ?_
      case hy30 => intro w hSw; (try dsimp only at hSw); first | (go_simp; done) | (go_simp; with_reducible rfl)
      (try simp only [Act.put, List.setIfInBounds_toArray, List.set_cons_zero, List.set_cons_succ])
      refine wpAnyH_take (i := 19) (oi := { dst := some 7, op := Go.Op.assign (Go.Operand.tmp 42), type := 4, pos := _, after := #[{ on := 17, ground := Go.Ground.data }, { on := 18, ground := Go.Ground.chain }, { on := 0, ground := Go.Ground.phase }, { on := 1, ground := Go.Ground.phase }, { on := 2, ground := Go.Ground.phase }, { on := 3, ground := Go.Ground.phase }, { on := 4, ground := Go.Ground.phase }, { on := 5, ground := Go.Ground.phase }, { on := 6, ground := Go.Ground.phase }, { on := 7, ground := Go.Ground.phase }, { on := 8, ground := Go.Ground.phase }, { on := 9, ground := Go.Ground.phase }, { on := 10, ground := Go.Ground.phase }, { on := 11, ground := Go.Ground.phase }, { on := 12, ground := Go.Ground.phase }, { on := 13, ground := Go.Ground.phase }, { on := 14, ground := Go.Ground.phase }, { on := 15, ground := Go.Ground.phase }, { on := 16, ground := Go.Ground.phase }, { on := 17, ground := Go.Ground.phase }, { on := 18, ground := Go.Ground.phase }], guard := none }) (v := ?v31) rfl (by kernel_rfl) (by kernel_rfl) (by kernel_rfl) (fun _ _ _ h => h) (Or.inl ⟨by kernel_rfl, ?hy31⟩) (by assumption) ?_
      case hy31 => intro w hSw; (try dsimp only at hSw); first | (go_simp; done) | (go_simp; with_reducible rfl)
      (try simp only [Act.put, List.setIfInBounds_toArray, List.set_cons_zero, List.set_cons_succ])
      refine wpAnyH_done (by kernel_rfl) ?_ _
      have HC2 := Lib.hid (HC1.out.grow ((Grew.drew' (Grew.refl w1)).trans g2))
      have HM2 := Lib.hid (HM1.out.grow ((Grew.drew' (Grew.refl w1)).trans g2))
      have HX2 := Lib.hid (HX1.out.grow ((Grew.drew' (Grew.refl w1)).trans g2))
      have HG2 := Lib.hid (HG1.out.trans ((Grew.drew' (Grew.refl w1)).trans g2))
      clear HC1 HM1 HX1 HE1 HG1 HED hHeld g2 hz0 hzm q5
      cases h2 : (chkV es (el f.z 0) (el f.z m)).2 with
      | false =>
        have HR := Lib.hid (HR5.out (.inl h2))
        go_wp2
        go_ret
        exact ⟨ret_int HR.out.symm, HG2.out⟩
      | true =>
        have H2 := Lib.hid h2
        clear h2
        have q0 := HC2.out.c0
        go_wp2_with fail
        refine (new_ok _ c f.z w2 HN.out hc0 hm0 HZ.out HX2.out).mono ?_
        rintro e w3 ⟨⟨bs, rfl, hsh⟩, g3⟩
        have HSH := Lib.hid hsh
        have HC3 := Lib.hid (HC2.out.grow g3)
        have HM3 := Lib.hid (HM2.out.grow g3)
        have HX3 := Lib.hid (HX2.out.grow g3)
        have HG3 := Lib.hid (HG2.out.trans g3)
        clear HC2 HM2 HX2 HG2 g3 q0 hsh
        go_upto_region 11 with fail
        refine wp_region_held_drew (S := (fun W' => Grew w3 W' ∧ W'.cell? ⟨b0, 13, none⟩ = some (.slice sa sn sc))) (by kernel_rfl) ⟨Grew.drew' (Grew.refl _), HM3.out.c13⟩ (fun hHeld => ?_)
        refine wpAnyH_take (i := 0) (oi := { dst := some 51, op := Go.Op.fieldAddr 34 (Go.Operand.tmp 1) 2, type := 0, pos := _, after := #[], guard := none }) (v := ?v32) rfl (by kernel_rfl) (by kernel_rfl) (by kernel_rfl) (fun _ _ _ h => h) (Or.inl ⟨by kernel_rfl, ?hy32⟩) (by assumption) ?_
        case hy32 => intro w hSw; (try dsimp only at hSw); first | (go_simp; done) | (go_simp; with_reducible rfl)
        (try simp only [Act.put, List.setIfInBounds_toArray, List.set_cons_zero, List.set_cons_succ])
        refine wpAnyH_take (i := 1) (oi := { dst := some 52, op := Go.Op.load 31 (Go.Operand.tmp 51), type := 31, pos := _, after := #[{ on := 0, ground := Go.Ground.data }], guard := none }) (v := ?v33) rfl (by kernel_rfl) (by kernel_rfl) (by kernel_rfl) (fun _ _ _ h => h) (Or.inl ⟨by kernel_rfl, ?hy33⟩) (by assumption) ?_
        case hy33 => intro w hSw; (try dsimp only at hSw); first | (go_simp; done) | (go_simp; with_reducible rfl)
        (try simp only [Act.put, List.setIfInBounds_toArray, List.set_cons_zero, List.set_cons_succ])
        refine wpAnyH_take (i := 2) (oi := { dst := some 53, op := Go.Op.call { callee := Go.Callee.builtin Go.Builtin.len, args := #[Go.Operand.tmp 52], argTypes := #[31] }, type := 3, pos := _, after := #[{ on := 1, ground := Go.Ground.data }], guard := none }) (v := ?v34) rfl (by kernel_rfl) (by kernel_rfl) (by kernel_rfl) (fun _ _ _ h => h) (Or.inl ⟨by kernel_rfl, ?hy34⟩) (by assumption) ?_
        case hy34 => intro w hSw; (try dsimp only at hSw); first | (go_simp; done) | (go_simp; with_reducible rfl)
        (try simp only [Act.put, List.setIfInBounds_toArray, List.set_cons_zero, List.set_cons_succ])
        refine wpAnyH_take (i := 3) (oi := { dst := some 54, op := Go.Op.move (Go.Operand.tmp 8), type := 41, pos := _, after := #[], guard := none }) (v := ?v35) rfl (by kernel_rfl) (by kernel_rfl) (by kernel_rfl) (fun _ _ _ h => h) (Or.inl ⟨by kernel_rfl, ?hy35⟩) (by assumption) ?_
        case hy35 => intro w hSw; (try dsimp only at hSw); first | (go_simp; done) | (go_simp; with_reducible rfl)
        (try simp only [Act.put, List.setIfInBounds_toArray, List.set_cons_zero, List.set_cons_succ])
        refine wpAnyH_ready (rs := [4]) (by kernel_rfl) (by simp) ?_
        refine AllReadyH.cons (o := { dst := some 55, op := Go.Op.call { callee := Go.Callee.value (Go.Operand.func 22), args := #[Go.Operand.tmp 54], argTypes := #[41] }, type := 3, pos := _, after := #[{ on := 3, ground := Go.Ground.data }], guard := none }) rfl (fun K hK => ?_) AllReadyH.nil
        go_simp
        (go_at_call 22; refine (count_any HRT.out (HSH.out.grow (Grew.drew' (Grew.refl w3)))).mono ?_; rintro e w4 ⟨rfl, g4⟩)
        (try go_wp2_with fail)
        refine hK.out _ _ ?hS37 (fun hHeld => ?_)
        case hS37 => (try dsimp only); exact keep1 g4 (by assumption)
        clear hK K
        (try simp only [Act.put, List.setIfInBounds_toArray, List.set_cons_zero, List.set_cons_succ])
        refine wpAnyH_take (i := 5) (oi := { dst := some 56, op := Go.Op.binOp Go.BinOp.neq 3 (Go.Operand.tmp 53) (Go.Operand.tmp 55) 3, type := 4, pos := _, after := #[{ on := 2, ground := Go.Ground.data }, { on := 4, ground := Go.Ground.data }], guard := none }) (v := ?v38) rfl (by kernel_rfl) (by kernel_rfl) (by kernel_rfl) (fun _ _ _ h => h) (Or.inl ⟨by kernel_rfl, ?hy38⟩) (by assumption) ?_
        case hy38 => intro w hSw; (try dsimp only at hSw); first | (go_simp; done) | (go_simp; with_reducible rfl)
        (try simp only [Act.put, List.setIfInBounds_toArray, List.set_cons_zero, List.set_cons_succ])
        refine wpAnyH_done (by kernel_rfl) ?_ _
        have HC4 := Lib.hid (HC3.out.grow ((Grew.drew' (Grew.refl w3)).trans g4))
        have HM4 := Lib.hid (HM3.out.grow ((Grew.drew' (Grew.refl w3)).trans g4))
        have HX4 := Lib.hid (HX3.out.grow ((Grew.drew' (Grew.refl w3)).trans g4))
        have HG4 := Lib.hid (HG3.out.trans ((Grew.drew' (Grew.refl w3)).trans g4))
        clear HC3 HM3 HX3 HG3 hHeld g4
        by_cases h3 : (sn : Int) = cnt f.z
        · have H3 := Lib.hid h3
          have hb3 : ((sn : Int) != cnt f.z) = false := by rw [h3]; simp
          clear h3
          generalize cnt f.z = cz at *
          have HX4D := Lib.hid (HX4.out.grow (Grew.drew' (Grew.refl w4)))
          go_upto_region 13 with fail
          refine wp_region_held_drew (S := (fun W' => Grew w4 W' ∧ W'.cell? ⟨b1, 0, none⟩ = some (.slice (some ⟨bz, oz, none⟩) n c) ∧ W'.cell? ⟨b1, 1, none⟩ = some (.int .i64 f.sh) ∧ W'.cell? ⟨b1, 2, none⟩ = some (.int .i64 f.ra) ∧ W'.cell? ⟨b1, 3, none⟩ = some (.int .i64 f.mo) ∧ W'.cell? ⟨b1, 4, none⟩ = some (.int .i64 f.wo) ∧ W'.cell? ⟨b1, 5, none⟩ = some (.int .i64 f.ba) ∧ W'.cell? ⟨b1, 6, none⟩ = some (.int .i64 f.mi) ∧ W'.cell? ⟨b1, 7, none⟩ = some (.int .i64 f.st) ∧ W'.cell? ⟨b1, 8, none⟩ = some (.int .i64 f.bu) ∧ W'.cell? ⟨b1, 9, none⟩ = some (.int .i64 f.ch) ∧ W'.cell? ⟨b1, 10, none⟩ = some (.int .i64 f.wi) ∧ W'.cell? ⟨b1, 11, none⟩ = some (.int .i64 f.ca) ∧ W'.cell? ⟨b0, 14, none⟩ = some (.slice ra rn rc))) (by kernel_rfl) ⟨Grew.drew' (Grew.refl _), HC4.out.c0, HC4.out.c1, HC4.out.c2, HC4.out.c3, HC4.out.c4, HC4.out.c5, HC4.out.c6, HC4.out.c7, HC4.out.c8, HC4.out.c9, HC4.out.c10, HC4.out.c11, HM4.out.c14⟩ (fun hHeld => ?_)
          refine wpAnyH_take (i := 0) (oi := { dst := some 57, op := Go.Op.fieldAddr 34 (Go.Operand.tmp 1) 3, type := 0, pos := _, after := #[], guard := none }) (v := ?v39) rfl (by kernel_rfl) (by kernel_rfl) (by kernel_rfl) (fun _ _ _ h => h) (Or.inl ⟨by kernel_rfl, ?hy39⟩) (by assumption) ?_
          case hy39 => intro w hSw; (try dsimp only at hSw); first | (go_simp; done) | (go_simp; with_reducible rfl)
          (try simp only [Act.put, List.setIfInBounds_toArray, List.set_cons_zero, List.set_cons_succ])
          refine wpAnyH_take (i := 1) (oi := { dst := some 58, op := Go.Op.load 32 (Go.Operand.tmp 57), type := 32, pos := _, after := #[{ on := 0, ground := Go.Ground.data }], guard := none }) (v := ?v40) rfl (by kernel_rfl) (by kernel_rfl) (by kernel_rfl) (fun _ _ _ h => h) (Or.inl ⟨by kernel_rfl, ?hy40⟩) (by assumption) ?_
          case hy40 => intro w hSw; (try dsimp only at hSw); first | (go_simp; done) | (go_simp; with_reducible rfl)
          (try simp only [Act.put, List.setIfInBounds_toArray, List.set_cons_zero, List.set_cons_succ])
          refine wpAnyH_take (i := 2) (oi := { dst := some 59, op := Go.Op.call { callee := Go.Callee.builtin Go.Builtin.len, args := #[Go.Operand.tmp 58], argTypes := #[32] }, type := 3, pos := _, after := #[{ on := 1, ground := Go.Ground.data }], guard := none }) (v := ?v41) rfl (by kernel_rfl) (by kernel_rfl) (by kernel_rfl) (fun _ _ _ h => h) (Or.inl ⟨by kernel_rfl, ?hy41⟩) (by assumption) ?_
          case hy41 => intro w hSw; (try dsimp only at hSw); first | (go_simp; done) | (go_simp; with_reducible rfl)
          (try simp only [Act.put, List.setIfInBounds_toArray, List.set_cons_zero, List.set_cons_succ])
          refine wpAnyH_take (i := 3) (oi := { dst := some 60, op := Go.Op.load 24 (Go.Operand.tmp 3), type := 24, pos := _, after := #[], guard := none }) (v := ?v42) rfl (by kernel_rfl) (by kernel_rfl) (by kernel_rfl) (fun _ _ _ h => h) (Or.inl ⟨by kernel_rfl, ?hy42⟩) (by assumption) ?_
          case hy42 => intro w hSw; (try dsimp only at hSw); first | (go_simp; done) | (go_simp; with_reducible rfl)
          (try simp only [Act.put, List.setIfInBounds_toArray, List.set_cons_zero, List.set_cons_succ])
          refine wpAnyH_take (i := 4) (oi := { dst := some 61, op := Go.Op.move (Go.Operand.tmp 4), type := 3, pos := _, after := #[], guard := none }) (v := ?v43) rfl (by kernel_rfl) (by kernel_rfl) (by kernel_rfl) (fun _ _ _ h => h) (Or.inl ⟨by kernel_rfl, ?hy43⟩) (by assumption) ?_
          case hy43 => intro w hSw; (try dsimp only at hSw); first | (go_simp; done) | (go_simp; with_reducible rfl)
          (try simp only [Act.put, List.setIfInBounds_toArray, List.set_cons_zero, List.set_cons_succ])
          refine wpAnyH_ready (rs := [5]) (by kernel_rfl) (by simp) ?_
          refine AllReadyH.cons (o := { dst := some 62, op := Go.Op.call { callee := Go.Callee.value (Go.Operand.func 14), args := #[Go.Operand.tmp 60, Go.Operand.tmp 61], argTypes := #[24, 3] }, type := 3, pos := _, after := #[{ on := 3, ground := Go.Ground.data }, { on := 4, ground := Go.Ground.data }], guard := none }) rfl (fun K hK => ?_) AllReadyH.nil
          go_simp
          (go_at_call 14; refine (cneed_any (some ⟨bz, oz, none⟩) c f dn _ HN.out hn hc0 hm0 HX4D.out (by omega) (by omega)).mono ?_; rintro e w5 ⟨rfl, g5⟩)
          (try go_wp2_with fail)
          refine hK.out _ _ ?hS45 (fun hHeld => ?_)
          case hS45 => (try dsimp only); exact keep13 g5 (by assumption)
          clear hK K
          (try simp only [Act.put, List.setIfInBounds_toArray, List.set_cons_zero, List.set_cons_succ])
          refine wpAnyH_take (i := 6) (oi := { dst := some 63, op := Go.Op.binOp Go.BinOp.lss 3 (Go.Operand.tmp 59) (Go.Operand.tmp 62) 3, type := 4, pos := _, after := #[{ on := 2, ground := Go.Ground.data }, { on := 5, ground := Go.Ground.data }], guard := none }) (v := ?v46) rfl (by kernel_rfl) (by kernel_rfl) (by kernel_rfl) (fun _ _ _ h => h) (Or.inl ⟨by kernel_rfl, ?hy46⟩) (by assumption) ?_
          case hy46 => intro w hSw; (try dsimp only at hSw); first | (go_simp; done) | (go_simp; with_reducible rfl)
          (try simp only [Act.put, List.setIfInBounds_toArray, List.set_cons_zero, List.set_cons_succ])
          refine wpAnyH_done (by kernel_rfl) ?_ _
          have HG5 := Lib.hid (HG4.out.trans ((Grew.drew' (Grew.refl w4)).trans g5))
          clear HC4 HM4 HX4 HG4 HX4D hHeld g5
          by_cases h4 : (rn : Int) < epV f es.length * needV es.length
          · have HR := Lib.hid (HR8.out H2.out H3.out h4)
            rw [HDL.out] at h4
            generalize epV f dn * needV dn = p at *
            go_wp2
            go_ret
            exact ⟨ret_int HR.out.symm, HG5.out⟩
          · have HR := Lib.hid (HR0.out H2.out H3.out (Int.not_lt.1 h4))
            rw [HDL.out] at h4
            generalize epV f dn * needV dn = p at *
            go_wp2
            go_ret
            exact ⟨ret_int HR.out.symm, HG5.out⟩
        · have HR := Lib.hid (HR5.out (.inr h3))
          have hb3 : ((sn : Int) != cnt f.z) = true := by simp [h3]
          clear h3
          generalize cnt f.z = cz at *
          go_wp2
          go_ret
          exact ⟨ret_int HR.out.symm, HG4.out⟩
  · have HR := Lib.hid (codeI_c (sn := sn) (rn := rn) (es := es) h0)
    have hb : (codeC f != 0) = true := by simp [h0]
    generalize codeC f = cv at *
    go_wp2
    go_ret
    exact ⟨ret_int HR.out.symm, HG1.out⟩
end Go.Proofs.Ythcahpgandappaa
