/- Parse of package conf: the configuration of a text, or none. Conditions: strings of at most 10^6 bytes; the table of powers of ten holds its numbers; strings.SplitN does what it should in every world that has grown (SplitOk). -/
import Derived.Test.YthcahpgandappaaGreatDoorCs
import Derived.Deep.AppendLies
namespace Go.Proofs.YthcahpgandappaaGreatDoor
open Go.RowKit Go.Shelf

theorem results_cell_tmp {P : Program} {fn : Func} {tmps : Array Value} {x y : Tmp} {t : TypeId} {b : Addr} {v u : Value} {W : World} (hr : fn.results = #[.cell x t, .tmp y]) (hx : tmps.getD x undef = .pointer (some b)) (hl : (loadVar t b).run P W = .ok v W) (hy : tmps.getD y undef = u) : (results fn tmps).run P W = .ok (.tuple #[v, u]) W := by
  have hx' : tmps[x]?.getD undef = .pointer (some b) := by simpa using hx
  have hy' : tmps[y]?.getD undef = u := by simpa using hy
  simp [results, hr, hx', hy', asAddr, hl]
theorem stayB {W W' : World} {cb : Nat} (g : W.grownBy W' (some cb)) {a : Addr} {x : Value} (h : W.cell? a = some x) (hne : a.block ≠ cb) : W'.cell? a = some x := (g.cell_far a (World.block_lt_of_cell? W a h) (fun e => hne (Option.some.inj e))).trans h
theorem keepB4 {V W W' : World} {cb p v i j k l : Nat} {x0 x1 x2 x3 : Value} (g : W.grownBy W' (some cb)) (h1 : p ≠ cb) (h2 : v ≠ cb) (h : V.grownBy W (some cb) ∧ W.cell? ⟨p, i, none⟩ = some x0 ∧ W.cell? ⟨p, j, none⟩ = some x1 ∧ W.cell? ⟨v, k, none⟩ = some x2 ∧ W.cell? ⟨v, l, none⟩ = some x3) :
    V.grownBy W' (some cb) ∧ W'.cell? ⟨p, i, none⟩ = some x0 ∧ W'.cell? ⟨p, j, none⟩ = some x1 ∧ W'.cell? ⟨v, k, none⟩ = some x2 ∧ W'.cell? ⟨v, l, none⟩ = some x3 :=
  ⟨grownBy_trans h.1 g, stayB g h.2.1 h1, stayB g h.2.2.1 h1, stayB g h.2.2.2.1 h2, stayB g h.2.2.2.2 h2⟩
theorem Bx.left {bx : Nat → Nat} {W W' : World} {cb : Nat} (h : Bx bx W) (g : W.grownBy W' (some cb)) (hne : ∀ k, 1 ≤ k → k < 12 → bx k ≠ cb) : Bx bx W' := fun k h1 h2 => (h k h1 h2).kept g (fun e => hne k h1 h2 (Option.some.inj e))
theorem rdk_z {k : Nat} (h1 : 1 ≤ k) {t : List UInt8} {f g : Cf} (h : rdk k t f = some g) : g.z = f.z := by
  by_cases h2 : k = 2
  · subst h2
    have h' : (match pO f.sh t with | some x => some { f with ra := x } | none => none) = some g := h
    cases hx : pO f.sh t with
    | none => rw [hx] at h'; cases h'
    | some x => rw [hx] at h'; rw [← Option.some.inj h']
  · by_cases h3 : k = 3
    · subst h3
      have h' : (match pO f.sh t with | some x => some { f with mo := x } | none => none) = some g := h
      cases hx : pO f.sh t with
      | none => rw [hx] at h'; cases h'
      | some x => rw [hx] at h'; rw [← Option.some.inj h']
    · obtain ⟨x, _, rfl⟩ := rd_nat (by omega) h
      unfold setX
      split <;> rfl
theorem readN_word {ws : List (List UInt8)} {k : Nat} {f : Cf} {t : List UInt8} (h : readN ws k = some f) (h1 : ws[2 * k]? = some t) (h2 : t ≠ nm k) : readN ws (k + 1) = none := by
  unfold readN
  rw [h]
  simp only [h1]
  rw [if_neg (fun e => h2 (Option.some.inj e))]
theorem readN_bad {ws : List (List UInt8)} {k : Nat} {f : Cf} {t : List UInt8} (h : readN ws k = some f) (h1 : ws[2 * k]? = some (nm k)) (h2 : ws[2 * k + 1]? = some t) (h3 : rdk k t f = none) : readN ws (k + 1) = none := by
  unfold readN
  rw [h]
  simp only [h1, h2, if_true, Option.getD_some]
  exact h3
theorem parseC_no {l : List UInt8} (h : (splitSp l).length ≠ 24) : parseC l = none := if_neg h
theorem parseC_none {l : List UInt8} {k : Nat} (hk : k < 12) (h : readN (splitSp l) (k + 1) = none) : parseC l = none := by
  unfold parseC
  split
  · exact readN_none h (by omega)
  · rfl
theorem parseC_is {l : List UInt8} {f : Cf} (h : (splitSp l).length = 24) (h1 : readN (splitSp l) 12 = some f) : parseC l = some f := by unfold parseC; rw [if_pos h, h1]
theorem word_sizes : ∀ (n : Nat) (l : List UInt8), l.length ≤ n → ∀ p ∈ splitSp l, p.length ≤ l.length := by
  intro n
  induction n with
  | zero =>
    intro l hl p hp
    obtain rfl := List.eq_nil_of_length_eq_zero (Nat.le_zero.1 hl)
    simp [splitSp] at hp
    subst hp
    exact Nat.le_refl _
  | succ n ih =>
    intro l hl p hp
    rcases split_form l with h | ⟨a, b, rfl, h⟩
    · rw [split_last l h] at hp
      simp at hp
      subst hp
      exact Nat.le_refl _
    · rw [split_cut a b h] at hp
      rcases List.mem_cons.1 hp with rfl | hp
      · simp
      · have := ih b (by simp at hl; omega) p hp
        simp; omega
/-- The words' cells. -/
def Wd (W : World) (g : Nat) (ws : List (List UInt8)) : Prop := ∀ (j : Nat) l, ws[j]? = some l → W.cell? ⟨g, j, none⟩ = some (.string ⟨l.toArray⟩)
theorem idx2 {k p q : Nat} (h : k < 12) (hp : 2 * k = p) (hq : 2 * k + 1 = q) : (2 : Int) * (k : Int) = (p : Int) ∧ wrap64 (p : Int) = (p : Int) ∧ IntKind.i64.wrap (p : Int) = (p : Int) ∧ (p : Int) + 1 = (q : Int) ∧ wrap64 (q : Int) = (q : Int) ∧ IntKind.i64.wrap (q : Int) = (q : Int) ∧ (p : Int) < 24 ∧ (q : Int) < 24 :=
  ⟨by omega, IntWalk.wrap64_in _ (by omega), IntWalk.i64_in _ (by omega), by omega, IntWalk.wrap64_in _ (by omega), IntWalk.i64_in _ (by omega), by omega, by omega⟩
theorem setRow_grown (W : World) (rb : Nat) (A : Array Value) : W.grownBy (W.setRow rb A) (some rb) :=
  ⟨rfl, rfl, rfl, by simp, fun j hj hne => setRow_other _ _ _ _ (fun e => hne (by rw [e]))⟩

set_option maxRecDepth 100000 in
set_option maxHeartbeats 8000000 in
theorem cparse_any (s : ByteArray) (w : World) (hs : s.size ≤ 1000000) (hT : Lib.TabIs Tryz.prog w "internal/strconv.uint64pow10" .u64 Lib.pow10Tab) (hC : SplitOk w) :
    Calls Tryz.prog 9 #[.string s] w fun e w' => ((∃ f a n c, parseC s.data.toList = some f ∧ e = .returned (.tuple #[.agg #[.slice a n c, .int .i64 f.sh, .int .i64 f.ra, .int .i64 f.mo, .int .i64 f.wo, .int .i64 f.ba, .int .i64 f.mi, .int .i64 f.st, .int .i64 f.bu, .int .i64 f.ch, .int .i64 f.wi, .int .i64 f.ca], .bool true]) ∧ f.z.length = n ∧ BufK .i64 3 w.heap.size w' a n c f.z) ∨ (parseC s.data.toList = none ∧ e = .returned (.tuple #[.agg #[.slice none 0 0, .int .i64 0, .int .i64 0, .int .i64 0, .int .i64 0, .int .i64 0, .int .i64 0, .int .i64 0, .int .i64 0, .int .i64 0, .int .i64 0, .int .i64 0], .bool false]))) ∧ Grew w w' := by
  have g0 : Grew w (w.alloc (.cells #[.slice none 0 0, .int .i64 0, .int .i64 0, .int .i64 0, .int .i64 0, .int .i64 0, .int .i64 0, .int .i64 0, .int .i64 0, .int .i64 0, .int .i64 0, .int .i64 0] 24)) := (Grew.refl w).alloc _
  have HRM := Lib.hid (CfM.new w none 0 0 zeroC)
  have HP := Lib.hid (tab_below hT (Nat.le_refl _) g0)
  have HCC := Lib.hid (hC.grow g0)
  have HG := Lib.hid g0
  have HT0 := Lib.hid hT
  clear g0 hT hC
  go_enter Tryz.func9, Tryz.ntmps9
  go_wp2_with fail
  generalize hW0 : w.alloc (.cells #[.slice none 0 0, .int .i64 0, .int .i64 0, .int .i64 0, .int .i64 0, .int .i64 0, .int .i64 0, .int .i64 0, .int .i64 0, .int .i64 0, .int .i64 0, .int .i64 0] 24) = W0 at *
  replace HRM : Hid (CfM W0 w.heap.size none 0 0 zeroC) := by rw [← hW0]; exact HRM
  generalize hb0 : w.heap.size = rb at *
  have HRB := Lib.hid hb0
  clear hW0 hb0
  refine (values_any W0).mono ?_
  rintro e w1 ⟨⟨bx, rfl, hbx, hbl⟩, g1⟩
  have gA : Grew W0 (w1.alloc (.cells (valsA bx) 41)) := g1.alloc _
  have HRM1 := Lib.hid (HRM.out.grow gA)
  have HP1 := Lib.hid (tab_below HP.out (Nat.le_refl _) gA)
  have HCC1 := Lib.hid (HCC.out.grow gA)
  have HG1 := Lib.hid (HG.out.trans gA)
  have HBX := Lib.hid (hbx.grow ((Grew.refl w1).alloc (.cells (valsA bx) 41)))
  have HZ : Hid ((w1.alloc (.cells #[.string ⟨#[]⟩, .nilFunc, .nilFunc, .nilFunc, .string ⟨#[]⟩, .nilFunc, .nilFunc, .nilFunc, .string ⟨#[]⟩, .nilFunc, .nilFunc, .nilFunc, .string ⟨#[]⟩, .nilFunc, .nilFunc, .nilFunc, .string ⟨#[]⟩, .nilFunc, .nilFunc, .nilFunc, .string ⟨#[]⟩, .nilFunc, .nilFunc, .nilFunc, .string ⟨#[]⟩, .nilFunc, .nilFunc, .nilFunc, .string ⟨#[]⟩, .nilFunc, .nilFunc, .nilFunc, .string ⟨#[]⟩, .nilFunc, .nilFunc, .nilFunc, .string ⟨#[]⟩, .nilFunc, .nilFunc, .nilFunc, .string ⟨#[]⟩, .nilFunc, .nilFunc, .nilFunc, .string ⟨#[]⟩, .nilFunc, .nilFunc, .nilFunc] 41)).heap[w1.heap.size]? = some (.cells #[.string ⟨#[]⟩, .nilFunc, .nilFunc, .nilFunc, .string ⟨#[]⟩, .nilFunc, .nilFunc, .nilFunc, .string ⟨#[]⟩, .nilFunc, .nilFunc, .nilFunc, .string ⟨#[]⟩, .nilFunc, .nilFunc, .nilFunc, .string ⟨#[]⟩, .nilFunc, .nilFunc, .nilFunc, .string ⟨#[]⟩, .nilFunc, .nilFunc, .nilFunc, .string ⟨#[]⟩, .nilFunc, .nilFunc, .nilFunc, .string ⟨#[]⟩, .nilFunc, .nilFunc, .nilFunc, .string ⟨#[]⟩, .nilFunc, .nilFunc, .nilFunc, .string ⟨#[]⟩, .nilFunc, .nilFunc, .nilFunc, .string ⟨#[]⟩, .nilFunc, .nilFunc, .nilFunc, .string ⟨#[]⟩, .nilFunc, .nilFunc, .nilFunc] 41 (0, 0))) := Lib.hid (World.alloc_heap_new w1 _)
  have HA : Hid ((w1.alloc (.cells (valsA bx) 41)).heap[w1.heap.size]? = some (.cells (valsA bx) 41 (0, 0))) := Lib.hid (World.alloc_heap_new w1 _)
  clear HRM HP HCC HG g1 gA hbx hbl
  go_wp2_with (refine wpList_store_row rfl 41 (.tmp 4) (.tmp 9) rfl w1.heap.size (valsA bx) rfl rfl 41 _ HZ.out (by kernel_rfl) (by kernel_rfl) (by kernel_rfl) ?_)
  rw [World.setRow_alloc_new]
  generalize w1.alloc (.cells (valsA bx) 41) = w2 at *
  generalize w1.heap.size = ab at *
  clear HZ
  refine (HCC1.out s w2 hs (Grew.refl _)).mono ?_
  rintro e w3 ⟨⟨ps, N, rfl, hcell, hpw, hplt⟩, g3⟩
  have HRM3 := Lib.hid (HRM1.out.grow g3)
  have HP3 := Lib.hid (tab_below HP1.out (Nat.le_refl _) g3)
  have HG3 := Lib.hid (HG1.out.trans g3)
  have HBX3 := Lib.hid (HBX.out.grow g3)
  have HA3 : Hid (w3.heap[ab]? = some (.cells (valsA bx) 41 (0, 0))) := Lib.hid ((Below.block g3 ab ((Array.getElem?_eq_some_iff.1 HA.out).1)).trans HA.out)
  have HPW := Lib.hid hpw
  have HCE := Lib.hid hcell
  have HPL := Lib.hid hplt
  clear HRM1 HP1 HCC1 HG1 HBX HA hcell hpw hplt g3
  generalize w2.heap.size = pg at *
  obtain ⟨m, hm⟩ : ∃ m, ps.length = m := ⟨_, rfl⟩
  have HM := Lib.hid hm
  rw [hm]
  clear hm
  by_cases h24 : m = 24
  · subst h24
    have hws := HPW.out.1 HM.out
    have HWS := Lib.hid hws
    have HWL : Hid ((splitSp s.data.toList).length = 24) := Lib.hid (by rw [← hws, List.length_map, HM.out])
    have HSZ := Lib.hid (word_sizes _ s.data.toList (Nat.le_refl _))
    have HWD : Hid (Wd w3 pg (splitSp s.data.toList)) := Lib.hid (fun j l hj => by
      rw [← hws, List.getElem?_map] at hj
      cases hx : ps[j]? with
      | none => rw [hx] at hj; cases hj
      | some x =>
        rw [hx] at hj
        obtain rfl := Option.some.inj hj
        exact HCE.out j x hx)
    clear hws HCE HPW
    have gB : Grew w3 (w3.alloc (.cells #[.slice none 0 0, .int .i64 0, .int .i64 0, .int .i64 0, .int .i64 0, .int .i64 0, .int .i64 0, .int .i64 0, .int .i64 0, .int .i64 0, .int .i64 0, .int .i64 0] 24)) := (Grew.refl w3).alloc _
    have HCM := Lib.hid (CfM.new w3 none 0 0 zeroC)
    have HRM4 := Lib.hid (HRM3.out.grow gB)
    have HP4 := Lib.hid (tab_below HP3.out (Nat.le_refl _) gB)
    have HG4 := Lib.hid (HG3.out.trans gB)
    have HBX4 := Lib.hid (HBX3.out.grow gB)
    have HA4 : Hid ((w3.alloc (.cells #[.slice none 0 0, .int .i64 0, .int .i64 0, .int .i64 0, .int .i64 0, .int .i64 0, .int .i64 0, .int .i64 0, .int .i64 0, .int .i64 0, .int .i64 0, .int .i64 0] 24)).heap[ab]? = some (.cells (valsA bx) 41 (0, 0))) := Lib.hid ((Below.block gB ab ((Array.getElem?_eq_some_iff.1 HA3.out).1)).trans HA3.out)
    have HWD4 : Hid (Wd (w3.alloc (.cells #[.slice none 0 0, .int .i64 0, .int .i64 0, .int .i64 0, .int .i64 0, .int .i64 0, .int .i64 0, .int .i64 0, .int .i64 0, .int .i64 0, .int .i64 0, .int .i64 0] 24)) pg (splitSp s.data.toList)) := Lib.hid (fun j l hj => stay gB (HWD.out j l hj))
    have hnb : ∀ k, 1 ≤ k → k < 12 → bx k ≠ w3.heap.size := fun k h1 h2 => Nat.ne_of_lt (HBX3.out k h1 h2).lt
    have HNB := Lib.hid hnb
    have hne1 : pg ≠ w3.heap.size := Nat.ne_of_lt HPL.out
    have hrc : rb ≠ w3.heap.size := Nat.ne_of_lt HRM3.out.lt
    have HRC : Hid (rb ≤ w3.heap.size) := Lib.hid (Nat.le_of_lt HRM3.out.lt)
    clear HRM3 HP3 HG3 HBX3 HA3 HWD gB HPL hnb
    go_wp2_with (refine wpList_load_row rfl 41 (.tmp 4) rfl ab rfl 41 (valsA bx) (0, 0) _ HA4.out Tryz.underlying41 rfl (by kernel_rfl) ?_)
    generalize hw4 : w3.alloc (.cells #[.slice none 0 0, .int .i64 0, .int .i64 0, .int .i64 0, .int .i64 0, .int .i64 0, .int .i64 0, .int .i64 0, .int .i64 0, .int .i64 0, .int .i64 0, .int .i64 0] 24) = w4 at *
    replace HCM : Hid (CfM w4 w3.heap.size none 0 0 zeroC) := by rw [← hw4]; exact HCM
    have hcs : w4.heap.size = w3.heap.size + 1 := by rw [← hw4]; simp
    generalize w3.heap.size = cb at *
    have HCS := Lib.hid hcs
    clear hw4 hcs HA4
    go_loopw [17] (fun i W' => ∃ (k : Nat) (f : Cf) (a : Option Addr) (n c : Nat), k ≤ 12 ∧ i = .int .i64 k ∧ Hid (readN (splitSp s.data.toList) k = some f) ∧ Hid (CfM W' cb a n c f) ∧ Hid (f.z.length = n) ∧ Hid (BufK .i64 3 (cb + 1) W' a n c f.z) ∧ Hid (w4.grownBy W' (some cb))) (fun i _ => 12 - (intOf i).toNat)
    case atStart => exact ⟨0, zeroC, none, 0, 0, Nat.zero_le _, rfl, Lib.hid rfl, HCM, Lib.hid rfl, Lib.hid (World.ownsRow_nil _ _ _ _), Lib.hid (Grew.by' (Grew.refl _) _)⟩
    case round =>
      obtain ⟨k, f, a, n, c, hk, rfl, HRN, HCF, HFN, HBU, HGB⟩ := hrel
      clear HCM
      have HGW : Hid (Grew w wr) := Lib.hid (HG4.out.trans_below (grownBy_below HGB.out HRC.out (by rw [HCS.out]; have := HRC.out; omega)) (by rw [HRB.out]; exact Nat.le_refl _))
      have HRMk : Hid (CfM wr rb none 0 0 zeroC) := Lib.hid (HRM4.out.grown HGB.out (fun e => hrc (Option.some.inj e)))
      by_cases hlt : k < 12
      · have hwj : 2 * k + 1 < (splitSp s.data.toList).length := by rw [HWL.out]; omega
        obtain ⟨P0, hp0⟩ : ∃ P0, (splitSp s.data.toList)[2 * k]? = some P0 := ⟨_, List.getElem?_eq_getElem (show 2 * k < (splitSp s.data.toList).length by omega)⟩
        obtain ⟨P1, hp1⟩ : ∃ P1, (splitSp s.data.toList)[2 * k + 1]? = some P1 := ⟨_, List.getElem?_eq_getElem hwj⟩
        have HPS : Hid ((⟨P1.toArray⟩ : ByteArray).size ≤ 1000000) := Lib.hid (by
          have := HSZ.out P1 (List.mem_of_getElem? hp1)
          rw [size_dataC] at hs ⊢
          exact Nat.le_trans this hs)
        have HE0 := Lib.hid hp0
        have HE1 := Lib.hid hp1
        have hq0 := stayB HGB.out (HWD4.out _ _ hp0) hne1
        have hq1 := stayB HGB.out (HWD4.out _ _ hp1) hne1
        clear hwj hp0 hp1
        by_cases h0 : k = 0
        · subst h0
          have hix := fun W => idx_0 bx W
          have w0 : IntKind.i64.wrap 0 = 0 := by decide
          have w1 : IntKind.i64.wrap 1 = 1 := by decide
          obtain ⟨V, hV⟩ : ∃ V, wr.alloc (.cells #[.string ⟨(nm 0).toArray⟩, .func (.func 54) #[] #[], .func (.func 56) #[] #[], .func (.func 58) #[] #[]] 40) = V := ⟨_, rfl⟩
          have gV : Grew wr V.drew := Grew.drew' (by rw [← hV]; exact (Grew.refl wr).alloc _)
          have HP0 : Hid (V.drew.cell? ⟨pg, 0, none⟩ = some (.string ⟨P0.toArray⟩)) := Lib.hid (stay gV hq0)
          have HP1 : Hid (V.drew.cell? ⟨pg, 1, none⟩ = some (.string ⟨P1.toArray⟩)) := Lib.hid (stay gV hq1)
          have HV0 : Hid (V.drew.cell? ⟨wr.heap.size, 0, none⟩ = some (.string ⟨(nm 0).toArray⟩)) := Lib.hid (stay (Grew.drew' (Grew.refl V)) (by rw [← hV, World.cell?_alloc_new]; rfl))
          have HV2 : Hid (V.drew.cell? ⟨wr.heap.size, 2, none⟩ = some (.func (.func 56) #[] #[])) := Lib.hid (stay (Grew.drew' (Grew.refl V)) (by rw [← hV, World.cell?_alloc_new]; rfl))
          have hne2 : wr.heap.size ≠ cb := Ne.symm (Nat.ne_of_lt HCF.out.lt)
          have HCV := Lib.hid (HCF.out.grow gV)
          have HBV := Lib.hid (own_grow HBU.out gV)
          have HGV : Hid (w4.grownBy V.drew (some cb)) := Lib.hid (grownBy_trans HGB.out (gV.by' _))
          have HGG : Hid (Grew w V.drew) := Lib.hid (HGW.out.trans gV)
          have HRV : Hid (CfM V.drew rb none 0 0 zeroC) := Lib.hid (HRMk.out.grow gV)
          have HBX5 : Hid (Bx bx V.drew) := Lib.hid (HBX4.out.left HGV.out HNB.out)
          have hsv : cb + 1 ≤ V.drew.heap.size := HCV.out.lt
          clear gV hq0 hq1
          by_cases hwd : P0 = nm 0
          · subst hwd
            have HBAD : Hid (rdk 0 P1 f = none → parseC s.data.toList = none) := Lib.hid (fun h => parseC_none hlt (readN_bad HRN.out HE0.out HE1.out h))
            have HSTEP : Hid (∀ g, rdk 0 P1 f = some g → readN (splitSp s.data.toList) (0 + 1) = some g) := Lib.hid (fun g h => readN_step HRN.out HE0.out HE1.out h)
            cases hrd : rdk 0 P1 f with
            | some g =>
              have HRN' := Lib.hid (HSTEP.out g hrd)
              have HC : Hid (Calls Tryz.prog 56 #[.pointer (some ⟨cb, 0, none⟩), .string ⟨P1.toArray⟩] V.drew fun e w' => (e = .returned (.bool true) ∧ ∃ a' n' c', CfM w' cb a' n' c' g ∧ g.z.length = n' ∧ BufK .i64 3 (cb + 1) w' a' n' c' g.z) ∧ V.drew.grownBy w' (some cb)) := Lib.hid (by
                refine (zread_any ⟨P1.toArray⟩ V.drew HCV.out HPS.out (tab_below HT0.out (Nat.le_refl _) HGG.out)).mono ?_
                rintro e w' ⟨⟨x, a', c', hx, rfl, hm, hb⟩ | ⟨hx, rfl⟩, g2⟩
                · have e1 : rdk 0 P1 f = some { f with z := x } := by show (match readZ P1 with | some z => some { f with z := z } | none => none) = _; rw [show readZ P1 = some x from hx]
                  obtain rfl : { f with z := x } = g := Option.some.inj (e1.symm.trans hrd)
                  exact ⟨⟨rfl, a', _, c', hm, rfl, row_mono hb hsv⟩, g2⟩
                · have e1 : rdk 0 P1 f = none := by show (match readZ P1 with | some z => some { f with z := z } | none => none) = _; rw [show readZ P1 = none from hx]
                  rw [e1] at hrd; cases hrd)
              clear hrd HSTEP HBAD HE0 HE1 HBX5 HNB
              generalize nm 0 = NL at *
              go_upto_region 9 with fail
              (try rw [hV])
              refine wp_region_held_drew (S := (fun W' => V.grownBy W' (some cb) ∧ W'.cell? ⟨pg, 0, none⟩ = some (.string ⟨NL.toArray⟩) ∧ W'.cell? ⟨pg, 1, none⟩ = some (.string ⟨P1.toArray⟩) ∧ W'.cell? ⟨wr.heap.size, 0, none⟩ = some (.string ⟨NL.toArray⟩) ∧ W'.cell? ⟨wr.heap.size, 2, none⟩ = some (.func (.func 56) #[] #[]))) (by kernel_rfl) ⟨Grew.by' (Grew.drew' (Grew.refl _)) _, HP0.out, HP1.out, HV0.out, HV2.out⟩ (fun hHeld => ?_)
              refine wpAnyH_take (i := 0) (oi := { dst := some 21, op := Go.Op.move (Go.Operand.tmp 5), type := 35, pos := _, after := #[], guard := none }) (v := ?v1) rfl (by kernel_rfl) (by kernel_rfl) (by kernel_rfl) (fun _ _ _ h => h) (Or.inl ⟨by kernel_rfl, ?hy1⟩) (by assumption) ?_
              case hy1 => intro w hSw; (try dsimp only at hSw); first | (go_simp; done) | (go_simp; with_reducible rfl)
              (try simp only [Act.put, List.setIfInBounds_toArray, List.set_cons_zero, List.set_cons_succ])
              refine wpAnyH_take (i := 1) (oi := { dst := some 22, op := Go.Op.move (Go.Operand.tmp 7), type := 3, pos := _, after := #[], guard := none }) (v := ?v2) rfl (by kernel_rfl) (by kernel_rfl) (by kernel_rfl) (fun _ _ _ h => h) (Or.inl ⟨by kernel_rfl, ?hy2⟩) (by assumption) ?_
              case hy2 => intro w hSw; (try dsimp only at hSw); first | (go_simp; done) | (go_simp; with_reducible rfl)
              (try simp only [Act.put, List.setIfInBounds_toArray, List.set_cons_zero, List.set_cons_succ])
              refine wpAnyH_take (i := 2) (oi := { dst := some 23, op := Go.Op.binOp Go.BinOp.mul 3 (Go.Operand.const (Go.Value.int Go.IntKind.i64 2)) (Go.Operand.tmp 22) 3, type := 3, pos := _, after := #[{ on := 1, ground := Go.Ground.data }], guard := none }) (v := ?v3) rfl (by kernel_rfl) (by kernel_rfl) (by kernel_rfl) (fun _ _ _ h => h) (Or.inl ⟨by kernel_rfl, ?hy3⟩) (by assumption) ?_
              case hy3 => intro w hSw; (try dsimp only at hSw); first | (go_simp; done) | (go_simp; with_reducible rfl)
              (try simp only [Act.put, List.setIfInBounds_toArray, List.set_cons_zero, List.set_cons_succ])
              refine wpAnyH_take (i := 3) (oi := { dst := some 24, op := Go.Op.indexAddr 35 (Go.Operand.tmp 21) (Go.Operand.tmp 23), type := 0, pos := _, after := #[{ on := 0, ground := Go.Ground.data }, { on := 2, ground := Go.Ground.data }], guard := none }) (v := ?v4) rfl (by kernel_rfl) (by kernel_rfl) (by kernel_rfl) (fun _ _ _ h => h) (Or.inl ⟨by kernel_rfl, ?hy4⟩) (by assumption) ?_
              case hy4 => intro w hSw; (try dsimp only at hSw); first | (go_simp; done) | (go_simp; with_reducible rfl)
              (try simp only [Act.put, List.setIfInBounds_toArray, List.set_cons_zero, List.set_cons_succ])
              refine wpAnyH_take (i := 4) (oi := { dst := some 25, op := Go.Op.load 9 (Go.Operand.tmp 24), type := 9, pos := _, after := #[{ on := 3, ground := Go.Ground.data }], guard := none }) (v := ?v5) rfl (by kernel_rfl) (by kernel_rfl) (by kernel_rfl) (fun _ _ _ h => h) (Or.inl ⟨by kernel_rfl, ?hy5⟩) (by assumption) ?_
              case hy5 => intro w hSw; (try dsimp only at hSw); first | (go_simp; done) | (go_simp; with_reducible rfl)
              (try simp only [Act.put, List.setIfInBounds_toArray, List.set_cons_zero, List.set_cons_succ])
              refine wpAnyH_take (i := 5) (oi := { dst := some 26, op := Go.Op.fieldAddr 40 (Go.Operand.tmp 8) 0, type := 0, pos := _, after := #[], guard := none }) (v := ?v6) rfl (by kernel_rfl) (by kernel_rfl) (by kernel_rfl) (fun _ _ _ h => h) (Or.inl ⟨by kernel_rfl, ?hy6⟩) (by assumption) ?_
              case hy6 => intro w hSw; (try dsimp only at hSw); first | (go_simp; done) | (go_simp; with_reducible rfl)
              (try simp only [Act.put, List.setIfInBounds_toArray, List.set_cons_zero, List.set_cons_succ])
              refine wpAnyH_take (i := 6) (oi := { dst := some 27, op := Go.Op.load 9 (Go.Operand.tmp 26), type := 9, pos := _, after := #[{ on := 5, ground := Go.Ground.data }], guard := none }) (v := ?v7) rfl (by kernel_rfl) (by kernel_rfl) (by kernel_rfl) (fun _ _ _ h => h) (Or.inl ⟨by kernel_rfl, ?hy7⟩) (by assumption) ?_
              case hy7 => intro w hSw; (try dsimp only at hSw); first | (go_simp; done) | (go_simp; with_reducible rfl)
              (try simp only [Act.put, List.setIfInBounds_toArray, List.set_cons_zero, List.set_cons_succ])
              refine wpAnyH_take (i := 7) (oi := { dst := some 28, op := Go.Op.binOp Go.BinOp.neq 9 (Go.Operand.tmp 25) (Go.Operand.tmp 27) 9, type := 4, pos := _, after := #[{ on := 4, ground := Go.Ground.data }, { on := 6, ground := Go.Ground.data }], guard := none }) (v := ?v8) rfl (by kernel_rfl) (by kernel_rfl) (by kernel_rfl) (fun _ _ _ h => h) (Or.inl ⟨by kernel_rfl, ?hy8⟩) (by assumption) ?_
              case hy8 => intro w hSw; (try dsimp only at hSw); first | (go_simp; done) | (go_simp; with_reducible rfl)
              (try simp only [Act.put, List.setIfInBounds_toArray, List.set_cons_zero, List.set_cons_succ])
              refine wpAnyH_take (i := 8) (oi := { dst := some 29, op := Go.Op.move (Go.Operand.tmp 28), type := 4, pos := _, after := #[{ on := 7, ground := Go.Ground.data }], guard := none }) (v := ?v9) rfl (by kernel_rfl) (by kernel_rfl) (by kernel_rfl) (fun _ _ _ h => h) (Or.inl ⟨by kernel_rfl, ?hy9⟩) (by assumption) ?_
              case hy9 => intro w hSw; (try dsimp only at hSw); first | (go_simp; done) | (go_simp; with_reducible rfl)
              (try simp only [Act.put, List.setIfInBounds_toArray, List.set_cons_zero, List.set_cons_succ])
              refine wpAnyH_take (i := 9) (oi := { dst := some 30, op := Go.Op.fieldAddr 40 (Go.Operand.tmp 8) 2, type := 0, pos := _, after := #[{ on := 8, ground := Go.Ground.guard }], guard := some (8, false) }) (v := ?v10) rfl (by kernel_rfl) (by kernel_rfl) (by kernel_rfl) (fun _ _ _ h => h) (Or.inl ⟨by kernel_rfl, ?hy10⟩) (by assumption) ?_
              case hy10 => intro w hSw; (try dsimp only at hSw); first | (go_simp; done) | (go_simp; with_reducible rfl)
              (try simp only [Act.put, List.setIfInBounds_toArray, List.set_cons_zero, List.set_cons_succ])
              refine wpAnyH_take (i := 10) (oi := { dst := some 31, op := Go.Op.load 37 (Go.Operand.tmp 30), type := 37, pos := _, after := #[{ on := 9, ground := Go.Ground.data }, { on := 8, ground := Go.Ground.guard }], guard := some (8, false) }) (v := ?v11) rfl (by kernel_rfl) (by kernel_rfl) (by kernel_rfl) (fun _ _ _ h => h) (Or.inl ⟨by kernel_rfl, ?hy11⟩) (by assumption) ?_
              case hy11 => intro w hSw; (try dsimp only at hSw); first | (go_simp; done) | (go_simp; with_reducible rfl)
              (try simp only [Act.put, List.setIfInBounds_toArray, List.set_cons_zero, List.set_cons_succ])
              refine wpAnyH_take (i := 11) (oi := { dst := some 32, op := Go.Op.move (Go.Operand.tmp 5), type := 35, pos := _, after := #[{ on := 8, ground := Go.Ground.guard }], guard := some (8, false) }) (v := ?v12) rfl (by kernel_rfl) (by kernel_rfl) (by kernel_rfl) (fun _ _ _ h => h) (Or.inl ⟨by kernel_rfl, ?hy12⟩) (by assumption) ?_
              case hy12 => intro w hSw; (try dsimp only at hSw); first | (go_simp; done) | (go_simp; with_reducible rfl)
              (try simp only [Act.put, List.setIfInBounds_toArray, List.set_cons_zero, List.set_cons_succ])
              refine wpAnyH_take (i := 12) (oi := { dst := some 33, op := Go.Op.move (Go.Operand.tmp 7), type := 3, pos := _, after := #[{ on := 8, ground := Go.Ground.guard }], guard := some (8, false) }) (v := ?v13) rfl (by kernel_rfl) (by kernel_rfl) (by kernel_rfl) (fun _ _ _ h => h) (Or.inl ⟨by kernel_rfl, ?hy13⟩) (by assumption) ?_
              case hy13 => intro w hSw; (try dsimp only at hSw); first | (go_simp; done) | (go_simp; with_reducible rfl)
              (try simp only [Act.put, List.setIfInBounds_toArray, List.set_cons_zero, List.set_cons_succ])
              refine wpAnyH_take (i := 13) (oi := { dst := some 34, op := Go.Op.binOp Go.BinOp.mul 3 (Go.Operand.const (Go.Value.int Go.IntKind.i64 2)) (Go.Operand.tmp 33) 3, type := 3, pos := _, after := #[{ on := 12, ground := Go.Ground.data }, { on := 8, ground := Go.Ground.guard }], guard := some (8, false) }) (v := ?v14) rfl (by kernel_rfl) (by kernel_rfl) (by kernel_rfl) (fun _ _ _ h => h) (Or.inl ⟨by kernel_rfl, ?hy14⟩) (by assumption) ?_
              case hy14 => intro w hSw; (try dsimp only at hSw); first | (go_simp; done) | (go_simp; with_reducible rfl)
              (try simp only [Act.put, List.setIfInBounds_toArray, List.set_cons_zero, List.set_cons_succ])
              refine wpAnyH_take (i := 14) (oi := { dst := some 35, op := Go.Op.binOp Go.BinOp.add 3 (Go.Operand.tmp 34) (Go.Operand.const (Go.Value.int Go.IntKind.i64 1)) 3, type := 3, pos := _, after := #[{ on := 13, ground := Go.Ground.data }, { on := 8, ground := Go.Ground.guard }], guard := some (8, false) }) (v := ?v15) rfl (by kernel_rfl) (by kernel_rfl) (by kernel_rfl) (fun _ _ _ h => h) (Or.inl ⟨by kernel_rfl, ?hy15⟩) (by assumption) ?_
              case hy15 => intro w hSw; (try dsimp only at hSw); first | (go_simp; done) | (go_simp; with_reducible rfl)
              (try simp only [Act.put, List.setIfInBounds_toArray, List.set_cons_zero, List.set_cons_succ])
              refine wpAnyH_take (i := 15) (oi := { dst := some 36, op := Go.Op.indexAddr 35 (Go.Operand.tmp 32) (Go.Operand.tmp 35), type := 0, pos := _, after := #[{ on := 11, ground := Go.Ground.data }, { on := 14, ground := Go.Ground.data }, { on := 8, ground := Go.Ground.guard }], guard := some (8, false) }) (v := ?v16) rfl (by kernel_rfl) (by kernel_rfl) (by kernel_rfl) (fun _ _ _ h => h) (Or.inl ⟨by kernel_rfl, ?hy16⟩) (by assumption) ?_
              case hy16 => intro w hSw; (try dsimp only at hSw); first | (go_simp; done) | (go_simp; with_reducible rfl)
              (try simp only [Act.put, List.setIfInBounds_toArray, List.set_cons_zero, List.set_cons_succ])
              refine wpAnyH_take (i := 16) (oi := { dst := some 37, op := Go.Op.load 9 (Go.Operand.tmp 36), type := 9, pos := _, after := #[{ on := 15, ground := Go.Ground.data }, { on := 8, ground := Go.Ground.guard }], guard := some (8, false) }) (v := ?v17) rfl (by kernel_rfl) (by kernel_rfl) (by kernel_rfl) (fun _ _ _ h => h) (Or.inl ⟨by kernel_rfl, ?hy17⟩) (by assumption) ?_
              case hy17 => intro w hSw; (try dsimp only at hSw); first | (go_simp; done) | (go_simp; with_reducible rfl)
              (try simp only [Act.put, List.setIfInBounds_toArray, List.set_cons_zero, List.set_cons_succ])
              refine wpAnyH_ready (rs := [17]) (by kernel_rfl) (by simp) ?_
              refine AllReadyH.cons (o := { dst := some 38, op := Go.Op.call { callee := Go.Callee.value (Go.Operand.tmp 31), args := #[Go.Operand.tmp 6, Go.Operand.tmp 37], argTypes := #[43, 9] }, type := 4, pos := _, after := #[{ on := 10, ground := Go.Ground.data }, { on := 16, ground := Go.Ground.data }, { on := 8, ground := Go.Ground.chain }, { on := 8, ground := Go.Ground.guard }], guard := some (8, false) }) rfl (fun K hK => ?_) AllReadyH.nil
              go_simp
              (refine HC.out.mono ?_; rintro e w2 ⟨⟨rfl, hex⟩, g2⟩)
              (try go_wp2_with fail)
              refine hK.out _ _ ?hS19 (fun hHeld => ?_)
              case hS19 => (try dsimp only); exact ⟨grownBy_trans ((Grew.drew' (Grew.refl V)).by' _) g2, stayB g2 HP0.out hne1, stayB g2 HP1.out hne1, stayB g2 HV0.out hne2, stayB g2 HV2.out hne2⟩
              clear hK K
              (try simp only [Act.put, List.setIfInBounds_toArray, List.set_cons_zero, List.set_cons_succ])
              refine wpAnyH_take (i := 18) (oi := { dst := some 39, op := Go.Op.unOp Go.UnOp.not 4 (Go.Operand.tmp 38), type := 4, pos := _, after := #[{ on := 17, ground := Go.Ground.data }, { on := 8, ground := Go.Ground.guard }], guard := some (8, false) }) (v := ?v20) rfl (by kernel_rfl) (by kernel_rfl) (by kernel_rfl) (fun _ _ _ h => h) (Or.inl ⟨by kernel_rfl, ?hy20⟩) (by assumption) ?_
              case hy20 => intro w hSw; (try dsimp only at hSw); first | (go_simp; done) | (go_simp; with_reducible rfl)
              (try simp only [Act.put, List.setIfInBounds_toArray, List.set_cons_zero, List.set_cons_succ])
              refine wpAnyH_take (i := 19) (oi := { dst := some 40, op := Go.Op.pick (Go.Operand.tmp 29) (Go.Operand.const (Go.Value.bool true)) (Go.Operand.tmp 39), type := 4, pos := _, after := #[{ on := 8, ground := Go.Ground.data }, { on := 18, ground := Go.Ground.data }], guard := none }) (v := ?v21) rfl (by kernel_rfl) (by kernel_rfl) (by kernel_rfl) (fun _ _ _ h => h) (Or.inl ⟨by kernel_rfl, ?hy21⟩) (by assumption) ?_
              case hy21 => intro w hSw; (try dsimp only at hSw); first | (go_simp; done) | (go_simp; with_reducible rfl)
              (try simp only [Act.put, List.setIfInBounds_toArray, List.set_cons_zero, List.set_cons_succ])
              refine wpAnyH_done (by kernel_rfl) ?_ _
              obtain ⟨a', n', c', hcm, hzl, hbu⟩ := hex
              have HGB' := Lib.hid (grownBy_trans HGV.out g2)
              have HCM' := Lib.hid hcm
              have HZL' := Lib.hid hzl
              have HBU' := Lib.hid hbu
              clear hcm hzl hbu g2 hHeld
              go_wp2
              go_roundw
              case rel => exact ⟨0 + 1, g, a', n', c', by omega, by go_num, HRN', HCM', HZL', HBU', HGB'⟩
              case measure => first | (simp [intOf]; done) | (simp [intOf]; omega)
            | none =>
              have HNO := Lib.hid (HBAD.out hrd)
              have HC : Hid (Calls Tryz.prog 56 #[.pointer (some ⟨cb, 0, none⟩), .string ⟨P1.toArray⟩] V.drew fun e w' => e = .returned (.bool false) ∧ V.drew.grownBy w' (some cb)) := Lib.hid (by
                refine (zread_any ⟨P1.toArray⟩ V.drew HCV.out HPS.out (tab_below HT0.out (Nat.le_refl _) HGG.out)).mono ?_
                rintro e w' ⟨⟨x, a', c', hx, rfl, hm, hb⟩ | ⟨hx, rfl⟩, g2⟩
                · have e1 : rdk 0 P1 f = some { f with z := x } := by show (match readZ P1 with | some z => some { f with z := z } | none => none) = _; rw [show readZ P1 = some x from hx]
                  rw [e1] at hrd; cases hrd
                · exact ⟨rfl, g2⟩)
              clear hrd HSTEP HBAD HE0 HE1 HBX5 HNB
              generalize nm 0 = NL at *
              go_upto_region 9 with fail
              (try rw [hV])
              refine wp_region_held_drew (S := (fun W' => V.grownBy W' (some cb) ∧ W'.cell? ⟨pg, 0, none⟩ = some (.string ⟨NL.toArray⟩) ∧ W'.cell? ⟨pg, 1, none⟩ = some (.string ⟨P1.toArray⟩) ∧ W'.cell? ⟨wr.heap.size, 0, none⟩ = some (.string ⟨NL.toArray⟩) ∧ W'.cell? ⟨wr.heap.size, 2, none⟩ = some (.func (.func 56) #[] #[]))) (by kernel_rfl) ⟨Grew.by' (Grew.drew' (Grew.refl _)) _, HP0.out, HP1.out, HV0.out, HV2.out⟩ (fun hHeld => ?_)
              refine wpAnyH_take (i := 0) (oi := { dst := some 21, op := Go.Op.move (Go.Operand.tmp 5), type := 35, pos := _, after := #[], guard := none }) (v := ?v22) rfl (by kernel_rfl) (by kernel_rfl) (by kernel_rfl) (fun _ _ _ h => h) (Or.inl ⟨by kernel_rfl, ?hy22⟩) (by assumption) ?_
              case hy22 => intro w hSw; (try dsimp only at hSw); first | (go_simp; done) | (go_simp; with_reducible rfl)
              (try simp only [Act.put, List.setIfInBounds_toArray, List.set_cons_zero, List.set_cons_succ])
              refine wpAnyH_take (i := 1) (oi := { dst := some 22, op := Go.Op.move (Go.Operand.tmp 7), type := 3, pos := _, after := #[], guard := none }) (v := ?v23) rfl (by kernel_rfl) (by kernel_rfl) (by kernel_rfl) (fun _ _ _ h => h) (Or.inl ⟨by kernel_rfl, ?hy23⟩) (by assumption) ?_
              case hy23 => intro w hSw; (try dsimp only at hSw); first | (go_simp; done) | (go_simp; with_reducible rfl)
              (try simp only [Act.put, List.setIfInBounds_toArray, List.set_cons_zero, List.set_cons_succ])
              refine wpAnyH_take (i := 2) (oi := { dst := some 23, op := Go.Op.binOp Go.BinOp.mul 3 (Go.Operand.const (Go.Value.int Go.IntKind.i64 2)) (Go.Operand.tmp 22) 3, type := 3, pos := _, after := #[{ on := 1, ground := Go.Ground.data }], guard := none }) (v := ?v24) rfl (by kernel_rfl) (by kernel_rfl) (by kernel_rfl) (fun _ _ _ h => h) (Or.inl ⟨by kernel_rfl, ?hy24⟩) (by assumption) ?_
              case hy24 => intro w hSw; (try dsimp only at hSw); first | (go_simp; done) | (go_simp; with_reducible rfl)
              (try simp only [Act.put, List.setIfInBounds_toArray, List.set_cons_zero, List.set_cons_succ])
              refine wpAnyH_take (i := 3) (oi := { dst := some 24, op := Go.Op.indexAddr 35 (Go.Operand.tmp 21) (Go.Operand.tmp 23), type := 0, pos := _, after := #[{ on := 0, ground := Go.Ground.data }, { on := 2, ground := Go.Ground.data }], guard := none }) (v := ?v25) rfl (by kernel_rfl) (by kernel_rfl) (by kernel_rfl) (fun _ _ _ h => h) (Or.inl ⟨by kernel_rfl, ?hy25⟩) (by assumption) ?_
              case hy25 => intro w hSw; (try dsimp only at hSw); first | (go_simp; done) | (go_simp; with_reducible rfl)
              (try simp only [Act.put, List.setIfInBounds_toArray, List.set_cons_zero, List.set_cons_succ])
              refine wpAnyH_take (i := 4) (oi := { dst := some 25, op := Go.Op.load 9 (Go.Operand.tmp 24), type := 9, pos := _, after := #[{ on := 3, ground := Go.Ground.data }], guard := none }) (v := ?v26) rfl (by kernel_rfl) (by kernel_rfl) (by kernel_rfl) (fun _ _ _ h => h) (Or.inl ⟨by kernel_rfl, ?hy26⟩) (by assumption) ?_
              case hy26 => intro w hSw; (try dsimp only at hSw); first | (go_simp; done) | (go_simp; with_reducible rfl)
              (try simp only [Act.put, List.setIfInBounds_toArray, List.set_cons_zero, List.set_cons_succ])
              refine wpAnyH_take (i := 5) (oi := { dst := some 26, op := Go.Op.fieldAddr 40 (Go.Operand.tmp 8) 0, type := 0, pos := _, after := #[], guard := none }) (v := ?v27) rfl (by kernel_rfl) (by kernel_rfl) (by kernel_rfl) (fun _ _ _ h => h) (Or.inl ⟨by kernel_rfl, ?hy27⟩) (by assumption) ?_
              case hy27 => intro w hSw; (try dsimp only at hSw); first | (go_simp; done) | (go_simp; with_reducible rfl)
              (try simp only [Act.put, List.setIfInBounds_toArray, List.set_cons_zero, List.set_cons_succ])
              refine wpAnyH_take (i := 6) (oi := { dst := some 27, op := Go.Op.load 9 (Go.Operand.tmp 26), type := 9, pos := _, after := #[{ on := 5, ground := Go.Ground.data }], guard := none }) (v := ?v28) rfl (by kernel_rfl) (by kernel_rfl) (by kernel_rfl) (fun _ _ _ h => h) (Or.inl ⟨by kernel_rfl, ?hy28⟩) (by assumption) ?_
              case hy28 => intro w hSw; (try dsimp only at hSw); first | (go_simp; done) | (go_simp; with_reducible rfl)
              (try simp only [Act.put, List.setIfInBounds_toArray, List.set_cons_zero, List.set_cons_succ])
              refine wpAnyH_take (i := 7) (oi := { dst := some 28, op := Go.Op.binOp Go.BinOp.neq 9 (Go.Operand.tmp 25) (Go.Operand.tmp 27) 9, type := 4, pos := _, after := #[{ on := 4, ground := Go.Ground.data }, { on := 6, ground := Go.Ground.data }], guard := none }) (v := ?v29) rfl (by kernel_rfl) (by kernel_rfl) (by kernel_rfl) (fun _ _ _ h => h) (Or.inl ⟨by kernel_rfl, ?hy29⟩) (by assumption) ?_
              case hy29 => intro w hSw; (try dsimp only at hSw); first | (go_simp; done) | (go_simp; with_reducible rfl)
              (try simp only [Act.put, List.setIfInBounds_toArray, List.set_cons_zero, List.set_cons_succ])
              refine wpAnyH_take (i := 8) (oi := { dst := some 29, op := Go.Op.move (Go.Operand.tmp 28), type := 4, pos := _, after := #[{ on := 7, ground := Go.Ground.data }], guard := none }) (v := ?v30) rfl (by kernel_rfl) (by kernel_rfl) (by kernel_rfl) (fun _ _ _ h => h) (Or.inl ⟨by kernel_rfl, ?hy30⟩) (by assumption) ?_
              case hy30 => intro w hSw; (try dsimp only at hSw); first | (go_simp; done) | (go_simp; with_reducible rfl)
              (try simp only [Act.put, List.setIfInBounds_toArray, List.set_cons_zero, List.set_cons_succ])
              refine wpAnyH_take (i := 9) (oi := { dst := some 30, op := Go.Op.fieldAddr 40 (Go.Operand.tmp 8) 2, type := 0, pos := _, after := #[{ on := 8, ground := Go.Ground.guard }], guard := some (8, false) }) (v := ?v31) rfl (by kernel_rfl) (by kernel_rfl) (by kernel_rfl) (fun _ _ _ h => h) (Or.inl ⟨by kernel_rfl, ?hy31⟩) (by assumption) ?_
              case hy31 => intro w hSw; (try dsimp only at hSw); first | (go_simp; done) | (go_simp; with_reducible rfl)
              (try simp only [Act.put, List.setIfInBounds_toArray, List.set_cons_zero, List.set_cons_succ])
              refine wpAnyH_take (i := 10) (oi := { dst := some 31, op := Go.Op.load 37 (Go.Operand.tmp 30), type := 37, pos := _, after := #[{ on := 9, ground := Go.Ground.data }, { on := 8, ground := Go.Ground.guard }], guard := some (8, false) }) (v := ?v32) rfl (by kernel_rfl) (by kernel_rfl) (by kernel_rfl) (fun _ _ _ h => h) (Or.inl ⟨by kernel_rfl, ?hy32⟩) (by assumption) ?_
              case hy32 => intro w hSw; (try dsimp only at hSw); first | (go_simp; done) | (go_simp; with_reducible rfl)
              (try simp only [Act.put, List.setIfInBounds_toArray, List.set_cons_zero, List.set_cons_succ])
              refine wpAnyH_take (i := 11) (oi := { dst := some 32, op := Go.Op.move (Go.Operand.tmp 5), type := 35, pos := _, after := #[{ on := 8, ground := Go.Ground.guard }], guard := some (8, false) }) (v := ?v33) rfl (by kernel_rfl) (by kernel_rfl) (by kernel_rfl) (fun _ _ _ h => h) (Or.inl ⟨by kernel_rfl, ?hy33⟩) (by assumption) ?_
              case hy33 => intro w hSw; (try dsimp only at hSw); first | (go_simp; done) | (go_simp; with_reducible rfl)
              (try simp only [Act.put, List.setIfInBounds_toArray, List.set_cons_zero, List.set_cons_succ])
              refine wpAnyH_take (i := 12) (oi := { dst := some 33, op := Go.Op.move (Go.Operand.tmp 7), type := 3, pos := _, after := #[{ on := 8, ground := Go.Ground.guard }], guard := some (8, false) }) (v := ?v34) rfl (by kernel_rfl) (by kernel_rfl) (by kernel_rfl) (fun _ _ _ h => h) (Or.inl ⟨by kernel_rfl, ?hy34⟩) (by assumption) ?_
              case hy34 => intro w hSw; (try dsimp only at hSw); first | (go_simp; done) | (go_simp; with_reducible rfl)
              (try simp only [Act.put, List.setIfInBounds_toArray, List.set_cons_zero, List.set_cons_succ])
              refine wpAnyH_take (i := 13) (oi := { dst := some 34, op := Go.Op.binOp Go.BinOp.mul 3 (Go.Operand.const (Go.Value.int Go.IntKind.i64 2)) (Go.Operand.tmp 33) 3, type := 3, pos := _, after := #[{ on := 12, ground := Go.Ground.data }, { on := 8, ground := Go.Ground.guard }], guard := some (8, false) }) (v := ?v35) rfl (by kernel_rfl) (by kernel_rfl) (by kernel_rfl) (fun _ _ _ h => h) (Or.inl ⟨by kernel_rfl, ?hy35⟩) (by assumption) ?_
              case hy35 => intro w hSw; (try dsimp only at hSw); first | (go_simp; done) | (go_simp; with_reducible rfl)
              (try simp only [Act.put, List.setIfInBounds_toArray, List.set_cons_zero, List.set_cons_succ])
              refine wpAnyH_take (i := 14) (oi := { dst := some 35, op := Go.Op.binOp Go.BinOp.add 3 (Go.Operand.tmp 34) (Go.Operand.const (Go.Value.int Go.IntKind.i64 1)) 3, type := 3, pos := _, after := #[{ on := 13, ground := Go.Ground.data }, { on := 8, ground := Go.Ground.guard }], guard := some (8, false) }) (v := ?v36) rfl (by kernel_rfl) (by kernel_rfl) (by kernel_rfl) (fun _ _ _ h => h) (Or.inl ⟨by kernel_rfl, ?hy36⟩) (by assumption) ?_
              case hy36 => intro w hSw; (try dsimp only at hSw); first | (go_simp; done) | (go_simp; with_reducible rfl)
              (try simp only [Act.put, List.setIfInBounds_toArray, List.set_cons_zero, List.set_cons_succ])
              refine wpAnyH_take (i := 15) (oi := { dst := some 36, op := Go.Op.indexAddr 35 (Go.Operand.tmp 32) (Go.Operand.tmp 35), type := 0, pos := _, after := #[{ on := 11, ground := Go.Ground.data }, { on := 14, ground := Go.Ground.data }, { on := 8, ground := Go.Ground.guard }], guard := some (8, false) }) (v := ?v37) rfl (by kernel_rfl) (by kernel_rfl) (by kernel_rfl) (fun _ _ _ h => h) (Or.inl ⟨by kernel_rfl, ?hy37⟩) (by assumption) ?_
              case hy37 => intro w hSw; (try dsimp only at hSw); first | (go_simp; done) | (go_simp; with_reducible rfl)
              (try simp only [Act.put, List.setIfInBounds_toArray, List.set_cons_zero, List.set_cons_succ])
              refine wpAnyH_take (i := 16) (oi := { dst := some 37, op := Go.Op.load 9 (Go.Operand.tmp 36), type := 9, pos := _, after := #[{ on := 15, ground := Go.Ground.data }, { on := 8, ground := Go.Ground.guard }], guard := some (8, false) }) (v := ?v38) rfl (by kernel_rfl) (by kernel_rfl) (by kernel_rfl) (fun _ _ _ h => h) (Or.inl ⟨by kernel_rfl, ?hy38⟩) (by assumption) ?_
              case hy38 => intro w hSw; (try dsimp only at hSw); first | (go_simp; done) | (go_simp; with_reducible rfl)
              (try simp only [Act.put, List.setIfInBounds_toArray, List.set_cons_zero, List.set_cons_succ])
              refine wpAnyH_ready (rs := [17]) (by kernel_rfl) (by simp) ?_
              refine AllReadyH.cons (o := { dst := some 38, op := Go.Op.call { callee := Go.Callee.value (Go.Operand.tmp 31), args := #[Go.Operand.tmp 6, Go.Operand.tmp 37], argTypes := #[43, 9] }, type := 4, pos := _, after := #[{ on := 10, ground := Go.Ground.data }, { on := 16, ground := Go.Ground.data }, { on := 8, ground := Go.Ground.chain }, { on := 8, ground := Go.Ground.guard }], guard := some (8, false) }) rfl (fun K hK => ?_) AllReadyH.nil
              go_simp
              (refine HC.out.mono ?_; rintro e w2 ⟨rfl, g2⟩)
              (try go_wp2_with fail)
              refine hK.out _ _ ?hS40 (fun hHeld => ?_)
              case hS40 => (try dsimp only); exact ⟨grownBy_trans ((Grew.drew' (Grew.refl V)).by' _) g2, stayB g2 HP0.out hne1, stayB g2 HP1.out hne1, stayB g2 HV0.out hne2, stayB g2 HV2.out hne2⟩
              clear hK K
              (try simp only [Act.put, List.setIfInBounds_toArray, List.set_cons_zero, List.set_cons_succ])
              refine wpAnyH_take (i := 18) (oi := { dst := some 39, op := Go.Op.unOp Go.UnOp.not 4 (Go.Operand.tmp 38), type := 4, pos := _, after := #[{ on := 17, ground := Go.Ground.data }, { on := 8, ground := Go.Ground.guard }], guard := some (8, false) }) (v := ?v41) rfl (by kernel_rfl) (by kernel_rfl) (by kernel_rfl) (fun _ _ _ h => h) (Or.inl ⟨by kernel_rfl, ?hy41⟩) (by assumption) ?_
              case hy41 => intro w hSw; (try dsimp only at hSw); first | (go_simp; done) | (go_simp; with_reducible rfl)
              (try simp only [Act.put, List.setIfInBounds_toArray, List.set_cons_zero, List.set_cons_succ])
              refine wpAnyH_take (i := 19) (oi := { dst := some 40, op := Go.Op.pick (Go.Operand.tmp 29) (Go.Operand.const (Go.Value.bool true)) (Go.Operand.tmp 39), type := 4, pos := _, after := #[{ on := 8, ground := Go.Ground.data }, { on := 18, ground := Go.Ground.data }], guard := none }) (v := ?v42) rfl (by kernel_rfl) (by kernel_rfl) (by kernel_rfl) (fun _ _ _ h => h) (Or.inl ⟨by kernel_rfl, ?hy42⟩) (by assumption) ?_
              case hy42 => intro w hSw; (try dsimp only at hSw); first | (go_simp; done) | (go_simp; with_reducible rfl)
              (try simp only [Act.put, List.setIfInBounds_toArray, List.set_cons_zero, List.set_cons_succ])
              refine wpAnyH_done (by kernel_rfl) ?_ _
              have HRMf := Lib.hid (HRV.out.grown g2 (fun e => hrc (Option.some.inj e)))
              have HGF := Lib.hid (HGG.out.trans_below (grownBy_below g2 HRC.out (by have := HRC.out; omega)) (by rw [HRB.out]; exact Nat.le_refl _))
              clear g2 hHeld
              go_wp2_with (refine wpList_store_row rfl 24 (.tmp 2) (.tmp 41) rfl rb #[.slice none 0 0, .int .i64 0, .int .i64 0, .int .i64 0, .int .i64 0, .int .i64 0, .int .i64 0, .int .i64 0, .int .i64 0, .int .i64 0, .int .i64 0, .int .i64 0] rfl rfl 24 _ HRMf.out (by kernel_rfl) rfl (by kernel_rfl) ?_)
              have hld := run_loadVar_row (P := Tryz.prog) (w2.setRow rb #[.slice none 0 0, .int .i64 0, .int .i64 0, .int .i64 0, .int .i64 0, .int .i64 0, .int .i64 0, .int .i64 0, .int .i64 0, .int .i64 0, .int .i64 0, .int .i64 0]) rb 24 24 #[.slice none 0 0, .int .i64 0, .int .i64 0, .int .i64 0, .int .i64 0, .int .i64 0, .int .i64 0, .int .i64 0, .int .i64 0, .int .i64 0, .int .i64 0, .int .i64 0] (0, 0) _ (setRow_heap _ _ _ _ _ _ HRMf.out) Tryz.underlying24 rfl (by kernel_rfl)
              have HGE : Hid (Grew w (w2.setRow rb #[.slice none 0 0, .int .i64 0, .int .i64 0, .int .i64 0, .int .i64 0, .int .i64 0, .int .i64 0, .int .i64 0, .int .i64 0, .int .i64 0, .int .i64 0, .int .i64 0])) := Lib.hid (below_setRow HGF.out (by rw [HRB.out]; exact Nat.le_refl _) _)
              refine bodyPost_ret (v := .tuple #[.agg #[.slice none 0 0, .int .i64 0, .int .i64 0, .int .i64 0, .int .i64 0, .int .i64 0, .int .i64 0, .int .i64 0, .int .i64 0, .int .i64 0, .int .i64 0, .int .i64 0], .bool false]) ?hv rfl ?hp
              case hv => exact results_cell_tmp Tryz.results9 rfl hld rfl
              case hp => exact ⟨.inr ⟨HNO.out, rfl⟩, HGE.out⟩
          · have HNO := Lib.hid (parseC_none hlt (readN_word HRN.out HE0.out hwd))
            have hc1 : (P0 == nm 0) = false := by rw [beq_eq_false_iff_ne]; exact hwd
            have hc2 : (P0 != nm 0) = true := by simp [hwd]
            have HRMf := HRV
            clear hwd HE0 HE1 HBX5 HNB
            generalize nm 0 = NL at *
            go_upto_region 9 with fail
            (try rw [hV])
            refine wp_region_held_drew (S := (fun W' => V.grownBy W' (some cb) ∧ W'.cell? ⟨pg, 0, none⟩ = some (.string ⟨P0.toArray⟩) ∧ W'.cell? ⟨pg, 1, none⟩ = some (.string ⟨P1.toArray⟩) ∧ W'.cell? ⟨wr.heap.size, 0, none⟩ = some (.string ⟨NL.toArray⟩) ∧ W'.cell? ⟨wr.heap.size, 2, none⟩ = some (.func (.func 56) #[] #[]))) (by kernel_rfl) ⟨Grew.by' (Grew.drew' (Grew.refl _)) _, HP0.out, HP1.out, HV0.out, HV2.out⟩ (fun hHeld => ?_)
            refine wpAnyH_take (i := 0) (oi := { dst := some 21, op := Go.Op.move (Go.Operand.tmp 5), type := 35, pos := _, after := #[], guard := none }) (v := ?v43) rfl (by kernel_rfl) (by kernel_rfl) (by kernel_rfl) (fun _ _ _ h => h) (Or.inl ⟨by kernel_rfl, ?hy43⟩) (by assumption) ?_
            case hy43 => intro w hSw; (try dsimp only at hSw); first | (go_simp; done) | (go_simp; with_reducible rfl)
            (try simp only [Act.put, List.setIfInBounds_toArray, List.set_cons_zero, List.set_cons_succ])
            refine wpAnyH_take (i := 1) (oi := { dst := some 22, op := Go.Op.move (Go.Operand.tmp 7), type := 3, pos := _, after := #[], guard := none }) (v := ?v44) rfl (by kernel_rfl) (by kernel_rfl) (by kernel_rfl) (fun _ _ _ h => h) (Or.inl ⟨by kernel_rfl, ?hy44⟩) (by assumption) ?_
            case hy44 => intro w hSw; (try dsimp only at hSw); first | (go_simp; done) | (go_simp; with_reducible rfl)
            (try simp only [Act.put, List.setIfInBounds_toArray, List.set_cons_zero, List.set_cons_succ])
            refine wpAnyH_take (i := 2) (oi := { dst := some 23, op := Go.Op.binOp Go.BinOp.mul 3 (Go.Operand.const (Go.Value.int Go.IntKind.i64 2)) (Go.Operand.tmp 22) 3, type := 3, pos := _, after := #[{ on := 1, ground := Go.Ground.data }], guard := none }) (v := ?v45) rfl (by kernel_rfl) (by kernel_rfl) (by kernel_rfl) (fun _ _ _ h => h) (Or.inl ⟨by kernel_rfl, ?hy45⟩) (by assumption) ?_
            case hy45 => intro w hSw; (try dsimp only at hSw); first | (go_simp; done) | (go_simp; with_reducible rfl)
            (try simp only [Act.put, List.setIfInBounds_toArray, List.set_cons_zero, List.set_cons_succ])
            refine wpAnyH_take (i := 3) (oi := { dst := some 24, op := Go.Op.indexAddr 35 (Go.Operand.tmp 21) (Go.Operand.tmp 23), type := 0, pos := _, after := #[{ on := 0, ground := Go.Ground.data }, { on := 2, ground := Go.Ground.data }], guard := none }) (v := ?v46) rfl (by kernel_rfl) (by kernel_rfl) (by kernel_rfl) (fun _ _ _ h => h) (Or.inl ⟨by kernel_rfl, ?hy46⟩) (by assumption) ?_
            case hy46 => intro w hSw; (try dsimp only at hSw); first | (go_simp; done) | (go_simp; with_reducible rfl)
            (try simp only [Act.put, List.setIfInBounds_toArray, List.set_cons_zero, List.set_cons_succ])
            refine wpAnyH_take (i := 4) (oi := { dst := some 25, op := Go.Op.load 9 (Go.Operand.tmp 24), type := 9, pos := _, after := #[{ on := 3, ground := Go.Ground.data }], guard := none }) (v := ?v47) rfl (by kernel_rfl) (by kernel_rfl) (by kernel_rfl) (fun _ _ _ h => h) (Or.inl ⟨by kernel_rfl, ?hy47⟩) (by assumption) ?_
            case hy47 => intro w hSw; (try dsimp only at hSw); first | (go_simp; done) | (go_simp; with_reducible rfl)
            (try simp only [Act.put, List.setIfInBounds_toArray, List.set_cons_zero, List.set_cons_succ])
            refine wpAnyH_take (i := 5) (oi := { dst := some 26, op := Go.Op.fieldAddr 40 (Go.Operand.tmp 8) 0, type := 0, pos := _, after := #[], guard := none }) (v := ?v48) rfl (by kernel_rfl) (by kernel_rfl) (by kernel_rfl) (fun _ _ _ h => h) (Or.inl ⟨by kernel_rfl, ?hy48⟩) (by assumption) ?_
            case hy48 => intro w hSw; (try dsimp only at hSw); first | (go_simp; done) | (go_simp; with_reducible rfl)
            (try simp only [Act.put, List.setIfInBounds_toArray, List.set_cons_zero, List.set_cons_succ])
            refine wpAnyH_take (i := 6) (oi := { dst := some 27, op := Go.Op.load 9 (Go.Operand.tmp 26), type := 9, pos := _, after := #[{ on := 5, ground := Go.Ground.data }], guard := none }) (v := ?v49) rfl (by kernel_rfl) (by kernel_rfl) (by kernel_rfl) (fun _ _ _ h => h) (Or.inl ⟨by kernel_rfl, ?hy49⟩) (by assumption) ?_
            case hy49 => intro w hSw; (try dsimp only at hSw); first | (go_simp; done) | (go_simp; with_reducible rfl)
            (try simp only [Act.put, List.setIfInBounds_toArray, List.set_cons_zero, List.set_cons_succ])
            refine wpAnyH_take (i := 7) (oi := { dst := some 28, op := Go.Op.binOp Go.BinOp.neq 9 (Go.Operand.tmp 25) (Go.Operand.tmp 27) 9, type := 4, pos := _, after := #[{ on := 4, ground := Go.Ground.data }, { on := 6, ground := Go.Ground.data }], guard := none }) (v := ?v50) rfl (by kernel_rfl) (by kernel_rfl) (by kernel_rfl) (fun _ _ _ h => h) (Or.inl ⟨by kernel_rfl, ?hy50⟩) (by assumption) ?_
            case hy50 => intro w hSw; (try dsimp only at hSw); first | (go_simp; done) | (go_simp; with_reducible rfl)
            (try simp only [Act.put, List.setIfInBounds_toArray, List.set_cons_zero, List.set_cons_succ])
            refine wpAnyH_take (i := 8) (oi := { dst := some 29, op := Go.Op.move (Go.Operand.tmp 28), type := 4, pos := _, after := #[{ on := 7, ground := Go.Ground.data }], guard := none }) (v := ?v51) rfl (by kernel_rfl) (by kernel_rfl) (by kernel_rfl) (fun _ _ _ h => h) (Or.inl ⟨by kernel_rfl, ?hy51⟩) (by assumption) ?_
            case hy51 => intro w hSw; (try dsimp only at hSw); first | (go_simp; done) | (go_simp; with_reducible rfl)
            (try simp only [Act.put, List.setIfInBounds_toArray, List.set_cons_zero, List.set_cons_succ])
            refine wpAnyH_take (i := 9) (oi := { dst := some 30, op := Go.Op.fieldAddr 40 (Go.Operand.tmp 8) 2, type := 0, pos := _, after := #[{ on := 8, ground := Go.Ground.guard }], guard := some (8, false) }) (v := undef) rfl (by kernel_rfl) (by kernel_rfl) (by kernel_rfl) (fun _ _ _ h => h) (Or.inr ⟨by kernel_rfl, rfl⟩) (by assumption) ?_
            (try simp only [Act.put, List.setIfInBounds_toArray, List.set_cons_zero, List.set_cons_succ])
            refine wpAnyH_take (i := 10) (oi := { dst := some 31, op := Go.Op.load 37 (Go.Operand.tmp 30), type := 37, pos := _, after := #[{ on := 9, ground := Go.Ground.data }, { on := 8, ground := Go.Ground.guard }], guard := some (8, false) }) (v := undef) rfl (by kernel_rfl) (by kernel_rfl) (by kernel_rfl) (fun _ _ _ h => h) (Or.inr ⟨by kernel_rfl, rfl⟩) (by assumption) ?_
            (try simp only [Act.put, List.setIfInBounds_toArray, List.set_cons_zero, List.set_cons_succ])
            refine wpAnyH_take (i := 11) (oi := { dst := some 32, op := Go.Op.move (Go.Operand.tmp 5), type := 35, pos := _, after := #[{ on := 8, ground := Go.Ground.guard }], guard := some (8, false) }) (v := undef) rfl (by kernel_rfl) (by kernel_rfl) (by kernel_rfl) (fun _ _ _ h => h) (Or.inr ⟨by kernel_rfl, rfl⟩) (by assumption) ?_
            (try simp only [Act.put, List.setIfInBounds_toArray, List.set_cons_zero, List.set_cons_succ])
            refine wpAnyH_take (i := 12) (oi := { dst := some 33, op := Go.Op.move (Go.Operand.tmp 7), type := 3, pos := _, after := #[{ on := 8, ground := Go.Ground.guard }], guard := some (8, false) }) (v := undef) rfl (by kernel_rfl) (by kernel_rfl) (by kernel_rfl) (fun _ _ _ h => h) (Or.inr ⟨by kernel_rfl, rfl⟩) (by assumption) ?_
            (try simp only [Act.put, List.setIfInBounds_toArray, List.set_cons_zero, List.set_cons_succ])
            refine wpAnyH_take (i := 13) (oi := { dst := some 34, op := Go.Op.binOp Go.BinOp.mul 3 (Go.Operand.const (Go.Value.int Go.IntKind.i64 2)) (Go.Operand.tmp 33) 3, type := 3, pos := _, after := #[{ on := 12, ground := Go.Ground.data }, { on := 8, ground := Go.Ground.guard }], guard := some (8, false) }) (v := undef) rfl (by kernel_rfl) (by kernel_rfl) (by kernel_rfl) (fun _ _ _ h => h) (Or.inr ⟨by kernel_rfl, rfl⟩) (by assumption) ?_
            (try simp only [Act.put, List.setIfInBounds_toArray, List.set_cons_zero, List.set_cons_succ])
            refine wpAnyH_take (i := 14) (oi := { dst := some 35, op := Go.Op.binOp Go.BinOp.add 3 (Go.Operand.tmp 34) (Go.Operand.const (Go.Value.int Go.IntKind.i64 1)) 3, type := 3, pos := _, after := #[{ on := 13, ground := Go.Ground.data }, { on := 8, ground := Go.Ground.guard }], guard := some (8, false) }) (v := undef) rfl (by kernel_rfl) (by kernel_rfl) (by kernel_rfl) (fun _ _ _ h => h) (Or.inr ⟨by kernel_rfl, rfl⟩) (by assumption) ?_
            (try simp only [Act.put, List.setIfInBounds_toArray, List.set_cons_zero, List.set_cons_succ])
            refine wpAnyH_take (i := 15) (oi := { dst := some 36, op := Go.Op.indexAddr 35 (Go.Operand.tmp 32) (Go.Operand.tmp 35), type := 0, pos := _, after := #[{ on := 11, ground := Go.Ground.data }, { on := 14, ground := Go.Ground.data }, { on := 8, ground := Go.Ground.guard }], guard := some (8, false) }) (v := undef) rfl (by kernel_rfl) (by kernel_rfl) (by kernel_rfl) (fun _ _ _ h => h) (Or.inr ⟨by kernel_rfl, rfl⟩) (by assumption) ?_
            (try simp only [Act.put, List.setIfInBounds_toArray, List.set_cons_zero, List.set_cons_succ])
            refine wpAnyH_take (i := 16) (oi := { dst := some 37, op := Go.Op.load 9 (Go.Operand.tmp 36), type := 9, pos := _, after := #[{ on := 15, ground := Go.Ground.data }, { on := 8, ground := Go.Ground.guard }], guard := some (8, false) }) (v := undef) rfl (by kernel_rfl) (by kernel_rfl) (by kernel_rfl) (fun _ _ _ h => h) (Or.inr ⟨by kernel_rfl, rfl⟩) (by assumption) ?_
            (try simp only [Act.put, List.setIfInBounds_toArray, List.set_cons_zero, List.set_cons_succ])
            refine wpAnyH_take (i := 17) (oi := { dst := some 38, op := Go.Op.call { callee := Go.Callee.value (Go.Operand.tmp 31), args := #[Go.Operand.tmp 6, Go.Operand.tmp 37], argTypes := #[43, 9] }, type := 4, pos := _, after := #[{ on := 10, ground := Go.Ground.data }, { on := 16, ground := Go.Ground.data }, { on := 8, ground := Go.Ground.chain }, { on := 8, ground := Go.Ground.guard }], guard := some (8, false) }) (v := undef) rfl (by kernel_rfl) (by kernel_rfl) (by kernel_rfl) (fun _ _ _ h => h) (Or.inr ⟨by kernel_rfl, rfl⟩) (by assumption) ?_
            (try simp only [Act.put, List.setIfInBounds_toArray, List.set_cons_zero, List.set_cons_succ])
            refine wpAnyH_take (i := 18) (oi := { dst := some 39, op := Go.Op.unOp Go.UnOp.not 4 (Go.Operand.tmp 38), type := 4, pos := _, after := #[{ on := 17, ground := Go.Ground.data }, { on := 8, ground := Go.Ground.guard }], guard := some (8, false) }) (v := undef) rfl (by kernel_rfl) (by kernel_rfl) (by kernel_rfl) (fun _ _ _ h => h) (Or.inr ⟨by kernel_rfl, rfl⟩) (by assumption) ?_
            (try simp only [Act.put, List.setIfInBounds_toArray, List.set_cons_zero, List.set_cons_succ])
            refine wpAnyH_take (i := 19) (oi := { dst := some 40, op := Go.Op.pick (Go.Operand.tmp 29) (Go.Operand.const (Go.Value.bool true)) (Go.Operand.tmp 39), type := 4, pos := _, after := #[{ on := 8, ground := Go.Ground.data }, { on := 18, ground := Go.Ground.data }], guard := none }) (v := ?v62) rfl (by kernel_rfl) (by kernel_rfl) (by kernel_rfl) (fun _ _ _ h => h) (Or.inl ⟨by kernel_rfl, ?hy62⟩) (by assumption) ?_
            case hy62 => intro w hSw; (try dsimp only at hSw); first | (go_simp; done) | (go_simp; with_reducible rfl)
            (try simp only [Act.put, List.setIfInBounds_toArray, List.set_cons_zero, List.set_cons_succ])
            refine wpAnyH_done (by kernel_rfl) ?_ _
            go_wp2_with (refine wpList_store_row rfl 24 (.tmp 2) (.tmp 41) rfl rb #[.slice none 0 0, .int .i64 0, .int .i64 0, .int .i64 0, .int .i64 0, .int .i64 0, .int .i64 0, .int .i64 0, .int .i64 0, .int .i64 0, .int .i64 0, .int .i64 0] rfl rfl 24 _ HRMf.out (by kernel_rfl) rfl (by kernel_rfl) ?_)
            have hld := run_loadVar_row (P := Tryz.prog) (V.drew.setRow rb #[.slice none 0 0, .int .i64 0, .int .i64 0, .int .i64 0, .int .i64 0, .int .i64 0, .int .i64 0, .int .i64 0, .int .i64 0, .int .i64 0, .int .i64 0, .int .i64 0]) rb 24 24 #[.slice none 0 0, .int .i64 0, .int .i64 0, .int .i64 0, .int .i64 0, .int .i64 0, .int .i64 0, .int .i64 0, .int .i64 0, .int .i64 0, .int .i64 0, .int .i64 0] (0, 0) _ (setRow_heap _ _ _ _ _ _ HRMf.out) Tryz.underlying24 rfl (by kernel_rfl)
            have HGE : Hid (Grew w (V.drew.setRow rb #[.slice none 0 0, .int .i64 0, .int .i64 0, .int .i64 0, .int .i64 0, .int .i64 0, .int .i64 0, .int .i64 0, .int .i64 0, .int .i64 0, .int .i64 0, .int .i64 0])) := Lib.hid (below_setRow HGG.out (by rw [HRB.out]; exact Nat.le_refl _) _)
            refine bodyPost_ret (v := .tuple #[.agg #[.slice none 0 0, .int .i64 0, .int .i64 0, .int .i64 0, .int .i64 0, .int .i64 0, .int .i64 0, .int .i64 0, .int .i64 0, .int .i64 0, .int .i64 0, .int .i64 0], .bool false]) ?hv rfl ?hp
            case hv => exact results_cell_tmp Tryz.results9 rfl hld rfl
            case hp => exact ⟨.inr ⟨HNO.out, rfl⟩, HGE.out⟩
        · have h1 : 1 ≤ k := by omega
          obtain ⟨p, hp⟩ : ∃ p, 2 * k = p := ⟨_, rfl⟩
          obtain ⟨q, hq⟩ : ∃ q, 2 * k + 1 = q := ⟨_, rfl⟩
          obtain ⟨j1, j2, j3, j4, j5, j6, j7, j8⟩ := idx2 hlt hp hq
          rw [hp] at hq0
          rw [hq] at hq1
          clear hp hq
          have hix := fun W => idx_k bx h1 hlt W
          have heg := gR_enters k
          obtain ⟨V, hV⟩ : ∃ V, wr.alloc (.cells #[.string ⟨(nm k).toArray⟩, .func (.func (gW k)) #[] #[.pointer (some ⟨bx k, 0, none⟩)], .func (.func (gR k)) #[] #[.pointer (some ⟨bx k, 0, none⟩)], .func (.func (gS k)) #[] #[.pointer (some ⟨bx k, 0, none⟩)]] 40) = V := ⟨_, rfl⟩
          have gV : Grew wr V.drew := Grew.drew' (by rw [← hV]; exact (Grew.refl wr).alloc _)
          have HP0 : Hid (V.drew.cell? ⟨pg, p, none⟩ = some (.string ⟨P0.toArray⟩)) := Lib.hid (stay gV hq0)
          have HP1 : Hid (V.drew.cell? ⟨pg, q, none⟩ = some (.string ⟨P1.toArray⟩)) := Lib.hid (stay gV hq1)
          have HV0 : Hid (V.drew.cell? ⟨wr.heap.size, 0, none⟩ = some (.string ⟨(nm k).toArray⟩)) := Lib.hid (stay (Grew.drew' (Grew.refl V)) (by rw [← hV, World.cell?_alloc_new]; rfl))
          have HV2 : Hid (V.drew.cell? ⟨wr.heap.size, 2, none⟩ = some (.func (.func (gR k)) #[] #[.pointer (some ⟨bx k, 0, none⟩)])) := Lib.hid (stay (Grew.drew' (Grew.refl V)) (by rw [← hV, World.cell?_alloc_new]; rfl))
          have hne2 : wr.heap.size ≠ cb := Ne.symm (Nat.ne_of_lt HCF.out.lt)
          have HCV := Lib.hid (HCF.out.grow gV)
          have HBV := Lib.hid (own_grow HBU.out gV)
          have HGV : Hid (w4.grownBy V.drew (some cb)) := Lib.hid (grownBy_trans HGB.out (gV.by' _))
          have HGG : Hid (Grew w V.drew) := Lib.hid (HGW.out.trans gV)
          have HRV : Hid (CfM V.drew rb none 0 0 zeroC) := Lib.hid (HRMk.out.grow gV)
          have HBX5 : Hid (Bx bx V.drew) := Lib.hid (HBX4.out.left HGV.out HNB.out)
          have hsv : cb + 1 ≤ V.drew.heap.size := HCV.out.lt
          clear gV hq0 hq1
          by_cases hwd : P0 = nm k
          · subst hwd
            have HBAD : Hid (rdk k P1 f = none → parseC s.data.toList = none) := Lib.hid (fun h => parseC_none hlt (readN_bad HRN.out HE0.out HE1.out h))
            have HSTEP : Hid (∀ g, rdk k P1 f = some g → readN (splitSp s.data.toList) (k + 1) = some g) := Lib.hid (fun g h => readN_step HRN.out HE0.out HE1.out h)
            cases hrd : rdk k P1 f with
            | some g =>
              have HRN' := Lib.hid (HSTEP.out g hrd)
              have HC : Hid (Calls Tryz.prog (gR k) #[.pointer (some ⟨cb, 0, none⟩), .string ⟨P1.toArray⟩, .pointer (some ⟨bx k, 0, none⟩)] V.drew fun e w' => (e = .returned (.bool true) ∧ ∃ a' n' c', CfM w' cb a' n' c' g ∧ g.z.length = n' ∧ BufK .i64 3 (cb + 1) w' a' n' c' g.z) ∧ V.drew.grownBy w' (some cb)) := Lib.hid (by
                refine (kread_any ⟨P1.toArray⟩ V.drew h1 hlt (HNB.out k h1 hlt) HCV.out HBX5.out HPS.out (tab_below HT0.out (Nat.le_refl _) HGG.out)).mono ?_
                rintro e w' ⟨⟨x, hx, rfl, hm⟩ | ⟨hx, rfl⟩, g2⟩
                · obtain rfl : x = g := Option.some.inj (Eq.trans (show some x = rdk k P1 f from Eq.symm hx) hrd)
                  have hz := rdk_z h1 hrd
                  exact ⟨⟨rfl, a, n, c, hm, by rw [hz]; exact HFN.out, by rw [hz]; exact own_aside HBV.out g2 (Nat.lt_succ_self _)⟩, g2⟩
                · rw [show rdk k P1 f = none from hx] at hrd; cases hrd)
              clear hrd HSTEP HBAD HE0 HE1 HBX5 HNB
              generalize nm k = NL at *
              generalize gW k = g1 at *
              generalize gR k = g2 at *
              generalize gS k = g3 at *
              generalize bx k = bk at *
              go_upto_region 9 with fail
              (try rw [hV])
              refine wp_region_held_drew (S := (fun W' => V.grownBy W' (some cb) ∧ W'.cell? ⟨pg, p, none⟩ = some (.string ⟨NL.toArray⟩) ∧ W'.cell? ⟨pg, q, none⟩ = some (.string ⟨P1.toArray⟩) ∧ W'.cell? ⟨wr.heap.size, 0, none⟩ = some (.string ⟨NL.toArray⟩) ∧ W'.cell? ⟨wr.heap.size, 2, none⟩ = some (.func (.func g2) #[] #[.pointer (some ⟨bk, 0, none⟩)]))) (by kernel_rfl) ⟨Grew.by' (Grew.drew' (Grew.refl _)) _, HP0.out, HP1.out, HV0.out, HV2.out⟩ (fun hHeld => ?_)
              refine wpAnyH_take (i := 0) (oi := { dst := some 21, op := Go.Op.move (Go.Operand.tmp 5), type := 35, pos := _, after := #[], guard := none }) (v := ?v63) rfl (by kernel_rfl) (by kernel_rfl) (by kernel_rfl) (fun _ _ _ h => h) (Or.inl ⟨by kernel_rfl, ?hy63⟩) (by assumption) ?_
              case hy63 => intro w hSw; (try dsimp only at hSw); first | (go_simp; done) | (go_simp; with_reducible rfl)
              (try simp only [Act.put, List.setIfInBounds_toArray, List.set_cons_zero, List.set_cons_succ])
              refine wpAnyH_take (i := 1) (oi := { dst := some 22, op := Go.Op.move (Go.Operand.tmp 7), type := 3, pos := _, after := #[], guard := none }) (v := ?v64) rfl (by kernel_rfl) (by kernel_rfl) (by kernel_rfl) (fun _ _ _ h => h) (Or.inl ⟨by kernel_rfl, ?hy64⟩) (by assumption) ?_
              case hy64 => intro w hSw; (try dsimp only at hSw); first | (go_simp; done) | (go_simp; with_reducible rfl)
              (try simp only [Act.put, List.setIfInBounds_toArray, List.set_cons_zero, List.set_cons_succ])
              refine wpAnyH_take (i := 2) (oi := { dst := some 23, op := Go.Op.binOp Go.BinOp.mul 3 (Go.Operand.const (Go.Value.int Go.IntKind.i64 2)) (Go.Operand.tmp 22) 3, type := 3, pos := _, after := #[{ on := 1, ground := Go.Ground.data }], guard := none }) (v := ?v65) rfl (by kernel_rfl) (by kernel_rfl) (by kernel_rfl) (fun _ _ _ h => h) (Or.inl ⟨by kernel_rfl, ?hy65⟩) (by assumption) ?_
              case hy65 => intro w hSw; (try dsimp only at hSw); first | (go_simp; done) | (go_simp; with_reducible rfl)
              (try simp only [Act.put, List.setIfInBounds_toArray, List.set_cons_zero, List.set_cons_succ])
              refine wpAnyH_take (i := 3) (oi := { dst := some 24, op := Go.Op.indexAddr 35 (Go.Operand.tmp 21) (Go.Operand.tmp 23), type := 0, pos := _, after := #[{ on := 0, ground := Go.Ground.data }, { on := 2, ground := Go.Ground.data }], guard := none }) (v := ?v66) rfl (by kernel_rfl) (by kernel_rfl) (by kernel_rfl) (fun _ _ _ h => h) (Or.inl ⟨by kernel_rfl, ?hy66⟩) (by assumption) ?_
              case hy66 => intro w hSw; (try dsimp only at hSw); first | (go_simp; done) | (go_simp; with_reducible rfl)
              (try simp only [Act.put, List.setIfInBounds_toArray, List.set_cons_zero, List.set_cons_succ])
              refine wpAnyH_take (i := 4) (oi := { dst := some 25, op := Go.Op.load 9 (Go.Operand.tmp 24), type := 9, pos := _, after := #[{ on := 3, ground := Go.Ground.data }], guard := none }) (v := ?v67) rfl (by kernel_rfl) (by kernel_rfl) (by kernel_rfl) (fun _ _ _ h => h) (Or.inl ⟨by kernel_rfl, ?hy67⟩) (by assumption) ?_
              case hy67 => intro w hSw; (try dsimp only at hSw); first | (go_simp; done) | (go_simp; with_reducible rfl)
              (try simp only [Act.put, List.setIfInBounds_toArray, List.set_cons_zero, List.set_cons_succ])
              refine wpAnyH_take (i := 5) (oi := { dst := some 26, op := Go.Op.fieldAddr 40 (Go.Operand.tmp 8) 0, type := 0, pos := _, after := #[], guard := none }) (v := ?v68) rfl (by kernel_rfl) (by kernel_rfl) (by kernel_rfl) (fun _ _ _ h => h) (Or.inl ⟨by kernel_rfl, ?hy68⟩) (by assumption) ?_
              case hy68 => intro w hSw; (try dsimp only at hSw); first | (go_simp; done) | (go_simp; with_reducible rfl)
              (try simp only [Act.put, List.setIfInBounds_toArray, List.set_cons_zero, List.set_cons_succ])
              refine wpAnyH_take (i := 6) (oi := { dst := some 27, op := Go.Op.load 9 (Go.Operand.tmp 26), type := 9, pos := _, after := #[{ on := 5, ground := Go.Ground.data }], guard := none }) (v := ?v69) rfl (by kernel_rfl) (by kernel_rfl) (by kernel_rfl) (fun _ _ _ h => h) (Or.inl ⟨by kernel_rfl, ?hy69⟩) (by assumption) ?_
              case hy69 => intro w hSw; (try dsimp only at hSw); first | (go_simp; done) | (go_simp; with_reducible rfl)
              (try simp only [Act.put, List.setIfInBounds_toArray, List.set_cons_zero, List.set_cons_succ])
              refine wpAnyH_take (i := 7) (oi := { dst := some 28, op := Go.Op.binOp Go.BinOp.neq 9 (Go.Operand.tmp 25) (Go.Operand.tmp 27) 9, type := 4, pos := _, after := #[{ on := 4, ground := Go.Ground.data }, { on := 6, ground := Go.Ground.data }], guard := none }) (v := ?v70) rfl (by kernel_rfl) (by kernel_rfl) (by kernel_rfl) (fun _ _ _ h => h) (Or.inl ⟨by kernel_rfl, ?hy70⟩) (by assumption) ?_
              case hy70 => intro w hSw; (try dsimp only at hSw); first | (go_simp; done) | (go_simp; with_reducible rfl)
              (try simp only [Act.put, List.setIfInBounds_toArray, List.set_cons_zero, List.set_cons_succ])
              refine wpAnyH_take (i := 8) (oi := { dst := some 29, op := Go.Op.move (Go.Operand.tmp 28), type := 4, pos := _, after := #[{ on := 7, ground := Go.Ground.data }], guard := none }) (v := ?v71) rfl (by kernel_rfl) (by kernel_rfl) (by kernel_rfl) (fun _ _ _ h => h) (Or.inl ⟨by kernel_rfl, ?hy71⟩) (by assumption) ?_
              case hy71 => intro w hSw; (try dsimp only at hSw); first | (go_simp; done) | (go_simp; with_reducible rfl)
              (try simp only [Act.put, List.setIfInBounds_toArray, List.set_cons_zero, List.set_cons_succ])
              refine wpAnyH_take (i := 9) (oi := { dst := some 30, op := Go.Op.fieldAddr 40 (Go.Operand.tmp 8) 2, type := 0, pos := _, after := #[{ on := 8, ground := Go.Ground.guard }], guard := some (8, false) }) (v := ?v72) rfl (by kernel_rfl) (by kernel_rfl) (by kernel_rfl) (fun _ _ _ h => h) (Or.inl ⟨by kernel_rfl, ?hy72⟩) (by assumption) ?_
              case hy72 => intro w hSw; (try dsimp only at hSw); first | (go_simp; done) | (go_simp; with_reducible rfl)
              (try simp only [Act.put, List.setIfInBounds_toArray, List.set_cons_zero, List.set_cons_succ])
              refine wpAnyH_take (i := 10) (oi := { dst := some 31, op := Go.Op.load 37 (Go.Operand.tmp 30), type := 37, pos := _, after := #[{ on := 9, ground := Go.Ground.data }, { on := 8, ground := Go.Ground.guard }], guard := some (8, false) }) (v := ?v73) rfl (by kernel_rfl) (by kernel_rfl) (by kernel_rfl) (fun _ _ _ h => h) (Or.inl ⟨by kernel_rfl, ?hy73⟩) (by assumption) ?_
              case hy73 => intro w hSw; (try dsimp only at hSw); first | (go_simp; done) | (go_simp; with_reducible rfl)
              (try simp only [Act.put, List.setIfInBounds_toArray, List.set_cons_zero, List.set_cons_succ])
              refine wpAnyH_take (i := 11) (oi := { dst := some 32, op := Go.Op.move (Go.Operand.tmp 5), type := 35, pos := _, after := #[{ on := 8, ground := Go.Ground.guard }], guard := some (8, false) }) (v := ?v74) rfl (by kernel_rfl) (by kernel_rfl) (by kernel_rfl) (fun _ _ _ h => h) (Or.inl ⟨by kernel_rfl, ?hy74⟩) (by assumption) ?_
              case hy74 => intro w hSw; (try dsimp only at hSw); first | (go_simp; done) | (go_simp; with_reducible rfl)
              (try simp only [Act.put, List.setIfInBounds_toArray, List.set_cons_zero, List.set_cons_succ])
              refine wpAnyH_take (i := 12) (oi := { dst := some 33, op := Go.Op.move (Go.Operand.tmp 7), type := 3, pos := _, after := #[{ on := 8, ground := Go.Ground.guard }], guard := some (8, false) }) (v := ?v75) rfl (by kernel_rfl) (by kernel_rfl) (by kernel_rfl) (fun _ _ _ h => h) (Or.inl ⟨by kernel_rfl, ?hy75⟩) (by assumption) ?_
              case hy75 => intro w hSw; (try dsimp only at hSw); first | (go_simp; done) | (go_simp; with_reducible rfl)
              (try simp only [Act.put, List.setIfInBounds_toArray, List.set_cons_zero, List.set_cons_succ])
              refine wpAnyH_take (i := 13) (oi := { dst := some 34, op := Go.Op.binOp Go.BinOp.mul 3 (Go.Operand.const (Go.Value.int Go.IntKind.i64 2)) (Go.Operand.tmp 33) 3, type := 3, pos := _, after := #[{ on := 12, ground := Go.Ground.data }, { on := 8, ground := Go.Ground.guard }], guard := some (8, false) }) (v := ?v76) rfl (by kernel_rfl) (by kernel_rfl) (by kernel_rfl) (fun _ _ _ h => h) (Or.inl ⟨by kernel_rfl, ?hy76⟩) (by assumption) ?_
              case hy76 => intro w hSw; (try dsimp only at hSw); first | (go_simp; done) | (go_simp; with_reducible rfl)
              (try simp only [Act.put, List.setIfInBounds_toArray, List.set_cons_zero, List.set_cons_succ])
              refine wpAnyH_take (i := 14) (oi := { dst := some 35, op := Go.Op.binOp Go.BinOp.add 3 (Go.Operand.tmp 34) (Go.Operand.const (Go.Value.int Go.IntKind.i64 1)) 3, type := 3, pos := _, after := #[{ on := 13, ground := Go.Ground.data }, { on := 8, ground := Go.Ground.guard }], guard := some (8, false) }) (v := ?v77) rfl (by kernel_rfl) (by kernel_rfl) (by kernel_rfl) (fun _ _ _ h => h) (Or.inl ⟨by kernel_rfl, ?hy77⟩) (by assumption) ?_
              case hy77 => intro w hSw; (try dsimp only at hSw); first | (go_simp; done) | (go_simp; with_reducible rfl)
              (try simp only [Act.put, List.setIfInBounds_toArray, List.set_cons_zero, List.set_cons_succ])
              refine wpAnyH_take (i := 15) (oi := { dst := some 36, op := Go.Op.indexAddr 35 (Go.Operand.tmp 32) (Go.Operand.tmp 35), type := 0, pos := _, after := #[{ on := 11, ground := Go.Ground.data }, { on := 14, ground := Go.Ground.data }, { on := 8, ground := Go.Ground.guard }], guard := some (8, false) }) (v := ?v78) rfl (by kernel_rfl) (by kernel_rfl) (by kernel_rfl) (fun _ _ _ h => h) (Or.inl ⟨by kernel_rfl, ?hy78⟩) (by assumption) ?_
              case hy78 => intro w hSw; (try dsimp only at hSw); first | (go_simp; done) | (go_simp; with_reducible rfl)
              (try simp only [Act.put, List.setIfInBounds_toArray, List.set_cons_zero, List.set_cons_succ])
              refine wpAnyH_take (i := 16) (oi := { dst := some 37, op := Go.Op.load 9 (Go.Operand.tmp 36), type := 9, pos := _, after := #[{ on := 15, ground := Go.Ground.data }, { on := 8, ground := Go.Ground.guard }], guard := some (8, false) }) (v := ?v79) rfl (by kernel_rfl) (by kernel_rfl) (by kernel_rfl) (fun _ _ _ h => h) (Or.inl ⟨by kernel_rfl, ?hy79⟩) (by assumption) ?_
              case hy79 => intro w hSw; (try dsimp only at hSw); first | (go_simp; done) | (go_simp; with_reducible rfl)
              (try simp only [Act.put, List.setIfInBounds_toArray, List.set_cons_zero, List.set_cons_succ])
              refine wpAnyH_ready (rs := [17]) (by kernel_rfl) (by simp) ?_
              refine AllReadyH.cons (o := { dst := some 38, op := Go.Op.call { callee := Go.Callee.value (Go.Operand.tmp 31), args := #[Go.Operand.tmp 6, Go.Operand.tmp 37], argTypes := #[43, 9] }, type := 4, pos := _, after := #[{ on := 10, ground := Go.Ground.data }, { on := 16, ground := Go.Ground.data }, { on := 8, ground := Go.Ground.chain }, { on := 8, ground := Go.Ground.guard }], guard := some (8, false) }) rfl (fun K hK => ?_) AllReadyH.nil
              go_simp
              (refine HC.out.mono ?_; rintro e w2 ⟨⟨rfl, hex⟩, g2⟩)
              (try go_wp2_with fail)
              refine hK.out _ _ ?hS81 (fun hHeld => ?_)
              case hS81 => (try dsimp only); exact ⟨grownBy_trans ((Grew.drew' (Grew.refl V)).by' _) g2, stayB g2 HP0.out hne1, stayB g2 HP1.out hne1, stayB g2 HV0.out hne2, stayB g2 HV2.out hne2⟩
              clear hK K
              (try simp only [Act.put, List.setIfInBounds_toArray, List.set_cons_zero, List.set_cons_succ])
              refine wpAnyH_take (i := 18) (oi := { dst := some 39, op := Go.Op.unOp Go.UnOp.not 4 (Go.Operand.tmp 38), type := 4, pos := _, after := #[{ on := 17, ground := Go.Ground.data }, { on := 8, ground := Go.Ground.guard }], guard := some (8, false) }) (v := ?v82) rfl (by kernel_rfl) (by kernel_rfl) (by kernel_rfl) (fun _ _ _ h => h) (Or.inl ⟨by kernel_rfl, ?hy82⟩) (by assumption) ?_
              case hy82 => intro w hSw; (try dsimp only at hSw); first | (go_simp; done) | (go_simp; with_reducible rfl)
              (try simp only [Act.put, List.setIfInBounds_toArray, List.set_cons_zero, List.set_cons_succ])
              refine wpAnyH_take (i := 19) (oi := { dst := some 40, op := Go.Op.pick (Go.Operand.tmp 29) (Go.Operand.const (Go.Value.bool true)) (Go.Operand.tmp 39), type := 4, pos := _, after := #[{ on := 8, ground := Go.Ground.data }, { on := 18, ground := Go.Ground.data }], guard := none }) (v := ?v83) rfl (by kernel_rfl) (by kernel_rfl) (by kernel_rfl) (fun _ _ _ h => h) (Or.inl ⟨by kernel_rfl, ?hy83⟩) (by assumption) ?_
              case hy83 => intro w hSw; (try dsimp only at hSw); first | (go_simp; done) | (go_simp; with_reducible rfl)
              (try simp only [Act.put, List.setIfInBounds_toArray, List.set_cons_zero, List.set_cons_succ])
              refine wpAnyH_done (by kernel_rfl) ?_ _
              obtain ⟨a', n', c', hcm, hzl, hbu⟩ := hex
              have HGB' := Lib.hid (grownBy_trans HGV.out g2)
              have HCM' := Lib.hid hcm
              have HZL' := Lib.hid hzl
              have HBU' := Lib.hid hbu
              clear hcm hzl hbu g2 hHeld
              go_wp2
              go_roundw
              case rel => exact ⟨k + 1, g, a', n', c', by omega, by go_num, HRN', HCM', HZL', HBU', HGB'⟩
              case measure => first | (simp [intOf]; done) | (simp [intOf]; omega)
            | none =>
              have HNO := Lib.hid (HBAD.out hrd)
              have HC : Hid (Calls Tryz.prog (gR k) #[.pointer (some ⟨cb, 0, none⟩), .string ⟨P1.toArray⟩, .pointer (some ⟨bx k, 0, none⟩)] V.drew fun e w' => e = .returned (.bool false) ∧ V.drew.grownBy w' (some cb)) := Lib.hid (by
                refine (kread_any ⟨P1.toArray⟩ V.drew h1 hlt (HNB.out k h1 hlt) HCV.out HBX5.out HPS.out (tab_below HT0.out (Nat.le_refl _) HGG.out)).mono ?_
                rintro e w' ⟨⟨x, hx, rfl, hm⟩ | ⟨hx, rfl⟩, g2⟩
                · rw [show rdk k P1 f = some x from hx] at hrd; cases hrd
                · exact ⟨rfl, g2⟩)
              clear hrd HSTEP HBAD HE0 HE1 HBX5 HNB
              generalize nm k = NL at *
              generalize gW k = g1 at *
              generalize gR k = g2 at *
              generalize gS k = g3 at *
              generalize bx k = bk at *
              go_upto_region 9 with fail
              (try rw [hV])
              refine wp_region_held_drew (S := (fun W' => V.grownBy W' (some cb) ∧ W'.cell? ⟨pg, p, none⟩ = some (.string ⟨NL.toArray⟩) ∧ W'.cell? ⟨pg, q, none⟩ = some (.string ⟨P1.toArray⟩) ∧ W'.cell? ⟨wr.heap.size, 0, none⟩ = some (.string ⟨NL.toArray⟩) ∧ W'.cell? ⟨wr.heap.size, 2, none⟩ = some (.func (.func g2) #[] #[.pointer (some ⟨bk, 0, none⟩)]))) (by kernel_rfl) ⟨Grew.by' (Grew.drew' (Grew.refl _)) _, HP0.out, HP1.out, HV0.out, HV2.out⟩ (fun hHeld => ?_)
              refine wpAnyH_take (i := 0) (oi := { dst := some 21, op := Go.Op.move (Go.Operand.tmp 5), type := 35, pos := _, after := #[], guard := none }) (v := ?v84) rfl (by kernel_rfl) (by kernel_rfl) (by kernel_rfl) (fun _ _ _ h => h) (Or.inl ⟨by kernel_rfl, ?hy84⟩) (by assumption) ?_
              case hy84 => intro w hSw; (try dsimp only at hSw); first | (go_simp; done) | (go_simp; with_reducible rfl)
              (try simp only [Act.put, List.setIfInBounds_toArray, List.set_cons_zero, List.set_cons_succ])
              refine wpAnyH_take (i := 1) (oi := { dst := some 22, op := Go.Op.move (Go.Operand.tmp 7), type := 3, pos := _, after := #[], guard := none }) (v := ?v85) rfl (by kernel_rfl) (by kernel_rfl) (by kernel_rfl) (fun _ _ _ h => h) (Or.inl ⟨by kernel_rfl, ?hy85⟩) (by assumption) ?_
              case hy85 => intro w hSw; (try dsimp only at hSw); first | (go_simp; done) | (go_simp; with_reducible rfl)
              (try simp only [Act.put, List.setIfInBounds_toArray, List.set_cons_zero, List.set_cons_succ])
              refine wpAnyH_take (i := 2) (oi := { dst := some 23, op := Go.Op.binOp Go.BinOp.mul 3 (Go.Operand.const (Go.Value.int Go.IntKind.i64 2)) (Go.Operand.tmp 22) 3, type := 3, pos := _, after := #[{ on := 1, ground := Go.Ground.data }], guard := none }) (v := ?v86) rfl (by kernel_rfl) (by kernel_rfl) (by kernel_rfl) (fun _ _ _ h => h) (Or.inl ⟨by kernel_rfl, ?hy86⟩) (by assumption) ?_
              case hy86 => intro w hSw; (try dsimp only at hSw); first | (go_simp; done) | (go_simp; with_reducible rfl)
              (try simp only [Act.put, List.setIfInBounds_toArray, List.set_cons_zero, List.set_cons_succ])
              refine wpAnyH_take (i := 3) (oi := { dst := some 24, op := Go.Op.indexAddr 35 (Go.Operand.tmp 21) (Go.Operand.tmp 23), type := 0, pos := _, after := #[{ on := 0, ground := Go.Ground.data }, { on := 2, ground := Go.Ground.data }], guard := none }) (v := ?v87) rfl (by kernel_rfl) (by kernel_rfl) (by kernel_rfl) (fun _ _ _ h => h) (Or.inl ⟨by kernel_rfl, ?hy87⟩) (by assumption) ?_
              case hy87 => intro w hSw; (try dsimp only at hSw); first | (go_simp; done) | (go_simp; with_reducible rfl)
              (try simp only [Act.put, List.setIfInBounds_toArray, List.set_cons_zero, List.set_cons_succ])
              refine wpAnyH_take (i := 4) (oi := { dst := some 25, op := Go.Op.load 9 (Go.Operand.tmp 24), type := 9, pos := _, after := #[{ on := 3, ground := Go.Ground.data }], guard := none }) (v := ?v88) rfl (by kernel_rfl) (by kernel_rfl) (by kernel_rfl) (fun _ _ _ h => h) (Or.inl ⟨by kernel_rfl, ?hy88⟩) (by assumption) ?_
              case hy88 => intro w hSw; (try dsimp only at hSw); first | (go_simp; done) | (go_simp; with_reducible rfl)
              (try simp only [Act.put, List.setIfInBounds_toArray, List.set_cons_zero, List.set_cons_succ])
              refine wpAnyH_take (i := 5) (oi := { dst := some 26, op := Go.Op.fieldAddr 40 (Go.Operand.tmp 8) 0, type := 0, pos := _, after := #[], guard := none }) (v := ?v89) rfl (by kernel_rfl) (by kernel_rfl) (by kernel_rfl) (fun _ _ _ h => h) (Or.inl ⟨by kernel_rfl, ?hy89⟩) (by assumption) ?_
              case hy89 => intro w hSw; (try dsimp only at hSw); first | (go_simp; done) | (go_simp; with_reducible rfl)
              (try simp only [Act.put, List.setIfInBounds_toArray, List.set_cons_zero, List.set_cons_succ])
              refine wpAnyH_take (i := 6) (oi := { dst := some 27, op := Go.Op.load 9 (Go.Operand.tmp 26), type := 9, pos := _, after := #[{ on := 5, ground := Go.Ground.data }], guard := none }) (v := ?v90) rfl (by kernel_rfl) (by kernel_rfl) (by kernel_rfl) (fun _ _ _ h => h) (Or.inl ⟨by kernel_rfl, ?hy90⟩) (by assumption) ?_
              case hy90 => intro w hSw; (try dsimp only at hSw); first | (go_simp; done) | (go_simp; with_reducible rfl)
              (try simp only [Act.put, List.setIfInBounds_toArray, List.set_cons_zero, List.set_cons_succ])
              refine wpAnyH_take (i := 7) (oi := { dst := some 28, op := Go.Op.binOp Go.BinOp.neq 9 (Go.Operand.tmp 25) (Go.Operand.tmp 27) 9, type := 4, pos := _, after := #[{ on := 4, ground := Go.Ground.data }, { on := 6, ground := Go.Ground.data }], guard := none }) (v := ?v91) rfl (by kernel_rfl) (by kernel_rfl) (by kernel_rfl) (fun _ _ _ h => h) (Or.inl ⟨by kernel_rfl, ?hy91⟩) (by assumption) ?_
              case hy91 => intro w hSw; (try dsimp only at hSw); first | (go_simp; done) | (go_simp; with_reducible rfl)
              (try simp only [Act.put, List.setIfInBounds_toArray, List.set_cons_zero, List.set_cons_succ])
              refine wpAnyH_take (i := 8) (oi := { dst := some 29, op := Go.Op.move (Go.Operand.tmp 28), type := 4, pos := _, after := #[{ on := 7, ground := Go.Ground.data }], guard := none }) (v := ?v92) rfl (by kernel_rfl) (by kernel_rfl) (by kernel_rfl) (fun _ _ _ h => h) (Or.inl ⟨by kernel_rfl, ?hy92⟩) (by assumption) ?_
              case hy92 => intro w hSw; (try dsimp only at hSw); first | (go_simp; done) | (go_simp; with_reducible rfl)
              (try simp only [Act.put, List.setIfInBounds_toArray, List.set_cons_zero, List.set_cons_succ])
              refine wpAnyH_take (i := 9) (oi := { dst := some 30, op := Go.Op.fieldAddr 40 (Go.Operand.tmp 8) 2, type := 0, pos := _, after := #[{ on := 8, ground := Go.Ground.guard }], guard := some (8, false) }) (v := ?v93) rfl (by kernel_rfl) (by kernel_rfl) (by kernel_rfl) (fun _ _ _ h => h) (Or.inl ⟨by kernel_rfl, ?hy93⟩) (by assumption) ?_
              case hy93 => intro w hSw; (try dsimp only at hSw); first | (go_simp; done) | (go_simp; with_reducible rfl)
              (try simp only [Act.put, List.setIfInBounds_toArray, List.set_cons_zero, List.set_cons_succ])
              refine wpAnyH_take (i := 10) (oi := { dst := some 31, op := Go.Op.load 37 (Go.Operand.tmp 30), type := 37, pos := _, after := #[{ on := 9, ground := Go.Ground.data }, { on := 8, ground := Go.Ground.guard }], guard := some (8, false) }) (v := ?v94) rfl (by kernel_rfl) (by kernel_rfl) (by kernel_rfl) (fun _ _ _ h => h) (Or.inl ⟨by kernel_rfl, ?hy94⟩) (by assumption) ?_
              case hy94 => intro w hSw; (try dsimp only at hSw); first | (go_simp; done) | (go_simp; with_reducible rfl)
              (try simp only [Act.put, List.setIfInBounds_toArray, List.set_cons_zero, List.set_cons_succ])
              refine wpAnyH_take (i := 11) (oi := { dst := some 32, op := Go.Op.move (Go.Operand.tmp 5), type := 35, pos := _, after := #[{ on := 8, ground := Go.Ground.guard }], guard := some (8, false) }) (v := ?v95) rfl (by kernel_rfl) (by kernel_rfl) (by kernel_rfl) (fun _ _ _ h => h) (Or.inl ⟨by kernel_rfl, ?hy95⟩) (by assumption) ?_
              case hy95 => intro w hSw; (try dsimp only at hSw); first | (go_simp; done) | (go_simp; with_reducible rfl)
              (try simp only [Act.put, List.setIfInBounds_toArray, List.set_cons_zero, List.set_cons_succ])
              refine wpAnyH_take (i := 12) (oi := { dst := some 33, op := Go.Op.move (Go.Operand.tmp 7), type := 3, pos := _, after := #[{ on := 8, ground := Go.Ground.guard }], guard := some (8, false) }) (v := ?v96) rfl (by kernel_rfl) (by kernel_rfl) (by kernel_rfl) (fun _ _ _ h => h) (Or.inl ⟨by kernel_rfl, ?hy96⟩) (by assumption) ?_
              case hy96 => intro w hSw; (try dsimp only at hSw); first | (go_simp; done) | (go_simp; with_reducible rfl)
              (try simp only [Act.put, List.setIfInBounds_toArray, List.set_cons_zero, List.set_cons_succ])
              refine wpAnyH_take (i := 13) (oi := { dst := some 34, op := Go.Op.binOp Go.BinOp.mul 3 (Go.Operand.const (Go.Value.int Go.IntKind.i64 2)) (Go.Operand.tmp 33) 3, type := 3, pos := _, after := #[{ on := 12, ground := Go.Ground.data }, { on := 8, ground := Go.Ground.guard }], guard := some (8, false) }) (v := ?v97) rfl (by kernel_rfl) (by kernel_rfl) (by kernel_rfl) (fun _ _ _ h => h) (Or.inl ⟨by kernel_rfl, ?hy97⟩) (by assumption) ?_
              case hy97 => intro w hSw; (try dsimp only at hSw); first | (go_simp; done) | (go_simp; with_reducible rfl)
              (try simp only [Act.put, List.setIfInBounds_toArray, List.set_cons_zero, List.set_cons_succ])
              refine wpAnyH_take (i := 14) (oi := { dst := some 35, op := Go.Op.binOp Go.BinOp.add 3 (Go.Operand.tmp 34) (Go.Operand.const (Go.Value.int Go.IntKind.i64 1)) 3, type := 3, pos := _, after := #[{ on := 13, ground := Go.Ground.data }, { on := 8, ground := Go.Ground.guard }], guard := some (8, false) }) (v := ?v98) rfl (by kernel_rfl) (by kernel_rfl) (by kernel_rfl) (fun _ _ _ h => h) (Or.inl ⟨by kernel_rfl, ?hy98⟩) (by assumption) ?_
              case hy98 => intro w hSw; (try dsimp only at hSw); first | (go_simp; done) | (go_simp; with_reducible rfl)
              (try simp only [Act.put, List.setIfInBounds_toArray, List.set_cons_zero, List.set_cons_succ])
              refine wpAnyH_take (i := 15) (oi := { dst := some 36, op := Go.Op.indexAddr 35 (Go.Operand.tmp 32) (Go.Operand.tmp 35), type := 0, pos := _, after := #[{ on := 11, ground := Go.Ground.data }, { on := 14, ground := Go.Ground.data }, { on := 8, ground := Go.Ground.guard }], guard := some (8, false) }) (v := ?v99) rfl (by kernel_rfl) (by kernel_rfl) (by kernel_rfl) (fun _ _ _ h => h) (Or.inl ⟨by kernel_rfl, ?hy99⟩) (by assumption) ?_
              case hy99 => intro w hSw; (try dsimp only at hSw); first | (go_simp; done) | (go_simp; with_reducible rfl)
              (try simp only [Act.put, List.setIfInBounds_toArray, List.set_cons_zero, List.set_cons_succ])
              refine wpAnyH_take (i := 16) (oi := { dst := some 37, op := Go.Op.load 9 (Go.Operand.tmp 36), type := 9, pos := _, after := #[{ on := 15, ground := Go.Ground.data }, { on := 8, ground := Go.Ground.guard }], guard := some (8, false) }) (v := ?v100) rfl (by kernel_rfl) (by kernel_rfl) (by kernel_rfl) (fun _ _ _ h => h) (Or.inl ⟨by kernel_rfl, ?hy100⟩) (by assumption) ?_
              case hy100 => intro w hSw; (try dsimp only at hSw); first | (go_simp; done) | (go_simp; with_reducible rfl)
              (try simp only [Act.put, List.setIfInBounds_toArray, List.set_cons_zero, List.set_cons_succ])
              refine wpAnyH_ready (rs := [17]) (by kernel_rfl) (by simp) ?_
              refine AllReadyH.cons (o := { dst := some 38, op := Go.Op.call { callee := Go.Callee.value (Go.Operand.tmp 31), args := #[Go.Operand.tmp 6, Go.Operand.tmp 37], argTypes := #[43, 9] }, type := 4, pos := _, after := #[{ on := 10, ground := Go.Ground.data }, { on := 16, ground := Go.Ground.data }, { on := 8, ground := Go.Ground.chain }, { on := 8, ground := Go.Ground.guard }], guard := some (8, false) }) rfl (fun K hK => ?_) AllReadyH.nil
              go_simp
              (refine HC.out.mono ?_; rintro e w2 ⟨rfl, g2⟩)
              (try go_wp2_with fail)
              refine hK.out _ _ ?hS102 (fun hHeld => ?_)
              case hS102 => (try dsimp only); exact ⟨grownBy_trans ((Grew.drew' (Grew.refl V)).by' _) g2, stayB g2 HP0.out hne1, stayB g2 HP1.out hne1, stayB g2 HV0.out hne2, stayB g2 HV2.out hne2⟩
              clear hK K
              (try simp only [Act.put, List.setIfInBounds_toArray, List.set_cons_zero, List.set_cons_succ])
              refine wpAnyH_take (i := 18) (oi := { dst := some 39, op := Go.Op.unOp Go.UnOp.not 4 (Go.Operand.tmp 38), type := 4, pos := _, after := #[{ on := 17, ground := Go.Ground.data }, { on := 8, ground := Go.Ground.guard }], guard := some (8, false) }) (v := ?v103) rfl (by kernel_rfl) (by kernel_rfl) (by kernel_rfl) (fun _ _ _ h => h) (Or.inl ⟨by kernel_rfl, ?hy103⟩) (by assumption) ?_
              case hy103 => intro w hSw; (try dsimp only at hSw); first | (go_simp; done) | (go_simp; with_reducible rfl)
              (try simp only [Act.put, List.setIfInBounds_toArray, List.set_cons_zero, List.set_cons_succ])
              refine wpAnyH_take (i := 19) (oi := { dst := some 40, op := Go.Op.pick (Go.Operand.tmp 29) (Go.Operand.const (Go.Value.bool true)) (Go.Operand.tmp 39), type := 4, pos := _, after := #[{ on := 8, ground := Go.Ground.data }, { on := 18, ground := Go.Ground.data }], guard := none }) (v := ?v104) rfl (by kernel_rfl) (by kernel_rfl) (by kernel_rfl) (fun _ _ _ h => h) (Or.inl ⟨by kernel_rfl, ?hy104⟩) (by assumption) ?_
              case hy104 => intro w hSw; (try dsimp only at hSw); first | (go_simp; done) | (go_simp; with_reducible rfl)
              (try simp only [Act.put, List.setIfInBounds_toArray, List.set_cons_zero, List.set_cons_succ])
              refine wpAnyH_done (by kernel_rfl) ?_ _
              have HRMf := Lib.hid (HRV.out.grown g2 (fun e => hrc (Option.some.inj e)))
              have HGF := Lib.hid (HGG.out.trans_below (grownBy_below g2 HRC.out (by have := HRC.out; omega)) (by rw [HRB.out]; exact Nat.le_refl _))
              clear g2 hHeld
              go_wp2_with (refine wpList_store_row rfl 24 (.tmp 2) (.tmp 41) rfl rb #[.slice none 0 0, .int .i64 0, .int .i64 0, .int .i64 0, .int .i64 0, .int .i64 0, .int .i64 0, .int .i64 0, .int .i64 0, .int .i64 0, .int .i64 0, .int .i64 0] rfl rfl 24 _ HRMf.out (by kernel_rfl) rfl (by kernel_rfl) ?_)
              have hld := run_loadVar_row (P := Tryz.prog) (w2.setRow rb #[.slice none 0 0, .int .i64 0, .int .i64 0, .int .i64 0, .int .i64 0, .int .i64 0, .int .i64 0, .int .i64 0, .int .i64 0, .int .i64 0, .int .i64 0, .int .i64 0]) rb 24 24 #[.slice none 0 0, .int .i64 0, .int .i64 0, .int .i64 0, .int .i64 0, .int .i64 0, .int .i64 0, .int .i64 0, .int .i64 0, .int .i64 0, .int .i64 0, .int .i64 0] (0, 0) _ (setRow_heap _ _ _ _ _ _ HRMf.out) Tryz.underlying24 rfl (by kernel_rfl)
              have HGE : Hid (Grew w (w2.setRow rb #[.slice none 0 0, .int .i64 0, .int .i64 0, .int .i64 0, .int .i64 0, .int .i64 0, .int .i64 0, .int .i64 0, .int .i64 0, .int .i64 0, .int .i64 0, .int .i64 0])) := Lib.hid (below_setRow HGF.out (by rw [HRB.out]; exact Nat.le_refl _) _)
              refine bodyPost_ret (v := .tuple #[.agg #[.slice none 0 0, .int .i64 0, .int .i64 0, .int .i64 0, .int .i64 0, .int .i64 0, .int .i64 0, .int .i64 0, .int .i64 0, .int .i64 0, .int .i64 0, .int .i64 0], .bool false]) ?hv rfl ?hp
              case hv => exact results_cell_tmp Tryz.results9 rfl hld rfl
              case hp => exact ⟨.inr ⟨HNO.out, rfl⟩, HGE.out⟩
          · have HNO := Lib.hid (parseC_none hlt (readN_word HRN.out HE0.out hwd))
            have hc1 : (P0 == nm k) = false := by rw [beq_eq_false_iff_ne]; exact hwd
            have hc2 : (P0 != nm k) = true := by simp [hwd]
            have HRMf := HRV
            clear hwd HE0 HE1 HBX5 HNB
            generalize nm k = NL at *
            generalize gW k = g1 at *
            generalize gR k = g2 at *
            generalize gS k = g3 at *
            generalize bx k = bk at *
            go_upto_region 9 with fail
            (try rw [hV])
            refine wp_region_held_drew (S := (fun W' => V.grownBy W' (some cb) ∧ W'.cell? ⟨pg, p, none⟩ = some (.string ⟨P0.toArray⟩) ∧ W'.cell? ⟨pg, q, none⟩ = some (.string ⟨P1.toArray⟩) ∧ W'.cell? ⟨wr.heap.size, 0, none⟩ = some (.string ⟨NL.toArray⟩) ∧ W'.cell? ⟨wr.heap.size, 2, none⟩ = some (.func (.func g2) #[] #[.pointer (some ⟨bk, 0, none⟩)]))) (by kernel_rfl) ⟨Grew.by' (Grew.drew' (Grew.refl _)) _, HP0.out, HP1.out, HV0.out, HV2.out⟩ (fun hHeld => ?_)
            refine wpAnyH_take (i := 0) (oi := { dst := some 21, op := Go.Op.move (Go.Operand.tmp 5), type := 35, pos := _, after := #[], guard := none }) (v := ?v105) rfl (by kernel_rfl) (by kernel_rfl) (by kernel_rfl) (fun _ _ _ h => h) (Or.inl ⟨by kernel_rfl, ?hy105⟩) (by assumption) ?_
            case hy105 => intro w hSw; (try dsimp only at hSw); first | (go_simp; done) | (go_simp; with_reducible rfl)
            (try simp only [Act.put, List.setIfInBounds_toArray, List.set_cons_zero, List.set_cons_succ])
            refine wpAnyH_take (i := 1) (oi := { dst := some 22, op := Go.Op.move (Go.Operand.tmp 7), type := 3, pos := _, after := #[], guard := none }) (v := ?v106) rfl (by kernel_rfl) (by kernel_rfl) (by kernel_rfl) (fun _ _ _ h => h) (Or.inl ⟨by kernel_rfl, ?hy106⟩) (by assumption) ?_
            case hy106 => intro w hSw; (try dsimp only at hSw); first | (go_simp; done) | (go_simp; with_reducible rfl)
            (try simp only [Act.put, List.setIfInBounds_toArray, List.set_cons_zero, List.set_cons_succ])
            refine wpAnyH_take (i := 2) (oi := { dst := some 23, op := Go.Op.binOp Go.BinOp.mul 3 (Go.Operand.const (Go.Value.int Go.IntKind.i64 2)) (Go.Operand.tmp 22) 3, type := 3, pos := _, after := #[{ on := 1, ground := Go.Ground.data }], guard := none }) (v := ?v107) rfl (by kernel_rfl) (by kernel_rfl) (by kernel_rfl) (fun _ _ _ h => h) (Or.inl ⟨by kernel_rfl, ?hy107⟩) (by assumption) ?_
            case hy107 => intro w hSw; (try dsimp only at hSw); first | (go_simp; done) | (go_simp; with_reducible rfl)
            (try simp only [Act.put, List.setIfInBounds_toArray, List.set_cons_zero, List.set_cons_succ])
            refine wpAnyH_take (i := 3) (oi := { dst := some 24, op := Go.Op.indexAddr 35 (Go.Operand.tmp 21) (Go.Operand.tmp 23), type := 0, pos := _, after := #[{ on := 0, ground := Go.Ground.data }, { on := 2, ground := Go.Ground.data }], guard := none }) (v := ?v108) rfl (by kernel_rfl) (by kernel_rfl) (by kernel_rfl) (fun _ _ _ h => h) (Or.inl ⟨by kernel_rfl, ?hy108⟩) (by assumption) ?_
            case hy108 => intro w hSw; (try dsimp only at hSw); first | (go_simp; done) | (go_simp; with_reducible rfl)
            (try simp only [Act.put, List.setIfInBounds_toArray, List.set_cons_zero, List.set_cons_succ])
            refine wpAnyH_take (i := 4) (oi := { dst := some 25, op := Go.Op.load 9 (Go.Operand.tmp 24), type := 9, pos := _, after := #[{ on := 3, ground := Go.Ground.data }], guard := none }) (v := ?v109) rfl (by kernel_rfl) (by kernel_rfl) (by kernel_rfl) (fun _ _ _ h => h) (Or.inl ⟨by kernel_rfl, ?hy109⟩) (by assumption) ?_
            case hy109 => intro w hSw; (try dsimp only at hSw); first | (go_simp; done) | (go_simp; with_reducible rfl)
            (try simp only [Act.put, List.setIfInBounds_toArray, List.set_cons_zero, List.set_cons_succ])
            refine wpAnyH_take (i := 5) (oi := { dst := some 26, op := Go.Op.fieldAddr 40 (Go.Operand.tmp 8) 0, type := 0, pos := _, after := #[], guard := none }) (v := ?v110) rfl (by kernel_rfl) (by kernel_rfl) (by kernel_rfl) (fun _ _ _ h => h) (Or.inl ⟨by kernel_rfl, ?hy110⟩) (by assumption) ?_
            case hy110 => intro w hSw; (try dsimp only at hSw); first | (go_simp; done) | (go_simp; with_reducible rfl)
            (try simp only [Act.put, List.setIfInBounds_toArray, List.set_cons_zero, List.set_cons_succ])
            refine wpAnyH_take (i := 6) (oi := { dst := some 27, op := Go.Op.load 9 (Go.Operand.tmp 26), type := 9, pos := _, after := #[{ on := 5, ground := Go.Ground.data }], guard := none }) (v := ?v111) rfl (by kernel_rfl) (by kernel_rfl) (by kernel_rfl) (fun _ _ _ h => h) (Or.inl ⟨by kernel_rfl, ?hy111⟩) (by assumption) ?_
            case hy111 => intro w hSw; (try dsimp only at hSw); first | (go_simp; done) | (go_simp; with_reducible rfl)
            (try simp only [Act.put, List.setIfInBounds_toArray, List.set_cons_zero, List.set_cons_succ])
            refine wpAnyH_take (i := 7) (oi := { dst := some 28, op := Go.Op.binOp Go.BinOp.neq 9 (Go.Operand.tmp 25) (Go.Operand.tmp 27) 9, type := 4, pos := _, after := #[{ on := 4, ground := Go.Ground.data }, { on := 6, ground := Go.Ground.data }], guard := none }) (v := ?v112) rfl (by kernel_rfl) (by kernel_rfl) (by kernel_rfl) (fun _ _ _ h => h) (Or.inl ⟨by kernel_rfl, ?hy112⟩) (by assumption) ?_
            case hy112 => intro w hSw; (try dsimp only at hSw); first | (go_simp; done) | (go_simp; with_reducible rfl)
            (try simp only [Act.put, List.setIfInBounds_toArray, List.set_cons_zero, List.set_cons_succ])
            refine wpAnyH_take (i := 8) (oi := { dst := some 29, op := Go.Op.move (Go.Operand.tmp 28), type := 4, pos := _, after := #[{ on := 7, ground := Go.Ground.data }], guard := none }) (v := ?v113) rfl (by kernel_rfl) (by kernel_rfl) (by kernel_rfl) (fun _ _ _ h => h) (Or.inl ⟨by kernel_rfl, ?hy113⟩) (by assumption) ?_
            case hy113 => intro w hSw; (try dsimp only at hSw); first | (go_simp; done) | (go_simp; with_reducible rfl)
            (try simp only [Act.put, List.setIfInBounds_toArray, List.set_cons_zero, List.set_cons_succ])
            refine wpAnyH_take (i := 9) (oi := { dst := some 30, op := Go.Op.fieldAddr 40 (Go.Operand.tmp 8) 2, type := 0, pos := _, after := #[{ on := 8, ground := Go.Ground.guard }], guard := some (8, false) }) (v := undef) rfl (by kernel_rfl) (by kernel_rfl) (by kernel_rfl) (fun _ _ _ h => h) (Or.inr ⟨by kernel_rfl, rfl⟩) (by assumption) ?_
            (try simp only [Act.put, List.setIfInBounds_toArray, List.set_cons_zero, List.set_cons_succ])
            refine wpAnyH_take (i := 10) (oi := { dst := some 31, op := Go.Op.load 37 (Go.Operand.tmp 30), type := 37, pos := _, after := #[{ on := 9, ground := Go.Ground.data }, { on := 8, ground := Go.Ground.guard }], guard := some (8, false) }) (v := undef) rfl (by kernel_rfl) (by kernel_rfl) (by kernel_rfl) (fun _ _ _ h => h) (Or.inr ⟨by kernel_rfl, rfl⟩) (by assumption) ?_
            (try simp only [Act.put, List.setIfInBounds_toArray, List.set_cons_zero, List.set_cons_succ])
            refine wpAnyH_take (i := 11) (oi := { dst := some 32, op := Go.Op.move (Go.Operand.tmp 5), type := 35, pos := _, after := #[{ on := 8, ground := Go.Ground.guard }], guard := some (8, false) }) (v := undef) rfl (by kernel_rfl) (by kernel_rfl) (by kernel_rfl) (fun _ _ _ h => h) (Or.inr ⟨by kernel_rfl, rfl⟩) (by assumption) ?_
            (try simp only [Act.put, List.setIfInBounds_toArray, List.set_cons_zero, List.set_cons_succ])
            refine wpAnyH_take (i := 12) (oi := { dst := some 33, op := Go.Op.move (Go.Operand.tmp 7), type := 3, pos := _, after := #[{ on := 8, ground := Go.Ground.guard }], guard := some (8, false) }) (v := undef) rfl (by kernel_rfl) (by kernel_rfl) (by kernel_rfl) (fun _ _ _ h => h) (Or.inr ⟨by kernel_rfl, rfl⟩) (by assumption) ?_
            (try simp only [Act.put, List.setIfInBounds_toArray, List.set_cons_zero, List.set_cons_succ])
            refine wpAnyH_take (i := 13) (oi := { dst := some 34, op := Go.Op.binOp Go.BinOp.mul 3 (Go.Operand.const (Go.Value.int Go.IntKind.i64 2)) (Go.Operand.tmp 33) 3, type := 3, pos := _, after := #[{ on := 12, ground := Go.Ground.data }, { on := 8, ground := Go.Ground.guard }], guard := some (8, false) }) (v := undef) rfl (by kernel_rfl) (by kernel_rfl) (by kernel_rfl) (fun _ _ _ h => h) (Or.inr ⟨by kernel_rfl, rfl⟩) (by assumption) ?_
            (try simp only [Act.put, List.setIfInBounds_toArray, List.set_cons_zero, List.set_cons_succ])
            refine wpAnyH_take (i := 14) (oi := { dst := some 35, op := Go.Op.binOp Go.BinOp.add 3 (Go.Operand.tmp 34) (Go.Operand.const (Go.Value.int Go.IntKind.i64 1)) 3, type := 3, pos := _, after := #[{ on := 13, ground := Go.Ground.data }, { on := 8, ground := Go.Ground.guard }], guard := some (8, false) }) (v := undef) rfl (by kernel_rfl) (by kernel_rfl) (by kernel_rfl) (fun _ _ _ h => h) (Or.inr ⟨by kernel_rfl, rfl⟩) (by assumption) ?_
            (try simp only [Act.put, List.setIfInBounds_toArray, List.set_cons_zero, List.set_cons_succ])
            refine wpAnyH_take (i := 15) (oi := { dst := some 36, op := Go.Op.indexAddr 35 (Go.Operand.tmp 32) (Go.Operand.tmp 35), type := 0, pos := _, after := #[{ on := 11, ground := Go.Ground.data }, { on := 14, ground := Go.Ground.data }, { on := 8, ground := Go.Ground.guard }], guard := some (8, false) }) (v := undef) rfl (by kernel_rfl) (by kernel_rfl) (by kernel_rfl) (fun _ _ _ h => h) (Or.inr ⟨by kernel_rfl, rfl⟩) (by assumption) ?_
            (try simp only [Act.put, List.setIfInBounds_toArray, List.set_cons_zero, List.set_cons_succ])
            refine wpAnyH_take (i := 16) (oi := { dst := some 37, op := Go.Op.load 9 (Go.Operand.tmp 36), type := 9, pos := _, after := #[{ on := 15, ground := Go.Ground.data }, { on := 8, ground := Go.Ground.guard }], guard := some (8, false) }) (v := undef) rfl (by kernel_rfl) (by kernel_rfl) (by kernel_rfl) (fun _ _ _ h => h) (Or.inr ⟨by kernel_rfl, rfl⟩) (by assumption) ?_
            (try simp only [Act.put, List.setIfInBounds_toArray, List.set_cons_zero, List.set_cons_succ])
            refine wpAnyH_take (i := 17) (oi := { dst := some 38, op := Go.Op.call { callee := Go.Callee.value (Go.Operand.tmp 31), args := #[Go.Operand.tmp 6, Go.Operand.tmp 37], argTypes := #[43, 9] }, type := 4, pos := _, after := #[{ on := 10, ground := Go.Ground.data }, { on := 16, ground := Go.Ground.data }, { on := 8, ground := Go.Ground.chain }, { on := 8, ground := Go.Ground.guard }], guard := some (8, false) }) (v := undef) rfl (by kernel_rfl) (by kernel_rfl) (by kernel_rfl) (fun _ _ _ h => h) (Or.inr ⟨by kernel_rfl, rfl⟩) (by assumption) ?_
            (try simp only [Act.put, List.setIfInBounds_toArray, List.set_cons_zero, List.set_cons_succ])
            refine wpAnyH_take (i := 18) (oi := { dst := some 39, op := Go.Op.unOp Go.UnOp.not 4 (Go.Operand.tmp 38), type := 4, pos := _, after := #[{ on := 17, ground := Go.Ground.data }, { on := 8, ground := Go.Ground.guard }], guard := some (8, false) }) (v := undef) rfl (by kernel_rfl) (by kernel_rfl) (by kernel_rfl) (fun _ _ _ h => h) (Or.inr ⟨by kernel_rfl, rfl⟩) (by assumption) ?_
            (try simp only [Act.put, List.setIfInBounds_toArray, List.set_cons_zero, List.set_cons_succ])
            refine wpAnyH_take (i := 19) (oi := { dst := some 40, op := Go.Op.pick (Go.Operand.tmp 29) (Go.Operand.const (Go.Value.bool true)) (Go.Operand.tmp 39), type := 4, pos := _, after := #[{ on := 8, ground := Go.Ground.data }, { on := 18, ground := Go.Ground.data }], guard := none }) (v := ?v124) rfl (by kernel_rfl) (by kernel_rfl) (by kernel_rfl) (fun _ _ _ h => h) (Or.inl ⟨by kernel_rfl, ?hy124⟩) (by assumption) ?_
            case hy124 => intro w hSw; (try dsimp only at hSw); first | (go_simp; done) | (go_simp; with_reducible rfl)
            (try simp only [Act.put, List.setIfInBounds_toArray, List.set_cons_zero, List.set_cons_succ])
            refine wpAnyH_done (by kernel_rfl) ?_ _
            go_wp2_with (refine wpList_store_row rfl 24 (.tmp 2) (.tmp 41) rfl rb #[.slice none 0 0, .int .i64 0, .int .i64 0, .int .i64 0, .int .i64 0, .int .i64 0, .int .i64 0, .int .i64 0, .int .i64 0, .int .i64 0, .int .i64 0, .int .i64 0] rfl rfl 24 _ HRMf.out (by kernel_rfl) rfl (by kernel_rfl) ?_)
            have hld := run_loadVar_row (P := Tryz.prog) (V.drew.setRow rb #[.slice none 0 0, .int .i64 0, .int .i64 0, .int .i64 0, .int .i64 0, .int .i64 0, .int .i64 0, .int .i64 0, .int .i64 0, .int .i64 0, .int .i64 0, .int .i64 0]) rb 24 24 #[.slice none 0 0, .int .i64 0, .int .i64 0, .int .i64 0, .int .i64 0, .int .i64 0, .int .i64 0, .int .i64 0, .int .i64 0, .int .i64 0, .int .i64 0, .int .i64 0] (0, 0) _ (setRow_heap _ _ _ _ _ _ HRMf.out) Tryz.underlying24 rfl (by kernel_rfl)
            have HGE : Hid (Grew w (V.drew.setRow rb #[.slice none 0 0, .int .i64 0, .int .i64 0, .int .i64 0, .int .i64 0, .int .i64 0, .int .i64 0, .int .i64 0, .int .i64 0, .int .i64 0, .int .i64 0, .int .i64 0])) := Lib.hid (below_setRow HGG.out (by rw [HRB.out]; exact Nat.le_refl _) _)
            refine bodyPost_ret (v := .tuple #[.agg #[.slice none 0 0, .int .i64 0, .int .i64 0, .int .i64 0, .int .i64 0, .int .i64 0, .int .i64 0, .int .i64 0, .int .i64 0, .int .i64 0, .int .i64 0, .int .i64 0], .bool false]) ?hv rfl ?hp
            case hv => exact results_cell_tmp Tryz.results9 rfl hld rfl
            case hp => exact ⟨.inr ⟨HNO.out, rfl⟩, HGE.out⟩
      · obtain rfl : k = 12 := by omega
        have HPC := Lib.hid (parseC_is HWL.out HRN.out)
        have c0 := HCF.out.c0
        have c1 := HCF.out.c1
        have c2 := HCF.out.c2
        have c3 := HCF.out.c3
        have c4 := HCF.out.c4
        have c5 := HCF.out.c5
        have c6 := HCF.out.c6
        have c7 := HCF.out.c7
        have c8 := HCF.out.c8
        have c9 := HCF.out.c9
        have c10 := HCF.out.c10
        have c11 := HCF.out.c11
        go_wp2_with (refine wpList_store_row rfl 24 (.tmp 2) (.tmp 43) rfl rb #[.slice a n c, .int .i64 f.sh, .int .i64 f.ra, .int .i64 f.mo, .int .i64 f.wo, .int .i64 f.ba, .int .i64 f.mi, .int .i64 f.st, .int .i64 f.bu, .int .i64 f.ch, .int .i64 f.wi, .int .i64 f.ca] rfl rfl 24 _ HRMk.out (by kernel_rfl) rfl (by kernel_rfl) ?_)
        have hld := run_loadVar_row (P := Tryz.prog) (wr.setRow rb #[.slice a n c, .int .i64 f.sh, .int .i64 f.ra, .int .i64 f.mo, .int .i64 f.wo, .int .i64 f.ba, .int .i64 f.mi, .int .i64 f.st, .int .i64 f.bu, .int .i64 f.ch, .int .i64 f.wi, .int .i64 f.ca]) rb 24 24 #[.slice a n c, .int .i64 f.sh, .int .i64 f.ra, .int .i64 f.mo, .int .i64 f.wo, .int .i64 f.ba, .int .i64 f.mi, .int .i64 f.st, .int .i64 f.bu, .int .i64 f.ch, .int .i64 f.wi, .int .i64 f.ca] (0, 0) _ (setRow_heap _ _ _ _ _ _ HRMk.out) Tryz.underlying24 rfl (by kernel_rfl)
        have HGE : Hid (Grew w (wr.setRow rb #[.slice a n c, .int .i64 f.sh, .int .i64 f.ra, .int .i64 f.mo, .int .i64 f.wo, .int .i64 f.ba, .int .i64 f.mi, .int .i64 f.st, .int .i64 f.bu, .int .i64 f.ch, .int .i64 f.wi, .int .i64 f.ca])) := Lib.hid (below_setRow HGW.out (by rw [HRB.out]; exact Nat.le_refl _) _)
        have HBE : Hid (BufK .i64 3 w.heap.size (wr.setRow rb #[.slice a n c, .int .i64 f.sh, .int .i64 f.ra, .int .i64 f.mo, .int .i64 f.wo, .int .i64 f.ba, .int .i64 f.mi, .int .i64 f.st, .int .i64 f.bu, .int .i64 f.ch, .int .i64 f.wi, .int .i64 f.ca]) a n c f.z) := Lib.hid (row_mono (own_left HBU.out (setRow_grown wr rb _) (fun g hg e => by have := (World.ownsRow.lt HBU.out g hg).1; have := Option.some.inj e; have := HRC.out; omega)) (by rw [HRB.out]; have := HRC.out; omega))
        refine bodyPost_ret (v := .tuple #[.agg #[.slice a n c, .int .i64 f.sh, .int .i64 f.ra, .int .i64 f.mo, .int .i64 f.wo, .int .i64 f.ba, .int .i64 f.mi, .int .i64 f.st, .int .i64 f.bu, .int .i64 f.ch, .int .i64 f.wi, .int .i64 f.ca], .bool true]) ?hv rfl ?hp
        case hv => exact results_cell_tmp Tryz.results9 rfl hld rfl
        case hp => exact ⟨.inl ⟨f, a, n, c, HPC.out, rfl, HFN.out, HBE.out⟩, HGE.out⟩
  · have HNO := Lib.hid (parseC_no (HPW.out.2 (by rw [HM.out]; exact h24)))
    have hm1 : ((m : Int) != 24) = true := by simp; omega
    have hm2 : ¬ (m : Int) = 24 := by omega
    have hm3 : decide ((m : Int) = 24) = false := decide_eq_false hm2
    have HRMk := HRM3
    have HGW := HG3
    go_wp2_with (refine wpList_store_row rfl 24 (.tmp 2) (.tmp 15) rfl rb #[.slice none 0 0, .int .i64 0, .int .i64 0, .int .i64 0, .int .i64 0, .int .i64 0, .int .i64 0, .int .i64 0, .int .i64 0, .int .i64 0, .int .i64 0, .int .i64 0] rfl rfl 24 _ HRMk.out (by kernel_rfl) rfl (by kernel_rfl) ?_)
    have hld := run_loadVar_row (P := Tryz.prog) (w3.setRow rb #[.slice none 0 0, .int .i64 0, .int .i64 0, .int .i64 0, .int .i64 0, .int .i64 0, .int .i64 0, .int .i64 0, .int .i64 0, .int .i64 0, .int .i64 0, .int .i64 0]) rb 24 24 #[.slice none 0 0, .int .i64 0, .int .i64 0, .int .i64 0, .int .i64 0, .int .i64 0, .int .i64 0, .int .i64 0, .int .i64 0, .int .i64 0, .int .i64 0, .int .i64 0] (0, 0) _ (setRow_heap _ _ _ _ _ _ HRMk.out) Tryz.underlying24 rfl (by kernel_rfl)
    have HGE : Hid (Grew w (w3.setRow rb #[.slice none 0 0, .int .i64 0, .int .i64 0, .int .i64 0, .int .i64 0, .int .i64 0, .int .i64 0, .int .i64 0, .int .i64 0, .int .i64 0, .int .i64 0, .int .i64 0])) := Lib.hid (below_setRow HGW.out (by rw [HRB.out]; exact Nat.le_refl _) _)
    refine bodyPost_ret (v := .tuple #[.agg #[.slice none 0 0, .int .i64 0, .int .i64 0, .int .i64 0, .int .i64 0, .int .i64 0, .int .i64 0, .int .i64 0, .int .i64 0, .int .i64 0, .int .i64 0, .int .i64 0], .bool false]) ?hv rfl ?hp
    case hv => exact results_cell_tmp Tryz.results9 rfl hld rfl
    case hp => exact ⟨.inr ⟨HNO.out, rfl⟩, HGE.out⟩
end Go.Proofs.YthcahpgandappaaGreatDoor
