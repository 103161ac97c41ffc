/- The reference's Parse of a configuration: both ways of reading find just the configuration that has the text. Conditions: strings of at most 1000 bytes. -/
import Derived.Test.YthcahpgandappaaGreatDoorCw
import Derived.Test.YthcahpgandappaaGreatDoorYt
namespace Go.Proofs.YthcahpgandappaaGreatDoor
open Go.RowKit Go.Shelf

theorem numO_in (t : List UInt8) : inR (numO t) 0 1048576 = true := by
  unfold numO
  cases h : natO t with
  | none => rfl
  | some n => exact (natO_some h).1
theorem numO_text {n : Int} (h : inR n 0 1048576 = true) : numO (textL n 0) = n := by unfold numO; rw [natO_text h]; rfl
/-- The number that the reference's Parse gives, right or not. -/
def rpar (t : List UInt8) (q : Int) : Int := if qOk q ∧ t.length ≤ 100 then (parseV t q.toNat).1 else 0
theorem rpar_in (t : List UInt8) (q : Int) : i64 (rpar t q) := by
  unfold rpar
  split
  · exact parse_range _ _
  · exact ⟨by decide, by decide⟩
theorem rpar_text {x q : Int} (hq : qOk q) (hx : i64 x) : rpar (textL x q.toNat) q = x := by
  unfold rpar
  rw [if_pos ⟨hq, Nat.le_trans (text_len (toNat_le hq) hx.1 hx.2) (by decide)⟩, parse_text (toNat_le hq) hx.1 hx.2]
theorem rpar_any (s : ByteArray) (q : Int) (w : World) : Calls Tryz.prog 24 #[.string s, .int .i64 q] w fun e w' => (∃ ok, e = .returned (.tuple #[.int .i64 (rpar s.data.toList q), .bool ok])) ∧ Grew w w' := by
  by_cases h : qOk q ∧ s.size ≤ 100
  · obtain ⟨n, rfl⟩ := Int.eq_ofNat_of_zero_le h.1.1
    have hn : n ≤ 62 := by have := h.1.2; omega
    refine (rparse_yes s n w hn h.2).mono ?_
    rintro e w1 ⟨rfl, g⟩
    rw [parse_same hn]
    refine ⟨⟨(parseV s.data.toList n).2, ?_⟩, g⟩
    unfold rpar
    rw [if_pos ⟨h.1, by rw [← size_dataC]; exact h.2⟩, Int.toNat_natCast]
  · refine (rparse_none s q w ?_).mono ?_
    · by_cases hq : qOk q
      · exact .inr (by have : ¬ s.size ≤ 100 := fun e => h ⟨hq, e⟩; omega)
      · exact .inl hq
    · rintro e w1 ⟨rfl, g⟩
      refine ⟨⟨false, ?_⟩, g⟩
      unfold rpar
      rw [if_neg (fun e => h ⟨e.1, by rw [size_dataC]; exact e.2⟩)]
/-- What the reference makes of the words. -/
def refC (ws : List (List UInt8)) : Cf :=
  ⟨(splitBy 44 ((ws[1]?).getD [])).map numO, numO ((ws[3]?).getD []), rpar ((ws[5]?).getD []) (numO ((ws[3]?).getD [])), rpar ((ws[7]?).getD []) (numO ((ws[3]?).getD [])), numO ((ws[9]?).getD []), numO ((ws[11]?).getD []), numO ((ws[13]?).getD []), numO ((ws[15]?).getD []), numO ((ws[17]?).getD []), numO ((ws[19]?).getD []), numO ((ws[21]?).getD []), numO ((ws[23]?).getD [])⟩
theorem refC_in (ws : List (List UInt8)) : AllIn (refC ws) := by
  refine ⟨fun x hx => ?_, fun k h1 h2 => ?_⟩
  · obtain ⟨t, _, rfl⟩ := List.mem_map.1 hx
    exact inR_i64 (numO_in t)
  · match k, h1, h2 with
    | 2, _, _ => exact rpar_in _ _
    | 3, _, _ => exact rpar_in _ _
    | 1, _, _ => exact inR_i64 (numO_in _)
    | 4, _, _ => exact inR_i64 (numO_in _)
    | 5, _, _ => exact inR_i64 (numO_in _)
    | 6, _, _ => exact inR_i64 (numO_in _)
    | 7, _, _ => exact inR_i64 (numO_in _)
    | 8, _, _ => exact inR_i64 (numO_in _)
    | 9, _, _ => exact inR_i64 (numO_in _)
    | 10, _, _ => exact inR_i64 (numO_in _)
    | 11, _, _ => exact inR_i64 (numO_in _)

theorem refC_conf {f : Cf} (h : okC f) (hi : inC f) : refC (wordsN f 12) = f := by
  have hg := good_of h
  have hz : (splitBy 44 (sizesT f.z)).map numO = f.z := by
    rw [sizesT_yes hg.z hg.zs]
    unfold sizesL
    rw [jb_split 44 _ (by simpa using hg.z) (fun p hp => by obtain ⟨x, _, rfl⟩ := List.mem_map.1 hp; exact text_no44 x 0), List.map_map]
    have key : ∀ (z : List Int), (∀ x ∈ z, inR x 0 1048576 = true) → z.map (numO ∘ fun x => textL x 0) = z := by
      intro z
      induction z with
      | nil => intro _; rfl
      | cons x r ih => intro hx; rw [List.map_cons, ih (fun y hy => hx y (by simp [hy]))]; simp [numO_text (hx x (by simp))]
    exact key _ (allIn_mem hg.zs)
  have h1 : numO (cntT f.sh) = f.sh := by rw [cntT_yes hg.sh, numO_text hg.sh]
  have h2 : rpar (textV f.ra f.sh) f.sh = f.ra := by rw [textV_q hg.q, rpar_text hg.q hi.1]
  have h3 : rpar (textV f.mo f.sh) f.sh = f.mo := by rw [textV_q hg.q, rpar_text hg.q hi.2]
  have h4 : numO (cntT f.wo) = f.wo := by rw [cntT_yes hg.wo, numO_text hg.wo]
  have h5 : numO (cntT f.ba) = f.ba := by rw [cntT_yes hg.ba, numO_text hg.ba]
  have h6 : numO (cntT f.mi) = f.mi := by rw [cntT_yes hg.mi, numO_text hg.mi]
  have h7 : numO (cntT f.st) = f.st := by rw [cntT_yes hg.st, numO_text hg.st]
  have h8 : numO (cntT f.bu) = f.bu := by rw [cntT_yes hg.bu, numO_text hg.bu]
  have h9 : numO (cntT f.ch) = f.ch := by rw [cntT_yes hg.ch, numO_text hg.ch]
  have h10 : numO (cntT f.wi) = f.wi := by rw [cntT_yes hg.wi, numO_text hg.wi]
  have h11 : numO (cntT f.ca) = f.ca := by rw [cntT_yes hg.ca, numO_text hg.ca]
  show Cf.mk ((splitBy 44 (sizesT f.z)).map numO) (numO (cntT f.sh)) (rpar (textV f.ra f.sh) (numO (cntT f.sh))) (rpar (textV f.mo f.sh) (numO (cntT f.sh))) (numO (cntT f.wo)) (numO (cntT f.ba)) (numO (cntT f.mi)) (numO (cntT f.st)) (numO (cntT f.bu)) (numO (cntT f.ch)) (numO (cntT f.wi)) (numO (cntT f.ca)) = f
  rw [hz, h1, h2, h3, h4, h5, h6, h7, h8, h9, h10, h11]
/-- Both ways are one. -/
theorem refC_same {l : List UInt8} (h24 : (splitSp l).length = 24) : parseC l = if textC (refC (splitSp l)) = (l, true) then some (refC (splitSp l)) else none := by
  cases hp : parseC l with
  | some f =>
    obtain ⟨ho, hi, rfl⟩ := parseC_some hp
    rw [split_conf, refC_conf ho hi, if_pos (textC_yes ho)]
  | none =>
    by_cases ht : textC (refC (splitSp l)) = (l, true)
    · exfalso
      by_cases ho : okC (refC (splitSp l))
      · rw [textC_yes ho] at ht
        have hl := congrArg Prod.fst ht
        have hi := refC_in (splitSp l)
        have := parseC_conf ho ⟨hi.2 2 (by decide) (by decide), hi.2 3 (by decide) (by decide)⟩
        rw [show confL (refC (splitSp l)) = l from hl, hp] at this
        cases this
      · rw [textC_no ho] at ht
        have := congrArg Prod.snd ht
        cases this
    · rw [if_neg ht]
/-- A configuration's block is none of a row of numbers' blocks. -/
theorem cell_row_ne {W : World} {n c g B m cap : Nat} {a a' : Option Addr} {f : Cf} {zs : List Int} (h : BufK .i64 3 B W a m cap zs) (k : CfM W g a' n c f) (hg : (Value.slice a m cap).ownBlock = some g) : False := by
  rcases h.2 with ⟨e, _⟩ | ⟨g1, c1, cur, e, _, hc, _⟩
  · rw [e] at hg; cases hg
  · rw [e] at hg
    obtain rfl : g1 = g := by injection hg
    rw [show W.heap[g1]? = _ from k] at hc
    injection hc with hc
    injection hc with _ h2
    exact absurd h2 (by decide)

set_option maxRecDepth 100000 in
set_option maxHeartbeats 8000000 in
theorem region4 : True := trivial
set_option maxRecDepth 100000 in
set_option maxHeartbeats 8000000 in
theorem rparseC_any (s : ByteArray) (w : World) (hs : s.size ≤ 1000) :
    Calls Tryz.prog 11 #[.string s] w fun e w' => ((∃ f a n c, parseC s.data.toList = some f ∧ e = .returned (.tuple #[.agg #[.slice a n c, .int .i64 f.sh, .int .i64 f.ra, .int .i64 f.mo, .int .i64 f.wo, .int .i64 f.ba, .int .i64 f.mi, .int .i64 f.st, .int .i64 f.bu, .int .i64 f.ch, .int .i64 f.wi, .int .i64 f.ca], .bool true]) ∧ f.z.length = n ∧ BufK .i64 3 w.heap.size w' a n c f.z) ∨ (parseC s.data.toList = none ∧ e = .returned (.tuple #[.agg #[.slice none 0 0, .int .i64 0, .int .i64 0, .int .i64 0, .int .i64 0, .int .i64 0, .int .i64 0, .int .i64 0, .int .i64 0, .int .i64 0, .int .i64 0, .int .i64 0], .bool false]))) ∧ Grew w w' := by
  have g0 : Grew w (w.alloc (.cells #[.slice none 0 0, .int .i64 0, .int .i64 0, .int .i64 0, .int .i64 0, .int .i64 0, .int .i64 0, .int .i64 0, .int .i64 0, .int .i64 0, .int .i64 0, .int .i64 0] 24)) := (Grew.refl w).alloc _
  have HRM := Lib.hid (CfM.new w none 0 0 zeroC)
  have HG := Lib.hid g0
  clear g0
  go_enter Tryz.func11, Tryz.ntmps11
  go_wp2_with fail
  generalize hW0 : w.alloc (.cells #[.slice none 0 0, .int .i64 0, .int .i64 0, .int .i64 0, .int .i64 0, .int .i64 0, .int .i64 0, .int .i64 0, .int .i64 0, .int .i64 0, .int .i64 0, .int .i64 0] 24) = W0 at *
  replace HRM : Hid (CfM W0 w.heap.size none 0 0 zeroC) := by rw [← hW0]; exact HRM
  generalize hb0 : w.heap.size = rb at *
  have HRB := Lib.hid hb0
  clear hW0 hb0
  refine (words_any s W0 (by omega)).mono ?_
  rintro e w2 ⟨⟨wl, v, rfl, hwl, hrow⟩, g1⟩
  have HRM1 := Lib.hid (HRM.out.grow g1)
  have HG1 := Lib.hid (HG.out.trans g1)
  have HRW := Lib.hid hrow
  have HWL := Lib.hid hwl
  obtain ⟨a', cap, rfl⟩ := own_formC hrow
  clear HRM HG g1 hrow hwl
  obtain ⟨m, hm⟩ : ∃ m, wl.length = m := ⟨_, rfl⟩
  have HM := Lib.hid hm
  rw [hm]
  clear hm
  have HLN : Hid ((splitSp s.data.toList).length = m) := Lib.hid (by rw [← HWL.out, List.length_map, HM.out])
  by_cases h24 : m = 24
  · subst h24
    have hrw24 : w2.ownsRow W0.heap.size 9 1 (.slice a' 24 cap) 24 (wl.map Value.string) := by
      have h := HRW.out
      rw [HM.out] at h
      exact h
    obtain ⟨pg, rfl, _, hpg, hcap⟩ := own_addr hrw24 (by decide)
    have hcell : ∀ (j : Nat) l, (splitSp s.data.toList)[j]? = some l → w2.cell? ⟨pg, j, none⟩ = some (.string ⟨l.toArray⟩) := fun j l hj => by
      rw [← HWL.out, List.getElem?_map] at hj
      cases hx : wl[j]? with
      | none => rw [hx] at hj; cases hj
      | some x =>
        rw [hx] at hj
        obtain rfl := Option.some.inj hj
        have hjl : j < wl.length := (List.getElem?_eq_some_iff.1 hx).1
        rw [World.ownsRow.cellAt hrw24 j (by rw [HM.out] at hjl; omega), List.getElem?_map, hx]
        rfl
    have hsz := word_sizes _ s.data.toList (Nat.le_refl _)
    have hw : ∀ j, j < 24 → ∃ P, (splitSp s.data.toList)[j]? = some P := fun j hj => ⟨_, List.getElem?_eq_getElem (by rw [HLN.out]; exact hj)⟩
    obtain ⟨P1, hp1⟩ := hw 1 (by decide)
    have hs1 : (⟨P1.toArray⟩ : ByteArray).size ≤ 1000 := by
      have := hsz P1 (List.mem_of_getElem? hp1)
      rw [size_dataC] at hs ⊢
      exact Nat.le_trans this hs
    have HQ1 := Lib.hid (hcell 1 P1 hp1)
    obtain ⟨P3, hp3⟩ := hw 3 (by decide)
    have hs3 : (⟨P3.toArray⟩ : ByteArray).size ≤ 1000 := by
      have := hsz P3 (List.mem_of_getElem? hp3)
      rw [size_dataC] at hs ⊢
      exact Nat.le_trans this hs
    have HQ3 := Lib.hid (hcell 3 P3 hp3)
    obtain ⟨P5, hp5⟩ := hw 5 (by decide)
    have hs5 : (⟨P5.toArray⟩ : ByteArray).size ≤ 1000 := by
      have := hsz P5 (List.mem_of_getElem? hp5)
      rw [size_dataC] at hs ⊢
      exact Nat.le_trans this hs
    have HQ5 := Lib.hid (hcell 5 P5 hp5)
    obtain ⟨P7, hp7⟩ := hw 7 (by decide)
    have hs7 : (⟨P7.toArray⟩ : ByteArray).size ≤ 1000 := by
      have := hsz P7 (List.mem_of_getElem? hp7)
      rw [size_dataC] at hs ⊢
      exact Nat.le_trans this hs
    have HQ7 := Lib.hid (hcell 7 P7 hp7)
    obtain ⟨P9, hp9⟩ := hw 9 (by decide)
    have hs9 : (⟨P9.toArray⟩ : ByteArray).size ≤ 1000 := by
      have := hsz P9 (List.mem_of_getElem? hp9)
      rw [size_dataC] at hs ⊢
      exact Nat.le_trans this hs
    have HQ9 := Lib.hid (hcell 9 P9 hp9)
    obtain ⟨P11, hp11⟩ := hw 11 (by decide)
    have hs11 : (⟨P11.toArray⟩ : ByteArray).size ≤ 1000 := by
      have := hsz P11 (List.mem_of_getElem? hp11)
      rw [size_dataC] at hs ⊢
      exact Nat.le_trans this hs
    have HQ11 := Lib.hid (hcell 11 P11 hp11)
    obtain ⟨P13, hp13⟩ := hw 13 (by decide)
    have hs13 : (⟨P13.toArray⟩ : ByteArray).size ≤ 1000 := by
      have := hsz P13 (List.mem_of_getElem? hp13)
      rw [size_dataC] at hs ⊢
      exact Nat.le_trans this hs
    have HQ13 := Lib.hid (hcell 13 P13 hp13)
    obtain ⟨P15, hp15⟩ := hw 15 (by decide)
    have hs15 : (⟨P15.toArray⟩ : ByteArray).size ≤ 1000 := by
      have := hsz P15 (List.mem_of_getElem? hp15)
      rw [size_dataC] at hs ⊢
      exact Nat.le_trans this hs
    have HQ15 := Lib.hid (hcell 15 P15 hp15)
    obtain ⟨P17, hp17⟩ := hw 17 (by decide)
    have hs17 : (⟨P17.toArray⟩ : ByteArray).size ≤ 1000 := by
      have := hsz P17 (List.mem_of_getElem? hp17)
      rw [size_dataC] at hs ⊢
      exact Nat.le_trans this hs
    have HQ17 := Lib.hid (hcell 17 P17 hp17)
    obtain ⟨P19, hp19⟩ := hw 19 (by decide)
    have hs19 : (⟨P19.toArray⟩ : ByteArray).size ≤ 1000 := by
      have := hsz P19 (List.mem_of_getElem? hp19)
      rw [size_dataC] at hs ⊢
      exact Nat.le_trans this hs
    have HQ19 := Lib.hid (hcell 19 P19 hp19)
    obtain ⟨P21, hp21⟩ := hw 21 (by decide)
    have hs21 : (⟨P21.toArray⟩ : ByteArray).size ≤ 1000 := by
      have := hsz P21 (List.mem_of_getElem? hp21)
      rw [size_dataC] at hs ⊢
      exact Nat.le_trans this hs
    have HQ21 := Lib.hid (hcell 21 P21 hp21)
    obtain ⟨P23, hp23⟩ := hw 23 (by decide)
    have hs23 : (⟨P23.toArray⟩ : ByteArray).size ≤ 1000 := by
      have := hsz P23 (List.mem_of_getElem? hp23)
      rw [size_dataC] at hs ⊢
      exact Nat.le_trans this hs
    have HQ23 := Lib.hid (hcell 23 P23 hp23)
    have HRC : Hid (refC (splitSp s.data.toList) = ⟨(splitBy 44 P1).map numO, numO P3, rpar P5 (numO P3), rpar P7 (numO P3), numO P9, numO P11, numO P13, numO P15, numO P17, numO P19, numO P21, numO P23⟩) := Lib.hid (by
      unfold refC
      rw [hp1, hp3, hp5, hp7, hp9, hp11, hp13, hp15, hp17, hp19, hp21, hp23]
      rfl)
    have HSAME := Lib.hid (refC_same HLN.out)
    have HRIN := Lib.hid (refC_in (splitSp s.data.toList))
    have HN1 : Hid (∀ W, Calls Tryz.prog 22 #[.string ⟨P1.toArray⟩] W fun e w' => (∃ a c zs, e = .returned (.slice a zs.length c) ∧ zs = (splitBy 44 P1).map numO ∧ BufK .i64 3 W.heap.size w' a zs.length c zs) ∧ Grew W w') := Lib.hid (fun W => numbers_any ⟨P1.toArray⟩ W hs1)
    have HN3 : Hid (∀ W, Calls Tryz.prog 23 #[.string ⟨P3.toArray⟩] W fun e w' => e = .returned (.int .i64 (numO P3)) ∧ Grew W w') := Lib.hid (fun W => rnum_any ⟨P3.toArray⟩ W hs3)
    have HN9 : Hid (∀ W, Calls Tryz.prog 23 #[.string ⟨P9.toArray⟩] W fun e w' => e = .returned (.int .i64 (numO P9)) ∧ Grew W w') := Lib.hid (fun W => rnum_any ⟨P9.toArray⟩ W hs9)
    have HN11 : Hid (∀ W, Calls Tryz.prog 23 #[.string ⟨P11.toArray⟩] W fun e w' => e = .returned (.int .i64 (numO P11)) ∧ Grew W w') := Lib.hid (fun W => rnum_any ⟨P11.toArray⟩ W hs11)
    have HN13 : Hid (∀ W, Calls Tryz.prog 23 #[.string ⟨P13.toArray⟩] W fun e w' => e = .returned (.int .i64 (numO P13)) ∧ Grew W w') := Lib.hid (fun W => rnum_any ⟨P13.toArray⟩ W hs13)
    have HN15 : Hid (∀ W, Calls Tryz.prog 23 #[.string ⟨P15.toArray⟩] W fun e w' => e = .returned (.int .i64 (numO P15)) ∧ Grew W w') := Lib.hid (fun W => rnum_any ⟨P15.toArray⟩ W hs15)
    have HN17 : Hid (∀ W, Calls Tryz.prog 23 #[.string ⟨P17.toArray⟩] W fun e w' => e = .returned (.int .i64 (numO P17)) ∧ Grew W w') := Lib.hid (fun W => rnum_any ⟨P17.toArray⟩ W hs17)
    have HN19 : Hid (∀ W, Calls Tryz.prog 23 #[.string ⟨P19.toArray⟩] W fun e w' => e = .returned (.int .i64 (numO P19)) ∧ Grew W w') := Lib.hid (fun W => rnum_any ⟨P19.toArray⟩ W hs19)
    have HN21 : Hid (∀ W, Calls Tryz.prog 23 #[.string ⟨P21.toArray⟩] W fun e w' => e = .returned (.int .i64 (numO P21)) ∧ Grew W w') := Lib.hid (fun W => rnum_any ⟨P21.toArray⟩ W hs21)
    have HN23 : Hid (∀ W, Calls Tryz.prog 23 #[.string ⟨P23.toArray⟩] W fun e w' => e = .returned (.int .i64 (numO P23)) ∧ Grew W w') := Lib.hid (fun W => rnum_any ⟨P23.toArray⟩ W hs23)
    have HZN : Hid ((splitBy 44 P1).length ≤ 1001) := Lib.hid (by
      have h1 := by_len 44 _ P1 (Nat.le_refl _)
      have h2 := hsz P1 (List.mem_of_getElem? hp1)
      rw [size_dataC] at hs
      omega)
    clear hcell hsz hw hrw24 hp1 hs1 hp3 hs3 hp5 hs5 hp7 hs7 hp9 hs9 hp11 hs11 hp13 hs13 hp15 hs15 hp17 hs17 hp19 hs19 hp21 hs21 hp23 hs23
    have HKW : Hid (∀ W', Grew w2 W' → Grew w2 W' ∧ W'.cell? ⟨pg, 1, none⟩ = some (.string ⟨P1.toArray⟩) ∧ W'.cell? ⟨pg, 3, none⟩ = some (.string ⟨P3.toArray⟩) ∧ W'.cell? ⟨pg, 9, none⟩ = some (.string ⟨P9.toArray⟩) ∧ W'.cell? ⟨pg, 11, none⟩ = some (.string ⟨P11.toArray⟩) ∧ W'.cell? ⟨pg, 13, none⟩ = some (.string ⟨P13.toArray⟩) ∧ W'.cell? ⟨pg, 15, none⟩ = some (.string ⟨P15.toArray⟩) ∧ W'.cell? ⟨pg, 17, none⟩ = some (.string ⟨P17.toArray⟩) ∧ W'.cell? ⟨pg, 19, none⟩ = some (.string ⟨P19.toArray⟩) ∧ W'.cell? ⟨pg, 21, none⟩ = some (.string ⟨P21.toArray⟩) ∧ W'.cell? ⟨pg, 23, none⟩ = some (.string ⟨P23.toArray⟩)) := Lib.hid (fun W' g => ⟨g, stay g HQ1.out, stay g HQ3.out, stay g HQ9.out, stay g HQ11.out, stay g HQ13.out, stay g HQ15.out, stay g HQ17.out, stay g HQ19.out, stay g HQ21.out, stay g HQ23.out⟩)
    generalize hx3 : numO P3 = x3 at *
    generalize hx9 : numO P9 = x9 at *
    generalize hx11 : numO P11 = x11 at *
    generalize hx13 : numO P13 = x13 at *
    generalize hx15 : numO P15 = x15 at *
    generalize hx17 : numO P17 = x17 at *
    generalize hx19 : numO P19 = x19 at *
    generalize hx21 : numO P21 = x21 at *
    generalize hx23 : numO P23 = x23 at *
    clear hx3 hx9 hx11 hx13 hx15 hx17 hx19 hx21 hx23
    have GD : Hid (Grew w2 w2.drew) := Lib.hid (Grew.drew' (Grew.refl _))
    go_upto_region 4 with fail
    go_cut [5] (fun v wx => ∃ cb a c zs, v = .pointer (some ⟨cb, 0, none⟩) ∧ w2.heap.size ≤ cb ∧ Hid (zs = (splitBy 44 P1).map numO) ∧ Hid (CfM wx cb a zs.length c ⟨zs, x3, 0, 0, x9, x11, x13, x15, x17, x19, x21, x23⟩) ∧ Hid (BufK .i64 3 w2.heap.size wx a zs.length c zs) ∧ Hid (Grew w2 wx))
    case first =>
      refine wp_region_held_drew (S := (fun W' => Grew w2 W' ∧ W'.cell? ⟨pg, 1, none⟩ = some (.string ⟨P1.toArray⟩) ∧ W'.cell? ⟨pg, 3, none⟩ = some (.string ⟨P3.toArray⟩) ∧ W'.cell? ⟨pg, 9, none⟩ = some (.string ⟨P9.toArray⟩) ∧ W'.cell? ⟨pg, 11, none⟩ = some (.string ⟨P11.toArray⟩) ∧ W'.cell? ⟨pg, 13, none⟩ = some (.string ⟨P13.toArray⟩) ∧ W'.cell? ⟨pg, 15, none⟩ = some (.string ⟨P15.toArray⟩) ∧ W'.cell? ⟨pg, 17, none⟩ = some (.string ⟨P17.toArray⟩) ∧ W'.cell? ⟨pg, 19, none⟩ = some (.string ⟨P19.toArray⟩) ∧ W'.cell? ⟨pg, 21, none⟩ = some (.string ⟨P21.toArray⟩) ∧ W'.cell? ⟨pg, 23, none⟩ = some (.string ⟨P23.toArray⟩))) (by kernel_rfl) (HKW.out _ (Grew.drew' (Grew.refl _))) (fun hHeld => ?_)
      refine wpAnyH_take (i := 0) (oi := { dst := some 14, op := Go.Op.move (Go.Operand.tmp 4), type := 35, pos := _, after := #[], guard := none }) (v := ?v206) rfl (by kernel_rfl) (by kernel_rfl) (by kernel_rfl) (fun _ _ _ h => h) (Or.inl ⟨by kernel_rfl, ?hy206⟩) (by assumption) ?_
      case hy206 => intro w hSw; (try dsimp only at hSw); first | (go_simp; done) | (go_simp; with_reducible rfl)
      (try simp only [Act.put, List.setIfInBounds_toArray, List.set_cons_zero, List.set_cons_succ])
      refine wpAnyH_take (i := 1) (oi := { dst := some 15, op := Go.Op.indexAddr 35 (Go.Operand.tmp 14) (Go.Operand.const (Go.Value.int Go.IntKind.i64 1)), type := 0, pos := _, after := #[{ on := 0, ground := Go.Ground.data }], guard := none }) (v := ?v207) rfl (by kernel_rfl) (by kernel_rfl) (by kernel_rfl) (fun _ _ _ h => h) (Or.inl ⟨by kernel_rfl, ?hy207⟩) (by assumption) ?_
      case hy207 => intro w hSw; (try dsimp only at hSw); first | (go_simp; done) | (go_simp; with_reducible rfl)
      (try simp only [Act.put, List.setIfInBounds_toArray, List.set_cons_zero, List.set_cons_succ])
      refine wpAnyH_take (i := 2) (oi := { dst := some 16, op := Go.Op.load 9 (Go.Operand.tmp 15), type := 9, pos := _, after := #[{ on := 1, ground := Go.Ground.data }], guard := none }) (v := ?v208) rfl (by kernel_rfl) (by kernel_rfl) (by kernel_rfl) (fun _ _ _ h => h) (Or.inl ⟨by kernel_rfl, ?hy208⟩) (by assumption) ?_
      case hy208 => intro w hSw; (try dsimp only at hSw); first | (go_simp; done) | (go_simp; with_reducible rfl)
      (try simp only [Act.put, List.setIfInBounds_toArray, List.set_cons_zero, List.set_cons_succ])
      refine wpAnyH_take (i := 4) (oi := { dst := some 18, op := Go.Op.move (Go.Operand.tmp 4), type := 35, pos := _, after := #[], guard := none }) (v := ?v209) rfl (by kernel_rfl) (by kernel_rfl) (by kernel_rfl) (fun _ _ _ h => h) (Or.inl ⟨by kernel_rfl, ?hy209⟩) (by assumption) ?_
      case hy209 => intro w hSw; (try dsimp only at hSw); first | (go_simp; done) | (go_simp; with_reducible rfl)
      (try simp only [Act.put, List.setIfInBounds_toArray, List.set_cons_zero, List.set_cons_succ])
      refine wpAnyH_take (i := 5) (oi := { dst := some 19, op := Go.Op.indexAddr 35 (Go.Operand.tmp 18) (Go.Operand.const (Go.Value.int Go.IntKind.i64 3)), type := 0, pos := _, after := #[{ on := 4, ground := Go.Ground.data }], guard := none }) (v := ?v210) rfl (by kernel_rfl) (by kernel_rfl) (by kernel_rfl) (fun _ _ _ h => h) (Or.inl ⟨by kernel_rfl, ?hy210⟩) (by assumption) ?_
      case hy210 => intro w hSw; (try dsimp only at hSw); first | (go_simp; done) | (go_simp; with_reducible rfl)
      (try simp only [Act.put, List.setIfInBounds_toArray, List.set_cons_zero, List.set_cons_succ])
      refine wpAnyH_take (i := 6) (oi := { dst := some 20, op := Go.Op.load 9 (Go.Operand.tmp 19), type := 9, pos := _, after := #[{ on := 5, ground := Go.Ground.data }], guard := none }) (v := ?v211) rfl (by kernel_rfl) (by kernel_rfl) (by kernel_rfl) (fun _ _ _ h => h) (Or.inl ⟨by kernel_rfl, ?hy211⟩) (by assumption) ?_
      case hy211 => intro w hSw; (try dsimp only at hSw); first | (go_simp; done) | (go_simp; with_reducible rfl)
      (try simp only [Act.put, List.setIfInBounds_toArray, List.set_cons_zero, List.set_cons_succ])
      refine wpAnyH_take (i := 8) (oi := { dst := some 22, op := Go.Op.move (Go.Operand.tmp 4), type := 35, pos := _, after := #[], guard := none }) (v := ?v212) rfl (by kernel_rfl) (by kernel_rfl) (by kernel_rfl) (fun _ _ _ h => h) (Or.inl ⟨by kernel_rfl, ?hy212⟩) (by assumption) ?_
      case hy212 => intro w hSw; (try dsimp only at hSw); first | (go_simp; done) | (go_simp; with_reducible rfl)
      (try simp only [Act.put, List.setIfInBounds_toArray, List.set_cons_zero, List.set_cons_succ])
      refine wpAnyH_take (i := 9) (oi := { dst := some 23, op := Go.Op.indexAddr 35 (Go.Operand.tmp 22) (Go.Operand.const (Go.Value.int Go.IntKind.i64 9)), type := 0, pos := _, after := #[{ on := 8, ground := Go.Ground.data }], guard := none }) (v := ?v213) rfl (by kernel_rfl) (by kernel_rfl) (by kernel_rfl) (fun _ _ _ h => h) (Or.inl ⟨by kernel_rfl, ?hy213⟩) (by assumption) ?_
      case hy213 => intro w hSw; (try dsimp only at hSw); first | (go_simp; done) | (go_simp; with_reducible rfl)
      (try simp only [Act.put, List.setIfInBounds_toArray, List.set_cons_zero, List.set_cons_succ])
      refine wpAnyH_take (i := 10) (oi := { dst := some 24, op := Go.Op.load 9 (Go.Operand.tmp 23), type := 9, pos := _, after := #[{ on := 9, ground := Go.Ground.data }], guard := none }) (v := ?v214) rfl (by kernel_rfl) (by kernel_rfl) (by kernel_rfl) (fun _ _ _ h => h) (Or.inl ⟨by kernel_rfl, ?hy214⟩) (by assumption) ?_
      case hy214 => intro w hSw; (try dsimp only at hSw); first | (go_simp; done) | (go_simp; with_reducible rfl)
      (try simp only [Act.put, List.setIfInBounds_toArray, List.set_cons_zero, List.set_cons_succ])
      refine wpAnyH_take (i := 12) (oi := { dst := some 26, op := Go.Op.move (Go.Operand.tmp 4), type := 35, pos := _, after := #[], guard := none }) (v := ?v215) rfl (by kernel_rfl) (by kernel_rfl) (by kernel_rfl) (fun _ _ _ h => h) (Or.inl ⟨by kernel_rfl, ?hy215⟩) (by assumption) ?_
      case hy215 => intro w hSw; (try dsimp only at hSw); first | (go_simp; done) | (go_simp; with_reducible rfl)
      (try simp only [Act.put, List.setIfInBounds_toArray, List.set_cons_zero, List.set_cons_succ])
      refine wpAnyH_take (i := 13) (oi := { dst := some 27, op := Go.Op.indexAddr 35 (Go.Operand.tmp 26) (Go.Operand.const (Go.Value.int Go.IntKind.i64 11)), type := 0, pos := _, after := #[{ on := 12, ground := Go.Ground.data }], guard := none }) (v := ?v216) rfl (by kernel_rfl) (by kernel_rfl) (by kernel_rfl) (fun _ _ _ h => h) (Or.inl ⟨by kernel_rfl, ?hy216⟩) (by assumption) ?_
      case hy216 => intro w hSw; (try dsimp only at hSw); first | (go_simp; done) | (go_simp; with_reducible rfl)
      (try simp only [Act.put, List.setIfInBounds_toArray, List.set_cons_zero, List.set_cons_succ])
      refine wpAnyH_take (i := 14) (oi := { dst := some 28, op := Go.Op.load 9 (Go.Operand.tmp 27), type := 9, pos := _, after := #[{ on := 13, ground := Go.Ground.data }], guard := none }) (v := ?v217) rfl (by kernel_rfl) (by kernel_rfl) (by kernel_rfl) (fun _ _ _ h => h) (Or.inl ⟨by kernel_rfl, ?hy217⟩) (by assumption) ?_
      case hy217 => intro w hSw; (try dsimp only at hSw); first | (go_simp; done) | (go_simp; with_reducible rfl)
      (try simp only [Act.put, List.setIfInBounds_toArray, List.set_cons_zero, List.set_cons_succ])
      refine wpAnyH_take (i := 16) (oi := { dst := some 30, op := Go.Op.move (Go.Operand.tmp 4), type := 35, pos := _, after := #[], guard := none }) (v := ?v218) rfl (by kernel_rfl) (by kernel_rfl) (by kernel_rfl) (fun _ _ _ h => h) (Or.inl ⟨by kernel_rfl, ?hy218⟩) (by assumption) ?_
      case hy218 => intro w hSw; (try dsimp only at hSw); first | (go_simp; done) | (go_simp; with_reducible rfl)
      (try simp only [Act.put, List.setIfInBounds_toArray, List.set_cons_zero, List.set_cons_succ])
      refine wpAnyH_take (i := 17) (oi := { dst := some 31, op := Go.Op.indexAddr 35 (Go.Operand.tmp 30) (Go.Operand.const (Go.Value.int Go.IntKind.i64 13)), type := 0, pos := _, after := #[{ on := 16, ground := Go.Ground.data }], guard := none }) (v := ?v219) rfl (by kernel_rfl) (by kernel_rfl) (by kernel_rfl) (fun _ _ _ h => h) (Or.inl ⟨by kernel_rfl, ?hy219⟩) (by assumption) ?_
      case hy219 => intro w hSw; (try dsimp only at hSw); first | (go_simp; done) | (go_simp; with_reducible rfl)
      (try simp only [Act.put, List.setIfInBounds_toArray, List.set_cons_zero, List.set_cons_succ])
      refine wpAnyH_take (i := 18) (oi := { dst := some 32, op := Go.Op.load 9 (Go.Operand.tmp 31), type := 9, pos := _, after := #[{ on := 17, ground := Go.Ground.data }], guard := none }) (v := ?v220) rfl (by kernel_rfl) (by kernel_rfl) (by kernel_rfl) (fun _ _ _ h => h) (Or.inl ⟨by kernel_rfl, ?hy220⟩) (by assumption) ?_
      case hy220 => intro w hSw; (try dsimp only at hSw); first | (go_simp; done) | (go_simp; with_reducible rfl)
      (try simp only [Act.put, List.setIfInBounds_toArray, List.set_cons_zero, List.set_cons_succ])
      refine wpAnyH_take (i := 20) (oi := { dst := some 34, op := Go.Op.move (Go.Operand.tmp 4), type := 35, pos := _, after := #[], guard := none }) (v := ?v221) rfl (by kernel_rfl) (by kernel_rfl) (by kernel_rfl) (fun _ _ _ h => h) (Or.inl ⟨by kernel_rfl, ?hy221⟩) (by assumption) ?_
      case hy221 => intro w hSw; (try dsimp only at hSw); first | (go_simp; done) | (go_simp; with_reducible rfl)
      (try simp only [Act.put, List.setIfInBounds_toArray, List.set_cons_zero, List.set_cons_succ])
      refine wpAnyH_take (i := 21) (oi := { dst := some 35, op := Go.Op.indexAddr 35 (Go.Operand.tmp 34) (Go.Operand.const (Go.Value.int Go.IntKind.i64 15)), type := 0, pos := _, after := #[{ on := 20, ground := Go.Ground.data }], guard := none }) (v := ?v222) rfl (by kernel_rfl) (by kernel_rfl) (by kernel_rfl) (fun _ _ _ h => h) (Or.inl ⟨by kernel_rfl, ?hy222⟩) (by assumption) ?_
      case hy222 => intro w hSw; (try dsimp only at hSw); first | (go_simp; done) | (go_simp; with_reducible rfl)
      (try simp only [Act.put, List.setIfInBounds_toArray, List.set_cons_zero, List.set_cons_succ])
      refine wpAnyH_take (i := 22) (oi := { dst := some 36, op := Go.Op.load 9 (Go.Operand.tmp 35), type := 9, pos := _, after := #[{ on := 21, ground := Go.Ground.data }], guard := none }) (v := ?v223) rfl (by kernel_rfl) (by kernel_rfl) (by kernel_rfl) (fun _ _ _ h => h) (Or.inl ⟨by kernel_rfl, ?hy223⟩) (by assumption) ?_
      case hy223 => intro w hSw; (try dsimp only at hSw); first | (go_simp; done) | (go_simp; with_reducible rfl)
      (try simp only [Act.put, List.setIfInBounds_toArray, List.set_cons_zero, List.set_cons_succ])
      refine wpAnyH_take (i := 24) (oi := { dst := some 38, op := Go.Op.move (Go.Operand.tmp 4), type := 35, pos := _, after := #[], guard := none }) (v := ?v224) rfl (by kernel_rfl) (by kernel_rfl) (by kernel_rfl) (fun _ _ _ h => h) (Or.inl ⟨by kernel_rfl, ?hy224⟩) (by assumption) ?_
      case hy224 => intro w hSw; (try dsimp only at hSw); first | (go_simp; done) | (go_simp; with_reducible rfl)
      (try simp only [Act.put, List.setIfInBounds_toArray, List.set_cons_zero, List.set_cons_succ])
      refine wpAnyH_take (i := 25) (oi := { dst := some 39, op := Go.Op.indexAddr 35 (Go.Operand.tmp 38) (Go.Operand.const (Go.Value.int Go.IntKind.i64 17)), type := 0, pos := _, after := #[{ on := 24, ground := Go.Ground.data }], guard := none }) (v := ?v225) rfl (by kernel_rfl) (by kernel_rfl) (by kernel_rfl) (fun _ _ _ h => h) (Or.inl ⟨by kernel_rfl, ?hy225⟩) (by assumption) ?_
      case hy225 => intro w hSw; (try dsimp only at hSw); first | (go_simp; done) | (go_simp; with_reducible rfl)
      (try simp only [Act.put, List.setIfInBounds_toArray, List.set_cons_zero, List.set_cons_succ])
      refine wpAnyH_take (i := 26) (oi := { dst := some 40, op := Go.Op.load 9 (Go.Operand.tmp 39), type := 9, pos := _, after := #[{ on := 25, ground := Go.Ground.data }], guard := none }) (v := ?v226) rfl (by kernel_rfl) (by kernel_rfl) (by kernel_rfl) (fun _ _ _ h => h) (Or.inl ⟨by kernel_rfl, ?hy226⟩) (by assumption) ?_
      case hy226 => intro w hSw; (try dsimp only at hSw); first | (go_simp; done) | (go_simp; with_reducible rfl)
      (try simp only [Act.put, List.setIfInBounds_toArray, List.set_cons_zero, List.set_cons_succ])
      refine wpAnyH_take (i := 28) (oi := { dst := some 42, op := Go.Op.move (Go.Operand.tmp 4), type := 35, pos := _, after := #[], guard := none }) (v := ?v227) rfl (by kernel_rfl) (by kernel_rfl) (by kernel_rfl) (fun _ _ _ h => h) (Or.inl ⟨by kernel_rfl, ?hy227⟩) (by assumption) ?_
      case hy227 => intro w hSw; (try dsimp only at hSw); first | (go_simp; done) | (go_simp; with_reducible rfl)
      (try simp only [Act.put, List.setIfInBounds_toArray, List.set_cons_zero, List.set_cons_succ])
      refine wpAnyH_take (i := 29) (oi := { dst := some 43, op := Go.Op.indexAddr 35 (Go.Operand.tmp 42) (Go.Operand.const (Go.Value.int Go.IntKind.i64 19)), type := 0, pos := _, after := #[{ on := 28, ground := Go.Ground.data }], guard := none }) (v := ?v228) rfl (by kernel_rfl) (by kernel_rfl) (by kernel_rfl) (fun _ _ _ h => h) (Or.inl ⟨by kernel_rfl, ?hy228⟩) (by assumption) ?_
      case hy228 => intro w hSw; (try dsimp only at hSw); first | (go_simp; done) | (go_simp; with_reducible rfl)
      (try simp only [Act.put, List.setIfInBounds_toArray, List.set_cons_zero, List.set_cons_succ])
      refine wpAnyH_take (i := 30) (oi := { dst := some 44, op := Go.Op.load 9 (Go.Operand.tmp 43), type := 9, pos := _, after := #[{ on := 29, ground := Go.Ground.data }], guard := none }) (v := ?v229) rfl (by kernel_rfl) (by kernel_rfl) (by kernel_rfl) (fun _ _ _ h => h) (Or.inl ⟨by kernel_rfl, ?hy229⟩) (by assumption) ?_
      case hy229 => intro w hSw; (try dsimp only at hSw); first | (go_simp; done) | (go_simp; with_reducible rfl)
      (try simp only [Act.put, List.setIfInBounds_toArray, List.set_cons_zero, List.set_cons_succ])
      refine wpAnyH_take (i := 32) (oi := { dst := some 46, op := Go.Op.move (Go.Operand.tmp 4), type := 35, pos := _, after := #[], guard := none }) (v := ?v230) rfl (by kernel_rfl) (by kernel_rfl) (by kernel_rfl) (fun _ _ _ h => h) (Or.inl ⟨by kernel_rfl, ?hy230⟩) (by assumption) ?_
      case hy230 => intro w hSw; (try dsimp only at hSw); first | (go_simp; done) | (go_simp; with_reducible rfl)
      (try simp only [Act.put, List.setIfInBounds_toArray, List.set_cons_zero, List.set_cons_succ])
      refine wpAnyH_take (i := 33) (oi := { dst := some 47, op := Go.Op.indexAddr 35 (Go.Operand.tmp 46) (Go.Operand.const (Go.Value.int Go.IntKind.i64 21)), type := 0, pos := _, after := #[{ on := 32, ground := Go.Ground.data }], guard := none }) (v := ?v231) rfl (by kernel_rfl) (by kernel_rfl) (by kernel_rfl) (fun _ _ _ h => h) (Or.inl ⟨by kernel_rfl, ?hy231⟩) (by assumption) ?_
      case hy231 => intro w hSw; (try dsimp only at hSw); first | (go_simp; done) | (go_simp; with_reducible rfl)
      (try simp only [Act.put, List.setIfInBounds_toArray, List.set_cons_zero, List.set_cons_succ])
      refine wpAnyH_take (i := 34) (oi := { dst := some 48, op := Go.Op.load 9 (Go.Operand.tmp 47), type := 9, pos := _, after := #[{ on := 33, ground := Go.Ground.data }], guard := none }) (v := ?v232) rfl (by kernel_rfl) (by kernel_rfl) (by kernel_rfl) (fun _ _ _ h => h) (Or.inl ⟨by kernel_rfl, ?hy232⟩) (by assumption) ?_
      case hy232 => intro w hSw; (try dsimp only at hSw); first | (go_simp; done) | (go_simp; with_reducible rfl)
      (try simp only [Act.put, List.setIfInBounds_toArray, List.set_cons_zero, List.set_cons_succ])
      refine wpAnyH_take (i := 36) (oi := { dst := some 50, op := Go.Op.move (Go.Operand.tmp 4), type := 35, pos := _, after := #[], guard := none }) (v := ?v233) rfl (by kernel_rfl) (by kernel_rfl) (by kernel_rfl) (fun _ _ _ h => h) (Or.inl ⟨by kernel_rfl, ?hy233⟩) (by assumption) ?_
      case hy233 => intro w hSw; (try dsimp only at hSw); first | (go_simp; done) | (go_simp; with_reducible rfl)
      (try simp only [Act.put, List.setIfInBounds_toArray, List.set_cons_zero, List.set_cons_succ])
      refine wpAnyH_take (i := 37) (oi := { dst := some 51, op := Go.Op.indexAddr 35 (Go.Operand.tmp 50) (Go.Operand.const (Go.Value.int Go.IntKind.i64 23)), type := 0, pos := _, after := #[{ on := 36, ground := Go.Ground.data }], guard := none }) (v := ?v234) rfl (by kernel_rfl) (by kernel_rfl) (by kernel_rfl) (fun _ _ _ h => h) (Or.inl ⟨by kernel_rfl, ?hy234⟩) (by assumption) ?_
      case hy234 => intro w hSw; (try dsimp only at hSw); first | (go_simp; done) | (go_simp; with_reducible rfl)
      (try simp only [Act.put, List.setIfInBounds_toArray, List.set_cons_zero, List.set_cons_succ])
      refine wpAnyH_take (i := 38) (oi := { dst := some 52, op := Go.Op.load 9 (Go.Operand.tmp 51), type := 9, pos := _, after := #[{ on := 37, ground := Go.Ground.data }], guard := none }) (v := ?v235) rfl (by kernel_rfl) (by kernel_rfl) (by kernel_rfl) (fun _ _ _ h => h) (Or.inl ⟨by kernel_rfl, ?hy235⟩) (by assumption) ?_
      case hy235 => intro w hSw; (try dsimp only at hSw); first | (go_simp; done) | (go_simp; with_reducible rfl)
      (try simp only [Act.put, List.setIfInBounds_toArray, List.set_cons_zero, List.set_cons_succ])
      refine wpAnyH_ready (rs := [3, 41]) (by kernel_rfl) (by simp) ?_
      refine (AllReadyH.cons (o := { dst := some 17, op := Go.Op.call { callee := Go.Callee.value (Go.Operand.func 22), args := #[Go.Operand.tmp 16], argTypes := #[9] }, type := 22, pos := _, after := #[{ on := 2, ground := Go.Ground.data }], guard := none }) rfl (fun K hK => ?b236_3) (AllReadyH.cons (o := { dst := some 5, op := Go.Op.alloc 24, type := 0, pos := _, after := #[], guard := none }) rfl (fun K hK => ?b236_41) AllReadyH.nil))
      case b236_3 =>
        go_simp
        (go_at_call 22; refine (HN1.out _).mono ?_; rintro e v1 ⟨⟨a, c, zs, rfl, hzs, hb⟩, g1⟩; have G1 := Lib.hid (GD.out.trans g1); have B1 : Hid (BufK .i64 3 w2.heap.size v1 a zs.length c zs) := Lib.hid (row_mono hb GD.out.size); have HZS := Lib.hid hzs; clear hzs hb)
        (try go_wp2_with fail)
        refine hK.out _ _ ?hS237 (fun hHeld => ?_)
        case hS237 => (try dsimp only); exact HKW.out _ G1.out
        clear hK K
        (try simp only [Act.put, List.setIfInBounds_toArray, List.set_cons_zero, List.set_cons_succ])
        refine wpAnyH_ready (rs := [7, 41]) (by kernel_rfl) (by simp) ?_
        refine (AllReadyH.cons (o := { dst := some 21, op := Go.Op.call { callee := Go.Callee.value (Go.Operand.func 23), args := #[Go.Operand.tmp 20], argTypes := #[9] }, type := 3, pos := _, after := #[{ on := 6, ground := Go.Ground.data }, { on := 3, ground := Go.Ground.chain }], guard := none }) rfl (fun K hK => ?b238_7) (AllReadyH.cons (o := { dst := some 5, op := Go.Op.alloc 24, type := 0, pos := _, after := #[], guard := none }) rfl (fun K hK => ?b238_41) AllReadyH.nil))
        case b238_7 =>
          go_simp
          (go_at_call 23; refine (HN3.out _).mono ?_; rintro e v2 ⟨rfl, g2⟩; have G2 := Lib.hid (G1.out.trans g2); have B2 := Lib.hid (own_grow B1.out g2))
          (try go_wp2_with fail)
          refine hK.out _ _ ?hS239 (fun hHeld => ?_)
          case hS239 => (try dsimp only); exact HKW.out _ G2.out
          clear hK K
          (try simp only [Act.put, List.setIfInBounds_toArray, List.set_cons_zero, List.set_cons_succ])
          refine wpAnyH_ready (rs := [11, 41]) (by kernel_rfl) (by simp) ?_
          refine (AllReadyH.cons (o := { dst := some 25, op := Go.Op.call { callee := Go.Callee.value (Go.Operand.func 23), args := #[Go.Operand.tmp 24], argTypes := #[9] }, type := 3, pos := _, after := #[{ on := 10, ground := Go.Ground.data }, { on := 7, ground := Go.Ground.chain }], guard := none }) rfl (fun K hK => ?b240_11) (AllReadyH.cons (o := { dst := some 5, op := Go.Op.alloc 24, type := 0, pos := _, after := #[], guard := none }) rfl (fun K hK => ?b240_41) AllReadyH.nil))
          case b240_11 =>
            go_simp
            (go_at_call 23; refine (HN9.out _).mono ?_; rintro e v3 ⟨rfl, g3⟩; have G3 := Lib.hid (G2.out.trans g3); have B3 := Lib.hid (own_grow B2.out g3))
            (try go_wp2_with fail)
            refine hK.out _ _ ?hS241 (fun hHeld => ?_)
            case hS241 => (try dsimp only); exact HKW.out _ G3.out
            clear hK K
            (try simp only [Act.put, List.setIfInBounds_toArray, List.set_cons_zero, List.set_cons_succ])
            refine wpAnyH_ready (rs := [15, 41]) (by kernel_rfl) (by simp) ?_
            refine (AllReadyH.cons (o := { dst := some 29, op := Go.Op.call { callee := Go.Callee.value (Go.Operand.func 23), args := #[Go.Operand.tmp 28], argTypes := #[9] }, type := 3, pos := _, after := #[{ on := 14, ground := Go.Ground.data }, { on := 11, ground := Go.Ground.chain }], guard := none }) rfl (fun K hK => ?b242_15) (AllReadyH.cons (o := { dst := some 5, op := Go.Op.alloc 24, type := 0, pos := _, after := #[], guard := none }) rfl (fun K hK => ?b242_41) AllReadyH.nil))
            case b242_15 =>
              go_simp
              (go_at_call 23; refine (HN11.out _).mono ?_; rintro e v4 ⟨rfl, g4⟩; have G4 := Lib.hid (G3.out.trans g4); have B4 := Lib.hid (own_grow B3.out g4))
              (try go_wp2_with fail)
              refine hK.out _ _ ?hS243 (fun hHeld => ?_)
              case hS243 => (try dsimp only); exact HKW.out _ G4.out
              clear hK K
              (try simp only [Act.put, List.setIfInBounds_toArray, List.set_cons_zero, List.set_cons_succ])
              refine wpAnyH_ready (rs := [19, 41]) (by kernel_rfl) (by simp) ?_
              refine (AllReadyH.cons (o := { dst := some 33, op := Go.Op.call { callee := Go.Callee.value (Go.Operand.func 23), args := #[Go.Operand.tmp 32], argTypes := #[9] }, type := 3, pos := _, after := #[{ on := 18, ground := Go.Ground.data }, { on := 15, ground := Go.Ground.chain }], guard := none }) rfl (fun K hK => ?b244_19) (AllReadyH.cons (o := { dst := some 5, op := Go.Op.alloc 24, type := 0, pos := _, after := #[], guard := none }) rfl (fun K hK => ?b244_41) AllReadyH.nil))
              case b244_19 =>
                go_simp
                (go_at_call 23; refine (HN13.out _).mono ?_; rintro e v5 ⟨rfl, g5⟩; have G5 := Lib.hid (G4.out.trans g5); have B5 := Lib.hid (own_grow B4.out g5))
                (try go_wp2_with fail)
                refine hK.out _ _ ?hS245 (fun hHeld => ?_)
                case hS245 => (try dsimp only); exact HKW.out _ G5.out
                clear hK K
                (try simp only [Act.put, List.setIfInBounds_toArray, List.set_cons_zero, List.set_cons_succ])
                refine wpAnyH_ready (rs := [23, 41]) (by kernel_rfl) (by simp) ?_
                refine (AllReadyH.cons (o := { dst := some 37, op := Go.Op.call { callee := Go.Callee.value (Go.Operand.func 23), args := #[Go.Operand.tmp 36], argTypes := #[9] }, type := 3, pos := _, after := #[{ on := 22, ground := Go.Ground.data }, { on := 19, ground := Go.Ground.chain }], guard := none }) rfl (fun K hK => ?b246_23) (AllReadyH.cons (o := { dst := some 5, op := Go.Op.alloc 24, type := 0, pos := _, after := #[], guard := none }) rfl (fun K hK => ?b246_41) AllReadyH.nil))
                case b246_23 =>
                  go_simp
                  (go_at_call 23; refine (HN15.out _).mono ?_; rintro e v6 ⟨rfl, g6⟩; have G6 := Lib.hid (G5.out.trans g6); have B6 := Lib.hid (own_grow B5.out g6))
                  (try go_wp2_with fail)
                  refine hK.out _ _ ?hS247 (fun hHeld => ?_)
                  case hS247 => (try dsimp only); exact HKW.out _ G6.out
                  clear hK K
                  (try simp only [Act.put, List.setIfInBounds_toArray, List.set_cons_zero, List.set_cons_succ])
                  refine wpAnyH_ready (rs := [27, 41]) (by kernel_rfl) (by simp) ?_
                  refine (AllReadyH.cons (o := { dst := some 41, op := Go.Op.call { callee := Go.Callee.value (Go.Operand.func 23), args := #[Go.Operand.tmp 40], argTypes := #[9] }, type := 3, pos := _, after := #[{ on := 26, ground := Go.Ground.data }, { on := 23, ground := Go.Ground.chain }], guard := none }) rfl (fun K hK => ?b248_27) (AllReadyH.cons (o := { dst := some 5, op := Go.Op.alloc 24, type := 0, pos := _, after := #[], guard := none }) rfl (fun K hK => ?b248_41) AllReadyH.nil))
                  case b248_27 =>
                    go_simp
                    (go_at_call 23; refine (HN17.out _).mono ?_; rintro e v7 ⟨rfl, g7⟩; have G7 := Lib.hid (G6.out.trans g7); have B7 := Lib.hid (own_grow B6.out g7))
                    (try go_wp2_with fail)
                    refine hK.out _ _ ?hS249 (fun hHeld => ?_)
                    case hS249 => (try dsimp only); exact HKW.out _ G7.out
                    clear hK K
                    (try simp only [Act.put, List.setIfInBounds_toArray, List.set_cons_zero, List.set_cons_succ])
                    refine wpAnyH_ready (rs := [31, 41]) (by kernel_rfl) (by simp) ?_
                    refine (AllReadyH.cons (o := { dst := some 45, op := Go.Op.call { callee := Go.Callee.value (Go.Operand.func 23), args := #[Go.Operand.tmp 44], argTypes := #[9] }, type := 3, pos := _, after := #[{ on := 30, ground := Go.Ground.data }, { on := 27, ground := Go.Ground.chain }], guard := none }) rfl (fun K hK => ?b250_31) (AllReadyH.cons (o := { dst := some 5, op := Go.Op.alloc 24, type := 0, pos := _, after := #[], guard := none }) rfl (fun K hK => ?b250_41) AllReadyH.nil))
                    case b250_31 =>
                      go_simp
                      (go_at_call 23; refine (HN19.out _).mono ?_; rintro e v8 ⟨rfl, g8⟩; have G8 := Lib.hid (G7.out.trans g8); have B8 := Lib.hid (own_grow B7.out g8))
                      (try go_wp2_with fail)
                      refine hK.out _ _ ?hS251 (fun hHeld => ?_)
                      case hS251 => (try dsimp only); exact HKW.out _ G8.out
                      clear hK K
                      (try simp only [Act.put, List.setIfInBounds_toArray, List.set_cons_zero, List.set_cons_succ])
                      refine wpAnyH_ready (rs := [35, 41]) (by kernel_rfl) (by simp) ?_
                      refine (AllReadyH.cons (o := { dst := some 49, op := Go.Op.call { callee := Go.Callee.value (Go.Operand.func 23), args := #[Go.Operand.tmp 48], argTypes := #[9] }, type := 3, pos := _, after := #[{ on := 34, ground := Go.Ground.data }, { on := 31, ground := Go.Ground.chain }], guard := none }) rfl (fun K hK => ?b252_35) (AllReadyH.cons (o := { dst := some 5, op := Go.Op.alloc 24, type := 0, pos := _, after := #[], guard := none }) rfl (fun K hK => ?b252_41) AllReadyH.nil))
                      case b252_35 =>
                        go_simp
                        (go_at_call 23; refine (HN21.out _).mono ?_; rintro e v9 ⟨rfl, g9⟩; have G9 := Lib.hid (G8.out.trans g9); have B9 := Lib.hid (own_grow B8.out g9))
                        (try go_wp2_with fail)
                        refine hK.out _ _ ?hS253 (fun hHeld => ?_)
                        case hS253 => (try dsimp only); exact HKW.out _ G9.out
                        clear hK K
                        (try simp only [Act.put, List.setIfInBounds_toArray, List.set_cons_zero, List.set_cons_succ])
                        refine wpAnyH_ready (rs := [39, 41]) (by kernel_rfl) (by simp) ?_
                        refine (AllReadyH.cons (o := { dst := some 53, op := Go.Op.call { callee := Go.Callee.value (Go.Operand.func 23), args := #[Go.Operand.tmp 52], argTypes := #[9] }, type := 3, pos := _, after := #[{ on := 38, ground := Go.Ground.data }, { on := 35, ground := Go.Ground.chain }], guard := none }) rfl (fun K hK => ?b254_39) (AllReadyH.cons (o := { dst := some 5, op := Go.Op.alloc 24, type := 0, pos := _, after := #[], guard := none }) rfl (fun K hK => ?b254_41) AllReadyH.nil))
                        case b254_39 =>
                          go_simp
                          (go_at_call 23; refine (HN23.out _).mono ?_; rintro e v10 ⟨rfl, g10⟩; have G10 := Lib.hid (G9.out.trans g10); have B10 := Lib.hid (own_grow B9.out g10))
                          (try go_wp2_with fail)
                          refine hK.out _ _ ?hS255 (fun hHeld => ?_)
                          case hS255 => (try dsimp only); exact HKW.out _ G10.out
                          clear hK K
                          (try simp only [Act.put, List.setIfInBounds_toArray, List.set_cons_zero, List.set_cons_succ])
                          refine wpAnyH_take (i := 40) (oi := { dst := some 54, op := Go.Op.build 24 #[(0, Go.Operand.tmp 17), (1, Go.Operand.tmp 21), (4, Go.Operand.tmp 25), (5, Go.Operand.tmp 29), (6, Go.Operand.tmp 33), (7, Go.Operand.tmp 37), (8, Go.Operand.tmp 41), (9, Go.Operand.tmp 45), (10, Go.Operand.tmp 49), (11, Go.Operand.tmp 53)], type := 24, pos := _, after := #[{ on := 3, ground := Go.Ground.data }, { on := 7, ground := Go.Ground.data }, { on := 11, ground := Go.Ground.data }, { on := 15, ground := Go.Ground.data }, { on := 19, ground := Go.Ground.data }, { on := 23, ground := Go.Ground.data }, { on := 27, ground := Go.Ground.data }, { on := 31, ground := Go.Ground.data }, { on := 35, ground := Go.Ground.data }, { on := 39, ground := Go.Ground.data }], guard := none }) (v := ?v256) rfl (by kernel_rfl) (by kernel_rfl) (by kernel_rfl) (fun _ _ _ h => h) (Or.inl ⟨by kernel_rfl, ?hy256⟩) (by assumption) ?_
                          case hy256 => intro w hSw; (try dsimp only at hSw); first | (go_simp; done) | (go_simp; with_reducible rfl)
                          (try simp only [Act.put, List.setIfInBounds_toArray, List.set_cons_zero, List.set_cons_succ])
                          refine wpAnyH_ready (rs := [41]) (by kernel_rfl) (by simp) ?_
                          refine AllReadyH.cons (o := { dst := some 5, op := Go.Op.alloc 24, type := 0, pos := _, after := #[], guard := none }) rfl (fun K hK => ?_) AllReadyH.nil
                          go_simp
                          (have gg : Grew v10 (v10.alloc (.cells #[.slice none 0 0, .int .i64 0, .int .i64 0, .int .i64 0, .int .i64 0, .int .i64 0, .int .i64 0, .int .i64 0, .int .i64 0, .int .i64 0, .int .i64 0, .int .i64 0] 24)) := (Grew.refl v10).alloc _; have C11 := Lib.hid (CfM.new v10 none 0 0 zeroC); have G11 := Lib.hid (G10.out.trans gg); have B11 := Lib.hid (own_grow B10.out gg); clear gg; have HCB : Hid (w2.heap.size ≤ v10.heap.size) := Lib.hid G10.out.size)
                          (try go_wp2_with fail)
                          refine hK.out _ _ ?hS258 (fun hHeld => ?_)
                          case hS258 => (try dsimp only); exact HKW.out _ G11.out
                          clear hK K
                          (try simp only [Act.put, List.setIfInBounds_toArray, List.set_cons_zero, List.set_cons_succ])
                          refine wpAnyH_ready (rs := [42]) (by kernel_rfl) (by simp) ?_
                          refine AllReadyH.cons (o := { dst := none, op := Go.Op.store 24 (Go.Operand.tmp 5) (Go.Operand.tmp 54), type := 0, pos := _, after := #[{ on := 41, ground := Go.Ground.data }, { on := 40, ground := Go.Ground.data }, { on := 39, ground := Go.Ground.chain }, { on := 0, ground := Go.Ground.phase }, { on := 1, ground := Go.Ground.phase }, { on := 2, ground := Go.Ground.phase }, { on := 3, ground := Go.Ground.phase }, { on := 4, ground := Go.Ground.phase }, { on := 5, ground := Go.Ground.phase }, { on := 6, ground := Go.Ground.phase }, { on := 7, ground := Go.Ground.phase }, { on := 8, ground := Go.Ground.phase }, { on := 9, ground := Go.Ground.phase }, { on := 10, ground := Go.Ground.phase }, { on := 11, ground := Go.Ground.phase }, { on := 12, ground := Go.Ground.phase }, { on := 13, ground := Go.Ground.phase }, { on := 14, ground := Go.Ground.phase }, { on := 15, ground := Go.Ground.phase }, { on := 16, ground := Go.Ground.phase }, { on := 17, ground := Go.Ground.phase }, { on := 18, ground := Go.Ground.phase }, { on := 19, ground := Go.Ground.phase }, { on := 20, ground := Go.Ground.phase }, { on := 21, ground := Go.Ground.phase }, { on := 22, ground := Go.Ground.phase }, { on := 23, ground := Go.Ground.phase }, { on := 24, ground := Go.Ground.phase }, { on := 25, ground := Go.Ground.phase }, { on := 26, ground := Go.Ground.phase }, { on := 27, ground := Go.Ground.phase }, { on := 28, ground := Go.Ground.phase }, { on := 29, ground := Go.Ground.phase }, { on := 30, ground := Go.Ground.phase }, { on := 31, ground := Go.Ground.phase }, { on := 32, ground := Go.Ground.phase }, { on := 33, ground := Go.Ground.phase }, { on := 34, ground := Go.Ground.phase }, { on := 35, ground := Go.Ground.phase }, { on := 36, ground := Go.Ground.phase }, { on := 37, ground := Go.Ground.phase }, { on := 38, ground := Go.Ground.phase }, { on := 39, ground := Go.Ground.phase }, { on := 40, ground := Go.Ground.phase }, { on := 41, ground := Go.Ground.phase }], guard := none }) rfl (fun K hK => ?_) AllReadyH.nil
                          (refine wp_store_row 24 (.tmp 5) (.tmp 54) rfl (v10.heap.size) #[.slice a zs.length c, .int .i64 x3, .int .i64 0, .int .i64 0, .int .i64 x9, .int .i64 x11, .int .i64 x13, .int .i64 x15, .int .i64 x17, .int .i64 x19, .int .i64 x21, .int .i64 x23] rfl rfl 24 _ C11.out (by kernel_rfl) rfl (by kernel_rfl) ?_; have HGE : Hid (Grew w2 ((v10.alloc (.cells #[.slice none 0 0, .int .i64 0, .int .i64 0, .int .i64 0, .int .i64 0, .int .i64 0, .int .i64 0, .int .i64 0, .int .i64 0, .int .i64 0, .int .i64 0, .int .i64 0] 24)).setRow (v10.heap.size) #[.slice a zs.length c, .int .i64 x3, .int .i64 0, .int .i64 0, .int .i64 x9, .int .i64 x11, .int .i64 x13, .int .i64 x15, .int .i64 x17, .int .i64 x19, .int .i64 x21, .int .i64 x23])) := Lib.hid (below_setRow G11.out HCB.out _))
                          (try go_wp2_with fail)
                          refine hK.out _ _ ?hS260 (fun hHeld => ?_)
                          case hS260 => (try dsimp only); exact HKW.out _ HGE.out
                          clear hK K
                          (try simp only [Act.put, List.setIfInBounds_toArray, List.set_cons_zero, List.set_cons_succ])
                          refine wpAnyH_done (by kernel_rfl) ?_ _
                          have HCE : Hid (CfM ((v10.alloc (.cells #[.slice none 0 0, .int .i64 0, .int .i64 0, .int .i64 0, .int .i64 0, .int .i64 0, .int .i64 0, .int .i64 0, .int .i64 0, .int .i64 0, .int .i64 0, .int .i64 0] 24)).setRow (v10.heap.size) #[.slice a zs.length c, .int .i64 x3, .int .i64 0, .int .i64 0, .int .i64 x9, .int .i64 x11, .int .i64 x13, .int .i64 x15, .int .i64 x17, .int .i64 x19, .int .i64 x21, .int .i64 x23]) (v10.heap.size) a zs.length c ⟨zs, x3, 0, 0, x9, x11, x13, x15, x17, x19, x21, x23⟩) := Lib.hid (setRow_heap _ _ _ _ _ _ C11.out)
                          have HBE : Hid (BufK .i64 3 w2.heap.size ((v10.alloc (.cells #[.slice none 0 0, .int .i64 0, .int .i64 0, .int .i64 0, .int .i64 0, .int .i64 0, .int .i64 0, .int .i64 0, .int .i64 0, .int .i64 0, .int .i64 0, .int .i64 0] 24)).setRow (v10.heap.size) #[.slice a zs.length c, .int .i64 x3, .int .i64 0, .int .i64 0, .int .i64 x9, .int .i64 x11, .int .i64 x13, .int .i64 x15, .int .i64 x17, .int .i64 x19, .int .i64 x21, .int .i64 x23]) a zs.length c zs) := Lib.hid (own_left B11.out (setRow_grown _ _ _) (fun g hg e => by have h := Option.some.inj e; subst h; exact cell_row_ne B11.out C11.out hg))
                          go_wp2
                          go_meet
                          exact ⟨_, a, c, zs, rfl, HCB.out, HZS, HCE, HBE, HGE⟩
                        case b254_41 =>
                          go_simp
                          (have gg : Grew v9 (v9.alloc (.cells #[.slice none 0 0, .int .i64 0, .int .i64 0, .int .i64 0, .int .i64 0, .int .i64 0, .int .i64 0, .int .i64 0, .int .i64 0, .int .i64 0, .int .i64 0, .int .i64 0] 24)) := (Grew.refl v9).alloc _; have C10 := Lib.hid (CfM.new v9 none 0 0 zeroC); have G10 := Lib.hid (G9.out.trans gg); have B10 := Lib.hid (own_grow B9.out gg); clear gg; have HCB : Hid (w2.heap.size ≤ v9.heap.size) := Lib.hid G9.out.size)
                          (try go_wp2_with fail)
                          refine hK.out _ _ ?hS261 (fun hHeld => ?_)
                          case hS261 => (try dsimp only); exact HKW.out _ G10.out
                          clear hK K
                          (try simp only [Act.put, List.setIfInBounds_toArray, List.set_cons_zero, List.set_cons_succ])
                          refine wpAnyH_ready (rs := [39]) (by kernel_rfl) (by simp) ?_
                          refine AllReadyH.cons (o := { dst := some 53, op := Go.Op.call { callee := Go.Callee.value (Go.Operand.func 23), args := #[Go.Operand.tmp 52], argTypes := #[9] }, type := 3, pos := _, after := #[{ on := 38, ground := Go.Ground.data }, { on := 35, ground := Go.Ground.chain }], guard := none }) rfl (fun K hK => ?_) AllReadyH.nil
                          go_simp
                          (go_at_call 23; refine (HN23.out _).mono ?_; rintro e v11 ⟨rfl, g11⟩; have G11 := Lib.hid (G10.out.trans g11); have B11 := Lib.hid (own_grow B10.out g11); have C11 := Lib.hid (C10.out.grow g11))
                          (try go_wp2_with fail)
                          refine hK.out _ _ ?hS263 (fun hHeld => ?_)
                          case hS263 => (try dsimp only); exact HKW.out _ G11.out
                          clear hK K
                          (try simp only [Act.put, List.setIfInBounds_toArray, List.set_cons_zero, List.set_cons_succ])
                          refine wpAnyH_take (i := 40) (oi := { dst := some 54, op := Go.Op.build 24 #[(0, Go.Operand.tmp 17), (1, Go.Operand.tmp 21), (4, Go.Operand.tmp 25), (5, Go.Operand.tmp 29), (6, Go.Operand.tmp 33), (7, Go.Operand.tmp 37), (8, Go.Operand.tmp 41), (9, Go.Operand.tmp 45), (10, Go.Operand.tmp 49), (11, Go.Operand.tmp 53)], type := 24, pos := _, after := #[{ on := 3, ground := Go.Ground.data }, { on := 7, ground := Go.Ground.data }, { on := 11, ground := Go.Ground.data }, { on := 15, ground := Go.Ground.data }, { on := 19, ground := Go.Ground.data }, { on := 23, ground := Go.Ground.data }, { on := 27, ground := Go.Ground.data }, { on := 31, ground := Go.Ground.data }, { on := 35, ground := Go.Ground.data }, { on := 39, ground := Go.Ground.data }], guard := none }) (v := ?v264) rfl (by kernel_rfl) (by kernel_rfl) (by kernel_rfl) (fun _ _ _ h => h) (Or.inl ⟨by kernel_rfl, ?hy264⟩) (by assumption) ?_
                          case hy264 => intro w hSw; (try dsimp only at hSw); first | (go_simp; done) | (go_simp; with_reducible rfl)
                          (try simp only [Act.put, List.setIfInBounds_toArray, List.set_cons_zero, List.set_cons_succ])
                          refine wpAnyH_ready (rs := [42]) (by kernel_rfl) (by simp) ?_
                          refine AllReadyH.cons (o := { dst := none, op := Go.Op.store 24 (Go.Operand.tmp 5) (Go.Operand.tmp 54), type := 0, pos := _, after := #[{ on := 41, ground := Go.Ground.data }, { on := 40, ground := Go.Ground.data }, { on := 39, ground := Go.Ground.chain }, { on := 0, ground := Go.Ground.phase }, { on := 1, ground := Go.Ground.phase }, { on := 2, ground := Go.Ground.phase }, { on := 3, ground := Go.Ground.phase }, { on := 4, ground := Go.Ground.phase }, { on := 5, ground := Go.Ground.phase }, { on := 6, ground := Go.Ground.phase }, { on := 7, ground := Go.Ground.phase }, { on := 8, ground := Go.Ground.phase }, { on := 9, ground := Go.Ground.phase }, { on := 10, ground := Go.Ground.phase }, { on := 11, ground := Go.Ground.phase }, { on := 12, ground := Go.Ground.phase }, { on := 13, ground := Go.Ground.phase }, { on := 14, ground := Go.Ground.phase }, { on := 15, ground := Go.Ground.phase }, { on := 16, ground := Go.Ground.phase }, { on := 17, ground := Go.Ground.phase }, { on := 18, ground := Go.Ground.phase }, { on := 19, ground := Go.Ground.phase }, { on := 20, ground := Go.Ground.phase }, { on := 21, ground := Go.Ground.phase }, { on := 22, ground := Go.Ground.phase }, { on := 23, ground := Go.Ground.phase }, { on := 24, ground := Go.Ground.phase }, { on := 25, ground := Go.Ground.phase }, { on := 26, ground := Go.Ground.phase }, { on := 27, ground := Go.Ground.phase }, { on := 28, ground := Go.Ground.phase }, { on := 29, ground := Go.Ground.phase }, { on := 30, ground := Go.Ground.phase }, { on := 31, ground := Go.Ground.phase }, { on := 32, ground := Go.Ground.phase }, { on := 33, ground := Go.Ground.phase }, { on := 34, ground := Go.Ground.phase }, { on := 35, ground := Go.Ground.phase }, { on := 36, ground := Go.Ground.phase }, { on := 37, ground := Go.Ground.phase }, { on := 38, ground := Go.Ground.phase }, { on := 39, ground := Go.Ground.phase }, { on := 40, ground := Go.Ground.phase }, { on := 41, ground := Go.Ground.phase }], guard := none }) rfl (fun K hK => ?_) AllReadyH.nil
                          (refine wp_store_row 24 (.tmp 5) (.tmp 54) rfl (v9.heap.size) #[.slice a zs.length c, .int .i64 x3, .int .i64 0, .int .i64 0, .int .i64 x9, .int .i64 x11, .int .i64 x13, .int .i64 x15, .int .i64 x17, .int .i64 x19, .int .i64 x21, .int .i64 x23] rfl rfl 24 _ C11.out (by kernel_rfl) rfl (by kernel_rfl) ?_; have HGE : Hid (Grew w2 (v11.setRow (v9.heap.size) #[.slice a zs.length c, .int .i64 x3, .int .i64 0, .int .i64 0, .int .i64 x9, .int .i64 x11, .int .i64 x13, .int .i64 x15, .int .i64 x17, .int .i64 x19, .int .i64 x21, .int .i64 x23])) := Lib.hid (below_setRow G11.out HCB.out _))
                          (try go_wp2_with fail)
                          refine hK.out _ _ ?hS266 (fun hHeld => ?_)
                          case hS266 => (try dsimp only); exact HKW.out _ HGE.out
                          clear hK K
                          (try simp only [Act.put, List.setIfInBounds_toArray, List.set_cons_zero, List.set_cons_succ])
                          refine wpAnyH_done (by kernel_rfl) ?_ _
                          have HCE : Hid (CfM (v11.setRow (v9.heap.size) #[.slice a zs.length c, .int .i64 x3, .int .i64 0, .int .i64 0, .int .i64 x9, .int .i64 x11, .int .i64 x13, .int .i64 x15, .int .i64 x17, .int .i64 x19, .int .i64 x21, .int .i64 x23]) (v9.heap.size) a zs.length c ⟨zs, x3, 0, 0, x9, x11, x13, x15, x17, x19, x21, x23⟩) := Lib.hid (setRow_heap _ _ _ _ _ _ C11.out)
                          have HBE : Hid (BufK .i64 3 w2.heap.size (v11.setRow (v9.heap.size) #[.slice a zs.length c, .int .i64 x3, .int .i64 0, .int .i64 0, .int .i64 x9, .int .i64 x11, .int .i64 x13, .int .i64 x15, .int .i64 x17, .int .i64 x19, .int .i64 x21, .int .i64 x23]) a zs.length c zs) := Lib.hid (own_left B11.out (setRow_grown _ _ _) (fun g hg e => by have h := Option.some.inj e; subst h; exact cell_row_ne B11.out C11.out hg))
                          go_wp2
                          go_meet
                          exact ⟨_, a, c, zs, rfl, HCB.out, HZS, HCE, HBE, HGE⟩
                      case b252_41 =>
                        go_simp
                        (have gg : Grew v8 (v8.alloc (.cells #[.slice none 0 0, .int .i64 0, .int .i64 0, .int .i64 0, .int .i64 0, .int .i64 0, .int .i64 0, .int .i64 0, .int .i64 0, .int .i64 0, .int .i64 0, .int .i64 0] 24)) := (Grew.refl v8).alloc _; have C9 := Lib.hid (CfM.new v8 none 0 0 zeroC); have G9 := Lib.hid (G8.out.trans gg); have B9 := Lib.hid (own_grow B8.out gg); clear gg; have HCB : Hid (w2.heap.size ≤ v8.heap.size) := Lib.hid G8.out.size)
                        (try go_wp2_with fail)
                        refine hK.out _ _ ?hS267 (fun hHeld => ?_)
                        case hS267 => (try dsimp only); exact HKW.out _ G9.out
                        clear hK K
                        (try simp only [Act.put, List.setIfInBounds_toArray, List.set_cons_zero, List.set_cons_succ])
                        refine wpAnyH_ready (rs := [35]) (by kernel_rfl) (by simp) ?_
                        refine AllReadyH.cons (o := { dst := some 49, op := Go.Op.call { callee := Go.Callee.value (Go.Operand.func 23), args := #[Go.Operand.tmp 48], argTypes := #[9] }, type := 3, pos := _, after := #[{ on := 34, ground := Go.Ground.data }, { on := 31, ground := Go.Ground.chain }], guard := none }) rfl (fun K hK => ?_) AllReadyH.nil
                        go_simp
                        (go_at_call 23; refine (HN21.out _).mono ?_; rintro e v10 ⟨rfl, g10⟩; have G10 := Lib.hid (G9.out.trans g10); have B10 := Lib.hid (own_grow B9.out g10); have C10 := Lib.hid (C9.out.grow g10))
                        (try go_wp2_with fail)
                        refine hK.out _ _ ?hS269 (fun hHeld => ?_)
                        case hS269 => (try dsimp only); exact HKW.out _ G10.out
                        clear hK K
                        (try simp only [Act.put, List.setIfInBounds_toArray, List.set_cons_zero, List.set_cons_succ])
                        refine wpAnyH_ready (rs := [39]) (by kernel_rfl) (by simp) ?_
                        refine AllReadyH.cons (o := { dst := some 53, op := Go.Op.call { callee := Go.Callee.value (Go.Operand.func 23), args := #[Go.Operand.tmp 52], argTypes := #[9] }, type := 3, pos := _, after := #[{ on := 38, ground := Go.Ground.data }, { on := 35, ground := Go.Ground.chain }], guard := none }) rfl (fun K hK => ?_) AllReadyH.nil
                        go_simp
                        (go_at_call 23; refine (HN23.out _).mono ?_; rintro e v11 ⟨rfl, g11⟩; have G11 := Lib.hid (G10.out.trans g11); have B11 := Lib.hid (own_grow B10.out g11); have C11 := Lib.hid (C10.out.grow g11))
                        (try go_wp2_with fail)
                        refine hK.out _ _ ?hS271 (fun hHeld => ?_)
                        case hS271 => (try dsimp only); exact HKW.out _ G11.out
                        clear hK K
                        (try simp only [Act.put, List.setIfInBounds_toArray, List.set_cons_zero, List.set_cons_succ])
                        refine wpAnyH_take (i := 40) (oi := { dst := some 54, op := Go.Op.build 24 #[(0, Go.Operand.tmp 17), (1, Go.Operand.tmp 21), (4, Go.Operand.tmp 25), (5, Go.Operand.tmp 29), (6, Go.Operand.tmp 33), (7, Go.Operand.tmp 37), (8, Go.Operand.tmp 41), (9, Go.Operand.tmp 45), (10, Go.Operand.tmp 49), (11, Go.Operand.tmp 53)], type := 24, pos := _, after := #[{ on := 3, ground := Go.Ground.data }, { on := 7, ground := Go.Ground.data }, { on := 11, ground := Go.Ground.data }, { on := 15, ground := Go.Ground.data }, { on := 19, ground := Go.Ground.data }, { on := 23, ground := Go.Ground.data }, { on := 27, ground := Go.Ground.data }, { on := 31, ground := Go.Ground.data }, { on := 35, ground := Go.Ground.data }, { on := 39, ground := Go.Ground.data }], guard := none }) (v := ?v272) rfl (by kernel_rfl) (by kernel_rfl) (by kernel_rfl) (fun _ _ _ h => h) (Or.inl ⟨by kernel_rfl, ?hy272⟩) (by assumption) ?_
                        case hy272 => intro w hSw; (try dsimp only at hSw); first | (go_simp; done) | (go_simp; with_reducible rfl)
                        (try simp only [Act.put, List.setIfInBounds_toArray, List.set_cons_zero, List.set_cons_succ])
                        refine wpAnyH_ready (rs := [42]) (by kernel_rfl) (by simp) ?_
                        refine AllReadyH.cons (o := { dst := none, op := Go.Op.store 24 (Go.Operand.tmp 5) (Go.Operand.tmp 54), type := 0, pos := _, after := #[{ on := 41, ground := Go.Ground.data }, { on := 40, ground := Go.Ground.data }, { on := 39, ground := Go.Ground.chain }, { on := 0, ground := Go.Ground.phase }, { on := 1, ground := Go.Ground.phase }, { on := 2, ground := Go.Ground.phase }, { on := 3, ground := Go.Ground.phase }, { on := 4, ground := Go.Ground.phase }, { on := 5, ground := Go.Ground.phase }, { on := 6, ground := Go.Ground.phase }, { on := 7, ground := Go.Ground.phase }, { on := 8, ground := Go.Ground.phase }, { on := 9, ground := Go.Ground.phase }, { on := 10, ground := Go.Ground.phase }, { on := 11, ground := Go.Ground.phase }, { on := 12, ground := Go.Ground.phase }, { on := 13, ground := Go.Ground.phase }, { on := 14, ground := Go.Ground.phase }, { on := 15, ground := Go.Ground.phase }, { on := 16, ground := Go.Ground.phase }, { on := 17, ground := Go.Ground.phase }, { on := 18, ground := Go.Ground.phase }, { on := 19, ground := Go.Ground.phase }, { on := 20, ground := Go.Ground.phase }, { on := 21, ground := Go.Ground.phase }, { on := 22, ground := Go.Ground.phase }, { on := 23, ground := Go.Ground.phase }, { on := 24, ground := Go.Ground.phase }, { on := 25, ground := Go.Ground.phase }, { on := 26, ground := Go.Ground.phase }, { on := 27, ground := Go.Ground.phase }, { on := 28, ground := Go.Ground.phase }, { on := 29, ground := Go.Ground.phase }, { on := 30, ground := Go.Ground.phase }, { on := 31, ground := Go.Ground.phase }, { on := 32, ground := Go.Ground.phase }, { on := 33, ground := Go.Ground.phase }, { on := 34, ground := Go.Ground.phase }, { on := 35, ground := Go.Ground.phase }, { on := 36, ground := Go.Ground.phase }, { on := 37, ground := Go.Ground.phase }, { on := 38, ground := Go.Ground.phase }, { on := 39, ground := Go.Ground.phase }, { on := 40, ground := Go.Ground.phase }, { on := 41, ground := Go.Ground.phase }], guard := none }) rfl (fun K hK => ?_) AllReadyH.nil
                        (refine wp_store_row 24 (.tmp 5) (.tmp 54) rfl (v8.heap.size) #[.slice a zs.length c, .int .i64 x3, .int .i64 0, .int .i64 0, .int .i64 x9, .int .i64 x11, .int .i64 x13, .int .i64 x15, .int .i64 x17, .int .i64 x19, .int .i64 x21, .int .i64 x23] rfl rfl 24 _ C11.out (by kernel_rfl) rfl (by kernel_rfl) ?_; have HGE : Hid (Grew w2 (v11.setRow (v8.heap.size) #[.slice a zs.length c, .int .i64 x3, .int .i64 0, .int .i64 0, .int .i64 x9, .int .i64 x11, .int .i64 x13, .int .i64 x15, .int .i64 x17, .int .i64 x19, .int .i64 x21, .int .i64 x23])) := Lib.hid (below_setRow G11.out HCB.out _))
                        (try go_wp2_with fail)
                        refine hK.out _ _ ?hS274 (fun hHeld => ?_)
                        case hS274 => (try dsimp only); exact HKW.out _ HGE.out
                        clear hK K
                        (try simp only [Act.put, List.setIfInBounds_toArray, List.set_cons_zero, List.set_cons_succ])
                        refine wpAnyH_done (by kernel_rfl) ?_ _
                        have HCE : Hid (CfM (v11.setRow (v8.heap.size) #[.slice a zs.length c, .int .i64 x3, .int .i64 0, .int .i64 0, .int .i64 x9, .int .i64 x11, .int .i64 x13, .int .i64 x15, .int .i64 x17, .int .i64 x19, .int .i64 x21, .int .i64 x23]) (v8.heap.size) a zs.length c ⟨zs, x3, 0, 0, x9, x11, x13, x15, x17, x19, x21, x23⟩) := Lib.hid (setRow_heap _ _ _ _ _ _ C11.out)
                        have HBE : Hid (BufK .i64 3 w2.heap.size (v11.setRow (v8.heap.size) #[.slice a zs.length c, .int .i64 x3, .int .i64 0, .int .i64 0, .int .i64 x9, .int .i64 x11, .int .i64 x13, .int .i64 x15, .int .i64 x17, .int .i64 x19, .int .i64 x21, .int .i64 x23]) a zs.length c zs) := Lib.hid (own_left B11.out (setRow_grown _ _ _) (fun g hg e => by have h := Option.some.inj e; subst h; exact cell_row_ne B11.out C11.out hg))
                        go_wp2
                        go_meet
                        exact ⟨_, a, c, zs, rfl, HCB.out, HZS, HCE, HBE, HGE⟩
                    case b250_41 =>
                      go_simp
                      (have gg : Grew v7 (v7.alloc (.cells #[.slice none 0 0, .int .i64 0, .int .i64 0, .int .i64 0, .int .i64 0, .int .i64 0, .int .i64 0, .int .i64 0, .int .i64 0, .int .i64 0, .int .i64 0, .int .i64 0] 24)) := (Grew.refl v7).alloc _; have C8 := Lib.hid (CfM.new v7 none 0 0 zeroC); have G8 := Lib.hid (G7.out.trans gg); have B8 := Lib.hid (own_grow B7.out gg); clear gg; have HCB : Hid (w2.heap.size ≤ v7.heap.size) := Lib.hid G7.out.size)
                      (try go_wp2_with fail)
                      refine hK.out _ _ ?hS275 (fun hHeld => ?_)
                      case hS275 => (try dsimp only); exact HKW.out _ G8.out
                      clear hK K
                      (try simp only [Act.put, List.setIfInBounds_toArray, List.set_cons_zero, List.set_cons_succ])
                      refine wpAnyH_ready (rs := [31]) (by kernel_rfl) (by simp) ?_
                      refine AllReadyH.cons (o := { dst := some 45, op := Go.Op.call { callee := Go.Callee.value (Go.Operand.func 23), args := #[Go.Operand.tmp 44], argTypes := #[9] }, type := 3, pos := _, after := #[{ on := 30, ground := Go.Ground.data }, { on := 27, ground := Go.Ground.chain }], guard := none }) rfl (fun K hK => ?_) AllReadyH.nil
                      go_simp
                      (go_at_call 23; refine (HN19.out _).mono ?_; rintro e v9 ⟨rfl, g9⟩; have G9 := Lib.hid (G8.out.trans g9); have B9 := Lib.hid (own_grow B8.out g9); have C9 := Lib.hid (C8.out.grow g9))
                      (try go_wp2_with fail)
                      refine hK.out _ _ ?hS277 (fun hHeld => ?_)
                      case hS277 => (try dsimp only); exact HKW.out _ G9.out
                      clear hK K
                      (try simp only [Act.put, List.setIfInBounds_toArray, List.set_cons_zero, List.set_cons_succ])
                      refine wpAnyH_ready (rs := [35]) (by kernel_rfl) (by simp) ?_
                      refine AllReadyH.cons (o := { dst := some 49, op := Go.Op.call { callee := Go.Callee.value (Go.Operand.func 23), args := #[Go.Operand.tmp 48], argTypes := #[9] }, type := 3, pos := _, after := #[{ on := 34, ground := Go.Ground.data }, { on := 31, ground := Go.Ground.chain }], guard := none }) rfl (fun K hK => ?_) AllReadyH.nil
                      go_simp
                      (go_at_call 23; refine (HN21.out _).mono ?_; rintro e v10 ⟨rfl, g10⟩; have G10 := Lib.hid (G9.out.trans g10); have B10 := Lib.hid (own_grow B9.out g10); have C10 := Lib.hid (C9.out.grow g10))
                      (try go_wp2_with fail)
                      refine hK.out _ _ ?hS279 (fun hHeld => ?_)
                      case hS279 => (try dsimp only); exact HKW.out _ G10.out
                      clear hK K
                      (try simp only [Act.put, List.setIfInBounds_toArray, List.set_cons_zero, List.set_cons_succ])
                      refine wpAnyH_ready (rs := [39]) (by kernel_rfl) (by simp) ?_
                      refine AllReadyH.cons (o := { dst := some 53, op := Go.Op.call { callee := Go.Callee.value (Go.Operand.func 23), args := #[Go.Operand.tmp 52], argTypes := #[9] }, type := 3, pos := _, after := #[{ on := 38, ground := Go.Ground.data }, { on := 35, ground := Go.Ground.chain }], guard := none }) rfl (fun K hK => ?_) AllReadyH.nil
                      go_simp
                      (go_at_call 23; refine (HN23.out _).mono ?_; rintro e v11 ⟨rfl, g11⟩; have G11 := Lib.hid (G10.out.trans g11); have B11 := Lib.hid (own_grow B10.out g11); have C11 := Lib.hid (C10.out.grow g11))
                      (try go_wp2_with fail)
                      refine hK.out _ _ ?hS281 (fun hHeld => ?_)
                      case hS281 => (try dsimp only); exact HKW.out _ G11.out
                      clear hK K
                      (try simp only [Act.put, List.setIfInBounds_toArray, List.set_cons_zero, List.set_cons_succ])
                      refine wpAnyH_take (i := 40) (oi := { dst := some 54, op := Go.Op.build 24 #[(0, Go.Operand.tmp 17), (1, Go.Operand.tmp 21), (4, Go.Operand.tmp 25), (5, Go.Operand.tmp 29), (6, Go.Operand.tmp 33), (7, Go.Operand.tmp 37), (8, Go.Operand.tmp 41), (9, Go.Operand.tmp 45), (10, Go.Operand.tmp 49), (11, Go.Operand.tmp 53)], type := 24, pos := _, after := #[{ on := 3, ground := Go.Ground.data }, { on := 7, ground := Go.Ground.data }, { on := 11, ground := Go.Ground.data }, { on := 15, ground := Go.Ground.data }, { on := 19, ground := Go.Ground.data }, { on := 23, ground := Go.Ground.data }, { on := 27, ground := Go.Ground.data }, { on := 31, ground := Go.Ground.data }, { on := 35, ground := Go.Ground.data }, { on := 39, ground := Go.Ground.data }], guard := none }) (v := ?v282) rfl (by kernel_rfl) (by kernel_rfl) (by kernel_rfl) (fun _ _ _ h => h) (Or.inl ⟨by kernel_rfl, ?hy282⟩) (by assumption) ?_
                      case hy282 => intro w hSw; (try dsimp only at hSw); first | (go_simp; done) | (go_simp; with_reducible rfl)
                      (try simp only [Act.put, List.setIfInBounds_toArray, List.set_cons_zero, List.set_cons_succ])
                      refine wpAnyH_ready (rs := [42]) (by kernel_rfl) (by simp) ?_
                      refine AllReadyH.cons (o := { dst := none, op := Go.Op.store 24 (Go.Operand.tmp 5) (Go.Operand.tmp 54), type := 0, pos := _, after := #[{ on := 41, ground := Go.Ground.data }, { on := 40, ground := Go.Ground.data }, { on := 39, ground := Go.Ground.chain }, { on := 0, ground := Go.Ground.phase }, { on := 1, ground := Go.Ground.phase }, { on := 2, ground := Go.Ground.phase }, { on := 3, ground := Go.Ground.phase }, { on := 4, ground := Go.Ground.phase }, { on := 5, ground := Go.Ground.phase }, { on := 6, ground := Go.Ground.phase }, { on := 7, ground := Go.Ground.phase }, { on := 8, ground := Go.Ground.phase }, { on := 9, ground := Go.Ground.phase }, { on := 10, ground := Go.Ground.phase }, { on := 11, ground := Go.Ground.phase }, { on := 12, ground := Go.Ground.phase }, { on := 13, ground := Go.Ground.phase }, { on := 14, ground := Go.Ground.phase }, { on := 15, ground := Go.Ground.phase }, { on := 16, ground := Go.Ground.phase }, { on := 17, ground := Go.Ground.phase }, { on := 18, ground := Go.Ground.phase }, { on := 19, ground := Go.Ground.phase }, { on := 20, ground := Go.Ground.phase }, { on := 21, ground := Go.Ground.phase }, { on := 22, ground := Go.Ground.phase }, { on := 23, ground := Go.Ground.phase }, { on := 24, ground := Go.Ground.phase }, { on := 25, ground := Go.Ground.phase }, { on := 26, ground := Go.Ground.phase }, { on := 27, ground := Go.Ground.phase }, { on := 28, ground := Go.Ground.phase }, { on := 29, ground := Go.Ground.phase }, { on := 30, ground := Go.Ground.phase }, { on := 31, ground := Go.Ground.phase }, { on := 32, ground := Go.Ground.phase }, { on := 33, ground := Go.Ground.phase }, { on := 34, ground := Go.Ground.phase }, { on := 35, ground := Go.Ground.phase }, { on := 36, ground := Go.Ground.phase }, { on := 37, ground := Go.Ground.phase }, { on := 38, ground := Go.Ground.phase }, { on := 39, ground := Go.Ground.phase }, { on := 40, ground := Go.Ground.phase }, { on := 41, ground := Go.Ground.phase }], guard := none }) rfl (fun K hK => ?_) AllReadyH.nil
                      (refine wp_store_row 24 (.tmp 5) (.tmp 54) rfl (v7.heap.size) #[.slice a zs.length c, .int .i64 x3, .int .i64 0, .int .i64 0, .int .i64 x9, .int .i64 x11, .int .i64 x13, .int .i64 x15, .int .i64 x17, .int .i64 x19, .int .i64 x21, .int .i64 x23] rfl rfl 24 _ C11.out (by kernel_rfl) rfl (by kernel_rfl) ?_; have HGE : Hid (Grew w2 (v11.setRow (v7.heap.size) #[.slice a zs.length c, .int .i64 x3, .int .i64 0, .int .i64 0, .int .i64 x9, .int .i64 x11, .int .i64 x13, .int .i64 x15, .int .i64 x17, .int .i64 x19, .int .i64 x21, .int .i64 x23])) := Lib.hid (below_setRow G11.out HCB.out _))
                      (try go_wp2_with fail)
                      refine hK.out _ _ ?hS284 (fun hHeld => ?_)
                      case hS284 => (try dsimp only); exact HKW.out _ HGE.out
                      clear hK K
                      (try simp only [Act.put, List.setIfInBounds_toArray, List.set_cons_zero, List.set_cons_succ])
                      refine wpAnyH_done (by kernel_rfl) ?_ _
                      have HCE : Hid (CfM (v11.setRow (v7.heap.size) #[.slice a zs.length c, .int .i64 x3, .int .i64 0, .int .i64 0, .int .i64 x9, .int .i64 x11, .int .i64 x13, .int .i64 x15, .int .i64 x17, .int .i64 x19, .int .i64 x21, .int .i64 x23]) (v7.heap.size) a zs.length c ⟨zs, x3, 0, 0, x9, x11, x13, x15, x17, x19, x21, x23⟩) := Lib.hid (setRow_heap _ _ _ _ _ _ C11.out)
                      have HBE : Hid (BufK .i64 3 w2.heap.size (v11.setRow (v7.heap.size) #[.slice a zs.length c, .int .i64 x3, .int .i64 0, .int .i64 0, .int .i64 x9, .int .i64 x11, .int .i64 x13, .int .i64 x15, .int .i64 x17, .int .i64 x19, .int .i64 x21, .int .i64 x23]) a zs.length c zs) := Lib.hid (own_left B11.out (setRow_grown _ _ _) (fun g hg e => by have h := Option.some.inj e; subst h; exact cell_row_ne B11.out C11.out hg))
                      go_wp2
                      go_meet
                      exact ⟨_, a, c, zs, rfl, HCB.out, HZS, HCE, HBE, HGE⟩
                  case b248_41 =>
                    go_simp
                    (have gg : Grew v6 (v6.alloc (.cells #[.slice none 0 0, .int .i64 0, .int .i64 0, .int .i64 0, .int .i64 0, .int .i64 0, .int .i64 0, .int .i64 0, .int .i64 0, .int .i64 0, .int .i64 0, .int .i64 0] 24)) := (Grew.refl v6).alloc _; have C7 := Lib.hid (CfM.new v6 none 0 0 zeroC); have G7 := Lib.hid (G6.out.trans gg); have B7 := Lib.hid (own_grow B6.out gg); clear gg; have HCB : Hid (w2.heap.size ≤ v6.heap.size) := Lib.hid G6.out.size)
                    (try go_wp2_with fail)
                    refine hK.out _ _ ?hS285 (fun hHeld => ?_)
                    case hS285 => (try dsimp only); exact HKW.out _ G7.out
                    clear hK K
                    (try simp only [Act.put, List.setIfInBounds_toArray, List.set_cons_zero, List.set_cons_succ])
                    refine wpAnyH_ready (rs := [27]) (by kernel_rfl) (by simp) ?_
                    refine AllReadyH.cons (o := { dst := some 41, op := Go.Op.call { callee := Go.Callee.value (Go.Operand.func 23), args := #[Go.Operand.tmp 40], argTypes := #[9] }, type := 3, pos := _, after := #[{ on := 26, ground := Go.Ground.data }, { on := 23, ground := Go.Ground.chain }], guard := none }) rfl (fun K hK => ?_) AllReadyH.nil
                    go_simp
                    (go_at_call 23; refine (HN17.out _).mono ?_; rintro e v8 ⟨rfl, g8⟩; have G8 := Lib.hid (G7.out.trans g8); have B8 := Lib.hid (own_grow B7.out g8); have C8 := Lib.hid (C7.out.grow g8))
                    (try go_wp2_with fail)
                    refine hK.out _ _ ?hS287 (fun hHeld => ?_)
                    case hS287 => (try dsimp only); exact HKW.out _ G8.out
                    clear hK K
                    (try simp only [Act.put, List.setIfInBounds_toArray, List.set_cons_zero, List.set_cons_succ])
                    refine wpAnyH_ready (rs := [31]) (by kernel_rfl) (by simp) ?_
                    refine AllReadyH.cons (o := { dst := some 45, op := Go.Op.call { callee := Go.Callee.value (Go.Operand.func 23), args := #[Go.Operand.tmp 44], argTypes := #[9] }, type := 3, pos := _, after := #[{ on := 30, ground := Go.Ground.data }, { on := 27, ground := Go.Ground.chain }], guard := none }) rfl (fun K hK => ?_) AllReadyH.nil
                    go_simp
                    (go_at_call 23; refine (HN19.out _).mono ?_; rintro e v9 ⟨rfl, g9⟩; have G9 := Lib.hid (G8.out.trans g9); have B9 := Lib.hid (own_grow B8.out g9); have C9 := Lib.hid (C8.out.grow g9))
                    (try go_wp2_with fail)
                    refine hK.out _ _ ?hS289 (fun hHeld => ?_)
                    case hS289 => (try dsimp only); exact HKW.out _ G9.out
                    clear hK K
                    (try simp only [Act.put, List.setIfInBounds_toArray, List.set_cons_zero, List.set_cons_succ])
                    refine wpAnyH_ready (rs := [35]) (by kernel_rfl) (by simp) ?_
                    refine AllReadyH.cons (o := { dst := some 49, op := Go.Op.call { callee := Go.Callee.value (Go.Operand.func 23), args := #[Go.Operand.tmp 48], argTypes := #[9] }, type := 3, pos := _, after := #[{ on := 34, ground := Go.Ground.data }, { on := 31, ground := Go.Ground.chain }], guard := none }) rfl (fun K hK => ?_) AllReadyH.nil
                    go_simp
                    (go_at_call 23; refine (HN21.out _).mono ?_; rintro e v10 ⟨rfl, g10⟩; have G10 := Lib.hid (G9.out.trans g10); have B10 := Lib.hid (own_grow B9.out g10); have C10 := Lib.hid (C9.out.grow g10))
                    (try go_wp2_with fail)
                    refine hK.out _ _ ?hS291 (fun hHeld => ?_)
                    case hS291 => (try dsimp only); exact HKW.out _ G10.out
                    clear hK K
                    (try simp only [Act.put, List.setIfInBounds_toArray, List.set_cons_zero, List.set_cons_succ])
                    refine wpAnyH_ready (rs := [39]) (by kernel_rfl) (by simp) ?_
                    refine AllReadyH.cons (o := { dst := some 53, op := Go.Op.call { callee := Go.Callee.value (Go.Operand.func 23), args := #[Go.Operand.tmp 52], argTypes := #[9] }, type := 3, pos := _, after := #[{ on := 38, ground := Go.Ground.data }, { on := 35, ground := Go.Ground.chain }], guard := none }) rfl (fun K hK => ?_) AllReadyH.nil
                    go_simp
                    (go_at_call 23; refine (HN23.out _).mono ?_; rintro e v11 ⟨rfl, g11⟩; have G11 := Lib.hid (G10.out.trans g11); have B11 := Lib.hid (own_grow B10.out g11); have C11 := Lib.hid (C10.out.grow g11))
                    (try go_wp2_with fail)
                    refine hK.out _ _ ?hS293 (fun hHeld => ?_)
                    case hS293 => (try dsimp only); exact HKW.out _ G11.out
                    clear hK K
                    (try simp only [Act.put, List.setIfInBounds_toArray, List.set_cons_zero, List.set_cons_succ])
                    refine wpAnyH_take (i := 40) (oi := { dst := some 54, op := Go.Op.build 24 #[(0, Go.Operand.tmp 17), (1, Go.Operand.tmp 21), (4, Go.Operand.tmp 25), (5, Go.Operand.tmp 29), (6, Go.Operand.tmp 33), (7, Go.Operand.tmp 37), (8, Go.Operand.tmp 41), (9, Go.Operand.tmp 45), (10, Go.Operand.tmp 49), (11, Go.Operand.tmp 53)], type := 24, pos := _, after := #[{ on := 3, ground := Go.Ground.data }, { on := 7, ground := Go.Ground.data }, { on := 11, ground := Go.Ground.data }, { on := 15, ground := Go.Ground.data }, { on := 19, ground := Go.Ground.data }, { on := 23, ground := Go.Ground.data }, { on := 27, ground := Go.Ground.data }, { on := 31, ground := Go.Ground.data }, { on := 35, ground := Go.Ground.data }, { on := 39, ground := Go.Ground.data }], guard := none }) (v := ?v294) rfl (by kernel_rfl) (by kernel_rfl) (by kernel_rfl) (fun _ _ _ h => h) (Or.inl ⟨by kernel_rfl, ?hy294⟩) (by assumption) ?_
                    case hy294 => intro w hSw; (try dsimp only at hSw); first | (go_simp; done) | (go_simp; with_reducible rfl)
                    (try simp only [Act.put, List.setIfInBounds_toArray, List.set_cons_zero, List.set_cons_succ])
                    refine wpAnyH_ready (rs := [42]) (by kernel_rfl) (by simp) ?_
                    refine AllReadyH.cons (o := { dst := none, op := Go.Op.store 24 (Go.Operand.tmp 5) (Go.Operand.tmp 54), type := 0, pos := _, after := #[{ on := 41, ground := Go.Ground.data }, { on := 40, ground := Go.Ground.data }, { on := 39, ground := Go.Ground.chain }, { on := 0, ground := Go.Ground.phase }, { on := 1, ground := Go.Ground.phase }, { on := 2, ground := Go.Ground.phase }, { on := 3, ground := Go.Ground.phase }, { on := 4, ground := Go.Ground.phase }, { on := 5, ground := Go.Ground.phase }, { on := 6, ground := Go.Ground.phase }, { on := 7, ground := Go.Ground.phase }, { on := 8, ground := Go.Ground.phase }, { on := 9, ground := Go.Ground.phase }, { on := 10, ground := Go.Ground.phase }, { on := 11, ground := Go.Ground.phase }, { on := 12, ground := Go.Ground.phase }, { on := 13, ground := Go.Ground.phase }, { on := 14, ground := Go.Ground.phase }, { on := 15, ground := Go.Ground.phase }, { on := 16, ground := Go.Ground.phase }, { on := 17, ground := Go.Ground.phase }, { on := 18, ground := Go.Ground.phase }, { on := 19, ground := Go.Ground.phase }, { on := 20, ground := Go.Ground.phase }, { on := 21, ground := Go.Ground.phase }, { on := 22, ground := Go.Ground.phase }, { on := 23, ground := Go.Ground.phase }, { on := 24, ground := Go.Ground.phase }, { on := 25, ground := Go.Ground.phase }, { on := 26, ground := Go.Ground.phase }, { on := 27, ground := Go.Ground.phase }, { on := 28, ground := Go.Ground.phase }, { on := 29, ground := Go.Ground.phase }, { on := 30, ground := Go.Ground.phase }, { on := 31, ground := Go.Ground.phase }, { on := 32, ground := Go.Ground.phase }, { on := 33, ground := Go.Ground.phase }, { on := 34, ground := Go.Ground.phase }, { on := 35, ground := Go.Ground.phase }, { on := 36, ground := Go.Ground.phase }, { on := 37, ground := Go.Ground.phase }, { on := 38, ground := Go.Ground.phase }, { on := 39, ground := Go.Ground.phase }, { on := 40, ground := Go.Ground.phase }, { on := 41, ground := Go.Ground.phase }], guard := none }) rfl (fun K hK => ?_) AllReadyH.nil
                    (refine wp_store_row 24 (.tmp 5) (.tmp 54) rfl (v6.heap.size) #[.slice a zs.length c, .int .i64 x3, .int .i64 0, .int .i64 0, .int .i64 x9, .int .i64 x11, .int .i64 x13, .int .i64 x15, .int .i64 x17, .int .i64 x19, .int .i64 x21, .int .i64 x23] rfl rfl 24 _ C11.out (by kernel_rfl) rfl (by kernel_rfl) ?_; have HGE : Hid (Grew w2 (v11.setRow (v6.heap.size) #[.slice a zs.length c, .int .i64 x3, .int .i64 0, .int .i64 0, .int .i64 x9, .int .i64 x11, .int .i64 x13, .int .i64 x15, .int .i64 x17, .int .i64 x19, .int .i64 x21, .int .i64 x23])) := Lib.hid (below_setRow G11.out HCB.out _))
                    (try go_wp2_with fail)
                    refine hK.out _ _ ?hS296 (fun hHeld => ?_)
                    case hS296 => (try dsimp only); exact HKW.out _ HGE.out
                    clear hK K
                    (try simp only [Act.put, List.setIfInBounds_toArray, List.set_cons_zero, List.set_cons_succ])
                    refine wpAnyH_done (by kernel_rfl) ?_ _
                    have HCE : Hid (CfM (v11.setRow (v6.heap.size) #[.slice a zs.length c, .int .i64 x3, .int .i64 0, .int .i64 0, .int .i64 x9, .int .i64 x11, .int .i64 x13, .int .i64 x15, .int .i64 x17, .int .i64 x19, .int .i64 x21, .int .i64 x23]) (v6.heap.size) a zs.length c ⟨zs, x3, 0, 0, x9, x11, x13, x15, x17, x19, x21, x23⟩) := Lib.hid (setRow_heap _ _ _ _ _ _ C11.out)
                    have HBE : Hid (BufK .i64 3 w2.heap.size (v11.setRow (v6.heap.size) #[.slice a zs.length c, .int .i64 x3, .int .i64 0, .int .i64 0, .int .i64 x9, .int .i64 x11, .int .i64 x13, .int .i64 x15, .int .i64 x17, .int .i64 x19, .int .i64 x21, .int .i64 x23]) a zs.length c zs) := Lib.hid (own_left B11.out (setRow_grown _ _ _) (fun g hg e => by have h := Option.some.inj e; subst h; exact cell_row_ne B11.out C11.out hg))
                    go_wp2
                    go_meet
                    exact ⟨_, a, c, zs, rfl, HCB.out, HZS, HCE, HBE, HGE⟩
                case b246_41 =>
                  go_simp
                  (have gg : Grew v5 (v5.alloc (.cells #[.slice none 0 0, .int .i64 0, .int .i64 0, .int .i64 0, .int .i64 0, .int .i64 0, .int .i64 0, .int .i64 0, .int .i64 0, .int .i64 0, .int .i64 0, .int .i64 0] 24)) := (Grew.refl v5).alloc _; have C6 := Lib.hid (CfM.new v5 none 0 0 zeroC); have G6 := Lib.hid (G5.out.trans gg); have B6 := Lib.hid (own_grow B5.out gg); clear gg; have HCB : Hid (w2.heap.size ≤ v5.heap.size) := Lib.hid G5.out.size)
                  (try go_wp2_with fail)
                  refine hK.out _ _ ?hS297 (fun hHeld => ?_)
                  case hS297 => (try dsimp only); exact HKW.out _ G6.out
                  clear hK K
                  (try simp only [Act.put, List.setIfInBounds_toArray, List.set_cons_zero, List.set_cons_succ])
                  refine wpAnyH_ready (rs := [23]) (by kernel_rfl) (by simp) ?_
                  refine AllReadyH.cons (o := { dst := some 37, op := Go.Op.call { callee := Go.Callee.value (Go.Operand.func 23), args := #[Go.Operand.tmp 36], argTypes := #[9] }, type := 3, pos := _, after := #[{ on := 22, ground := Go.Ground.data }, { on := 19, ground := Go.Ground.chain }], guard := none }) rfl (fun K hK => ?_) AllReadyH.nil
                  go_simp
                  (go_at_call 23; refine (HN15.out _).mono ?_; rintro e v7 ⟨rfl, g7⟩; have G7 := Lib.hid (G6.out.trans g7); have B7 := Lib.hid (own_grow B6.out g7); have C7 := Lib.hid (C6.out.grow g7))
                  (try go_wp2_with fail)
                  refine hK.out _ _ ?hS299 (fun hHeld => ?_)
                  case hS299 => (try dsimp only); exact HKW.out _ G7.out
                  clear hK K
                  (try simp only [Act.put, List.setIfInBounds_toArray, List.set_cons_zero, List.set_cons_succ])
                  refine wpAnyH_ready (rs := [27]) (by kernel_rfl) (by simp) ?_
                  refine AllReadyH.cons (o := { dst := some 41, op := Go.Op.call { callee := Go.Callee.value (Go.Operand.func 23), args := #[Go.Operand.tmp 40], argTypes := #[9] }, type := 3, pos := _, after := #[{ on := 26, ground := Go.Ground.data }, { on := 23, ground := Go.Ground.chain }], guard := none }) rfl (fun K hK => ?_) AllReadyH.nil
                  go_simp
                  (go_at_call 23; refine (HN17.out _).mono ?_; rintro e v8 ⟨rfl, g8⟩; have G8 := Lib.hid (G7.out.trans g8); have B8 := Lib.hid (own_grow B7.out g8); have C8 := Lib.hid (C7.out.grow g8))
                  (try go_wp2_with fail)
                  refine hK.out _ _ ?hS301 (fun hHeld => ?_)
                  case hS301 => (try dsimp only); exact HKW.out _ G8.out
                  clear hK K
                  (try simp only [Act.put, List.setIfInBounds_toArray, List.set_cons_zero, List.set_cons_succ])
                  refine wpAnyH_ready (rs := [31]) (by kernel_rfl) (by simp) ?_
                  refine AllReadyH.cons (o := { dst := some 45, op := Go.Op.call { callee := Go.Callee.value (Go.Operand.func 23), args := #[Go.Operand.tmp 44], argTypes := #[9] }, type := 3, pos := _, after := #[{ on := 30, ground := Go.Ground.data }, { on := 27, ground := Go.Ground.chain }], guard := none }) rfl (fun K hK => ?_) AllReadyH.nil
                  go_simp
                  (go_at_call 23; refine (HN19.out _).mono ?_; rintro e v9 ⟨rfl, g9⟩; have G9 := Lib.hid (G8.out.trans g9); have B9 := Lib.hid (own_grow B8.out g9); have C9 := Lib.hid (C8.out.grow g9))
                  (try go_wp2_with fail)
                  refine hK.out _ _ ?hS303 (fun hHeld => ?_)
                  case hS303 => (try dsimp only); exact HKW.out _ G9.out
                  clear hK K
                  (try simp only [Act.put, List.setIfInBounds_toArray, List.set_cons_zero, List.set_cons_succ])
                  refine wpAnyH_ready (rs := [35]) (by kernel_rfl) (by simp) ?_
                  refine AllReadyH.cons (o := { dst := some 49, op := Go.Op.call { callee := Go.Callee.value (Go.Operand.func 23), args := #[Go.Operand.tmp 48], argTypes := #[9] }, type := 3, pos := _, after := #[{ on := 34, ground := Go.Ground.data }, { on := 31, ground := Go.Ground.chain }], guard := none }) rfl (fun K hK => ?_) AllReadyH.nil
                  go_simp
                  (go_at_call 23; refine (HN21.out _).mono ?_; rintro e v10 ⟨rfl, g10⟩; have G10 := Lib.hid (G9.out.trans g10); have B10 := Lib.hid (own_grow B9.out g10); have C10 := Lib.hid (C9.out.grow g10))
                  (try go_wp2_with fail)
                  refine hK.out _ _ ?hS305 (fun hHeld => ?_)
                  case hS305 => (try dsimp only); exact HKW.out _ G10.out
                  clear hK K
                  (try simp only [Act.put, List.setIfInBounds_toArray, List.set_cons_zero, List.set_cons_succ])
                  refine wpAnyH_ready (rs := [39]) (by kernel_rfl) (by simp) ?_
                  refine AllReadyH.cons (o := { dst := some 53, op := Go.Op.call { callee := Go.Callee.value (Go.Operand.func 23), args := #[Go.Operand.tmp 52], argTypes := #[9] }, type := 3, pos := _, after := #[{ on := 38, ground := Go.Ground.data }, { on := 35, ground := Go.Ground.chain }], guard := none }) rfl (fun K hK => ?_) AllReadyH.nil
                  go_simp
                  (go_at_call 23; refine (HN23.out _).mono ?_; rintro e v11 ⟨rfl, g11⟩; have G11 := Lib.hid (G10.out.trans g11); have B11 := Lib.hid (own_grow B10.out g11); have C11 := Lib.hid (C10.out.grow g11))
                  (try go_wp2_with fail)
                  refine hK.out _ _ ?hS307 (fun hHeld => ?_)
                  case hS307 => (try dsimp only); exact HKW.out _ G11.out
                  clear hK K
                  (try simp only [Act.put, List.setIfInBounds_toArray, List.set_cons_zero, List.set_cons_succ])
                  refine wpAnyH_take (i := 40) (oi := { dst := some 54, op := Go.Op.build 24 #[(0, Go.Operand.tmp 17), (1, Go.Operand.tmp 21), (4, Go.Operand.tmp 25), (5, Go.Operand.tmp 29), (6, Go.Operand.tmp 33), (7, Go.Operand.tmp 37), (8, Go.Operand.tmp 41), (9, Go.Operand.tmp 45), (10, Go.Operand.tmp 49), (11, Go.Operand.tmp 53)], type := 24, pos := _, after := #[{ on := 3, ground := Go.Ground.data }, { on := 7, ground := Go.Ground.data }, { on := 11, ground := Go.Ground.data }, { on := 15, ground := Go.Ground.data }, { on := 19, ground := Go.Ground.data }, { on := 23, ground := Go.Ground.data }, { on := 27, ground := Go.Ground.data }, { on := 31, ground := Go.Ground.data }, { on := 35, ground := Go.Ground.data }, { on := 39, ground := Go.Ground.data }], guard := none }) (v := ?v308) rfl (by kernel_rfl) (by kernel_rfl) (by kernel_rfl) (fun _ _ _ h => h) (Or.inl ⟨by kernel_rfl, ?hy308⟩) (by assumption) ?_
                  case hy308 => intro w hSw; (try dsimp only at hSw); first | (go_simp; done) | (go_simp; with_reducible rfl)
                  (try simp only [Act.put, List.setIfInBounds_toArray, List.set_cons_zero, List.set_cons_succ])
                  refine wpAnyH_ready (rs := [42]) (by kernel_rfl) (by simp) ?_
                  refine AllReadyH.cons (o := { dst := none, op := Go.Op.store 24 (Go.Operand.tmp 5) (Go.Operand.tmp 54), type := 0, pos := _, after := #[{ on := 41, ground := Go.Ground.data }, { on := 40, ground := Go.Ground.data }, { on := 39, ground := Go.Ground.chain }, { on := 0, ground := Go.Ground.phase }, { on := 1, ground := Go.Ground.phase }, { on := 2, ground := Go.Ground.phase }, { on := 3, ground := Go.Ground.phase }, { on := 4, ground := Go.Ground.phase }, { on := 5, ground := Go.Ground.phase }, { on := 6, ground := Go.Ground.phase }, { on := 7, ground := Go.Ground.phase }, { on := 8, ground := Go.Ground.phase }, { on := 9, ground := Go.Ground.phase }, { on := 10, ground := Go.Ground.phase }, { on := 11, ground := Go.Ground.phase }, { on := 12, ground := Go.Ground.phase }, { on := 13, ground := Go.Ground.phase }, { on := 14, ground := Go.Ground.phase }, { on := 15, ground := Go.Ground.phase }, { on := 16, ground := Go.Ground.phase }, { on := 17, ground := Go.Ground.phase }, { on := 18, ground := Go.Ground.phase }, { on := 19, ground := Go.Ground.phase }, { on := 20, ground := Go.Ground.phase }, { on := 21, ground := Go.Ground.phase }, { on := 22, ground := Go.Ground.phase }, { on := 23, ground := Go.Ground.phase }, { on := 24, ground := Go.Ground.phase }, { on := 25, ground := Go.Ground.phase }, { on := 26, ground := Go.Ground.phase }, { on := 27, ground := Go.Ground.phase }, { on := 28, ground := Go.Ground.phase }, { on := 29, ground := Go.Ground.phase }, { on := 30, ground := Go.Ground.phase }, { on := 31, ground := Go.Ground.phase }, { on := 32, ground := Go.Ground.phase }, { on := 33, ground := Go.Ground.phase }, { on := 34, ground := Go.Ground.phase }, { on := 35, ground := Go.Ground.phase }, { on := 36, ground := Go.Ground.phase }, { on := 37, ground := Go.Ground.phase }, { on := 38, ground := Go.Ground.phase }, { on := 39, ground := Go.Ground.phase }, { on := 40, ground := Go.Ground.phase }, { on := 41, ground := Go.Ground.phase }], guard := none }) rfl (fun K hK => ?_) AllReadyH.nil
                  (refine wp_store_row 24 (.tmp 5) (.tmp 54) rfl (v5.heap.size) #[.slice a zs.length c, .int .i64 x3, .int .i64 0, .int .i64 0, .int .i64 x9, .int .i64 x11, .int .i64 x13, .int .i64 x15, .int .i64 x17, .int .i64 x19, .int .i64 x21, .int .i64 x23] rfl rfl 24 _ C11.out (by kernel_rfl) rfl (by kernel_rfl) ?_; have HGE : Hid (Grew w2 (v11.setRow (v5.heap.size) #[.slice a zs.length c, .int .i64 x3, .int .i64 0, .int .i64 0, .int .i64 x9, .int .i64 x11, .int .i64 x13, .int .i64 x15, .int .i64 x17, .int .i64 x19, .int .i64 x21, .int .i64 x23])) := Lib.hid (below_setRow G11.out HCB.out _))
                  (try go_wp2_with fail)
                  refine hK.out _ _ ?hS310 (fun hHeld => ?_)
                  case hS310 => (try dsimp only); exact HKW.out _ HGE.out
                  clear hK K
                  (try simp only [Act.put, List.setIfInBounds_toArray, List.set_cons_zero, List.set_cons_succ])
                  refine wpAnyH_done (by kernel_rfl) ?_ _
                  have HCE : Hid (CfM (v11.setRow (v5.heap.size) #[.slice a zs.length c, .int .i64 x3, .int .i64 0, .int .i64 0, .int .i64 x9, .int .i64 x11, .int .i64 x13, .int .i64 x15, .int .i64 x17, .int .i64 x19, .int .i64 x21, .int .i64 x23]) (v5.heap.size) a zs.length c ⟨zs, x3, 0, 0, x9, x11, x13, x15, x17, x19, x21, x23⟩) := Lib.hid (setRow_heap _ _ _ _ _ _ C11.out)
                  have HBE : Hid (BufK .i64 3 w2.heap.size (v11.setRow (v5.heap.size) #[.slice a zs.length c, .int .i64 x3, .int .i64 0, .int .i64 0, .int .i64 x9, .int .i64 x11, .int .i64 x13, .int .i64 x15, .int .i64 x17, .int .i64 x19, .int .i64 x21, .int .i64 x23]) a zs.length c zs) := Lib.hid (own_left B11.out (setRow_grown _ _ _) (fun g hg e => by have h := Option.some.inj e; subst h; exact cell_row_ne B11.out C11.out hg))
                  go_wp2
                  go_meet
                  exact ⟨_, a, c, zs, rfl, HCB.out, HZS, HCE, HBE, HGE⟩
              case b244_41 =>
                go_simp
                (have gg : Grew v4 (v4.alloc (.cells #[.slice none 0 0, .int .i64 0, .int .i64 0, .int .i64 0, .int .i64 0, .int .i64 0, .int .i64 0, .int .i64 0, .int .i64 0, .int .i64 0, .int .i64 0, .int .i64 0] 24)) := (Grew.refl v4).alloc _; have C5 := Lib.hid (CfM.new v4 none 0 0 zeroC); have G5 := Lib.hid (G4.out.trans gg); have B5 := Lib.hid (own_grow B4.out gg); clear gg; have HCB : Hid (w2.heap.size ≤ v4.heap.size) := Lib.hid G4.out.size)
                (try go_wp2_with fail)
                refine hK.out _ _ ?hS311 (fun hHeld => ?_)
                case hS311 => (try dsimp only); exact HKW.out _ G5.out
                clear hK K
                (try simp only [Act.put, List.setIfInBounds_toArray, List.set_cons_zero, List.set_cons_succ])
                refine wpAnyH_ready (rs := [19]) (by kernel_rfl) (by simp) ?_
                refine AllReadyH.cons (o := { dst := some 33, op := Go.Op.call { callee := Go.Callee.value (Go.Operand.func 23), args := #[Go.Operand.tmp 32], argTypes := #[9] }, type := 3, pos := _, after := #[{ on := 18, ground := Go.Ground.data }, { on := 15, ground := Go.Ground.chain }], guard := none }) rfl (fun K hK => ?_) AllReadyH.nil
                go_simp
                (go_at_call 23; refine (HN13.out _).mono ?_; rintro e v6 ⟨rfl, g6⟩; have G6 := Lib.hid (G5.out.trans g6); have B6 := Lib.hid (own_grow B5.out g6); have C6 := Lib.hid (C5.out.grow g6))
                (try go_wp2_with fail)
                refine hK.out _ _ ?hS313 (fun hHeld => ?_)
                case hS313 => (try dsimp only); exact HKW.out _ G6.out
                clear hK K
                (try simp only [Act.put, List.setIfInBounds_toArray, List.set_cons_zero, List.set_cons_succ])
                refine wpAnyH_ready (rs := [23]) (by kernel_rfl) (by simp) ?_
                refine AllReadyH.cons (o := { dst := some 37, op := Go.Op.call { callee := Go.Callee.value (Go.Operand.func 23), args := #[Go.Operand.tmp 36], argTypes := #[9] }, type := 3, pos := _, after := #[{ on := 22, ground := Go.Ground.data }, { on := 19, ground := Go.Ground.chain }], guard := none }) rfl (fun K hK => ?_) AllReadyH.nil
                go_simp
                (go_at_call 23; refine (HN15.out _).mono ?_; rintro e v7 ⟨rfl, g7⟩; have G7 := Lib.hid (G6.out.trans g7); have B7 := Lib.hid (own_grow B6.out g7); have C7 := Lib.hid (C6.out.grow g7))
                (try go_wp2_with fail)
                refine hK.out _ _ ?hS315 (fun hHeld => ?_)
                case hS315 => (try dsimp only); exact HKW.out _ G7.out
                clear hK K
                (try simp only [Act.put, List.setIfInBounds_toArray, List.set_cons_zero, List.set_cons_succ])
                refine wpAnyH_ready (rs := [27]) (by kernel_rfl) (by simp) ?_
                refine AllReadyH.cons (o := { dst := some 41, op := Go.Op.call { callee := Go.Callee.value (Go.Operand.func 23), args := #[Go.Operand.tmp 40], argTypes := #[9] }, type := 3, pos := _, after := #[{ on := 26, ground := Go.Ground.data }, { on := 23, ground := Go.Ground.chain }], guard := none }) rfl (fun K hK => ?_) AllReadyH.nil
                go_simp
                (go_at_call 23; refine (HN17.out _).mono ?_; rintro e v8 ⟨rfl, g8⟩; have G8 := Lib.hid (G7.out.trans g8); have B8 := Lib.hid (own_grow B7.out g8); have C8 := Lib.hid (C7.out.grow g8))
                (try go_wp2_with fail)
                refine hK.out _ _ ?hS317 (fun hHeld => ?_)
                case hS317 => (try dsimp only); exact HKW.out _ G8.out
                clear hK K
                (try simp only [Act.put, List.setIfInBounds_toArray, List.set_cons_zero, List.set_cons_succ])
                refine wpAnyH_ready (rs := [31]) (by kernel_rfl) (by simp) ?_
                refine AllReadyH.cons (o := { dst := some 45, op := Go.Op.call { callee := Go.Callee.value (Go.Operand.func 23), args := #[Go.Operand.tmp 44], argTypes := #[9] }, type := 3, pos := _, after := #[{ on := 30, ground := Go.Ground.data }, { on := 27, ground := Go.Ground.chain }], guard := none }) rfl (fun K hK => ?_) AllReadyH.nil
                go_simp
                (go_at_call 23; refine (HN19.out _).mono ?_; rintro e v9 ⟨rfl, g9⟩; have G9 := Lib.hid (G8.out.trans g9); have B9 := Lib.hid (own_grow B8.out g9); have C9 := Lib.hid (C8.out.grow g9))
                (try go_wp2_with fail)
                refine hK.out _ _ ?hS319 (fun hHeld => ?_)
                case hS319 => (try dsimp only); exact HKW.out _ G9.out
                clear hK K
                (try simp only [Act.put, List.setIfInBounds_toArray, List.set_cons_zero, List.set_cons_succ])
                refine wpAnyH_ready (rs := [35]) (by kernel_rfl) (by simp) ?_
                refine AllReadyH.cons (o := { dst := some 49, op := Go.Op.call { callee := Go.Callee.value (Go.Operand.func 23), args := #[Go.Operand.tmp 48], argTypes := #[9] }, type := 3, pos := _, after := #[{ on := 34, ground := Go.Ground.data }, { on := 31, ground := Go.Ground.chain }], guard := none }) rfl (fun K hK => ?_) AllReadyH.nil
                go_simp
                (go_at_call 23; refine (HN21.out _).mono ?_; rintro e v10 ⟨rfl, g10⟩; have G10 := Lib.hid (G9.out.trans g10); have B10 := Lib.hid (own_grow B9.out g10); have C10 := Lib.hid (C9.out.grow g10))
                (try go_wp2_with fail)
                refine hK.out _ _ ?hS321 (fun hHeld => ?_)
                case hS321 => (try dsimp only); exact HKW.out _ G10.out
                clear hK K
                (try simp only [Act.put, List.setIfInBounds_toArray, List.set_cons_zero, List.set_cons_succ])
                refine wpAnyH_ready (rs := [39]) (by kernel_rfl) (by simp) ?_
                refine AllReadyH.cons (o := { dst := some 53, op := Go.Op.call { callee := Go.Callee.value (Go.Operand.func 23), args := #[Go.Operand.tmp 52], argTypes := #[9] }, type := 3, pos := _, after := #[{ on := 38, ground := Go.Ground.data }, { on := 35, ground := Go.Ground.chain }], guard := none }) rfl (fun K hK => ?_) AllReadyH.nil
                go_simp
                (go_at_call 23; refine (HN23.out _).mono ?_; rintro e v11 ⟨rfl, g11⟩; have G11 := Lib.hid (G10.out.trans g11); have B11 := Lib.hid (own_grow B10.out g11); have C11 := Lib.hid (C10.out.grow g11))
                (try go_wp2_with fail)
                refine hK.out _ _ ?hS323 (fun hHeld => ?_)
                case hS323 => (try dsimp only); exact HKW.out _ G11.out
                clear hK K
                (try simp only [Act.put, List.setIfInBounds_toArray, List.set_cons_zero, List.set_cons_succ])
                refine wpAnyH_take (i := 40) (oi := { dst := some 54, op := Go.Op.build 24 #[(0, Go.Operand.tmp 17), (1, Go.Operand.tmp 21), (4, Go.Operand.tmp 25), (5, Go.Operand.tmp 29), (6, Go.Operand.tmp 33), (7, Go.Operand.tmp 37), (8, Go.Operand.tmp 41), (9, Go.Operand.tmp 45), (10, Go.Operand.tmp 49), (11, Go.Operand.tmp 53)], type := 24, pos := _, after := #[{ on := 3, ground := Go.Ground.data }, { on := 7, ground := Go.Ground.data }, { on := 11, ground := Go.Ground.data }, { on := 15, ground := Go.Ground.data }, { on := 19, ground := Go.Ground.data }, { on := 23, ground := Go.Ground.data }, { on := 27, ground := Go.Ground.data }, { on := 31, ground := Go.Ground.data }, { on := 35, ground := Go.Ground.data }, { on := 39, ground := Go.Ground.data }], guard := none }) (v := ?v324) rfl (by kernel_rfl) (by kernel_rfl) (by kernel_rfl) (fun _ _ _ h => h) (Or.inl ⟨by kernel_rfl, ?hy324⟩) (by assumption) ?_
                case hy324 => intro w hSw; (try dsimp only at hSw); first | (go_simp; done) | (go_simp; with_reducible rfl)
                (try simp only [Act.put, List.setIfInBounds_toArray, List.set_cons_zero, List.set_cons_succ])
                refine wpAnyH_ready (rs := [42]) (by kernel_rfl) (by simp) ?_
                refine AllReadyH.cons (o := { dst := none, op := Go.Op.store 24 (Go.Operand.tmp 5) (Go.Operand.tmp 54), type := 0, pos := _, after := #[{ on := 41, ground := Go.Ground.data }, { on := 40, ground := Go.Ground.data }, { on := 39, ground := Go.Ground.chain }, { on := 0, ground := Go.Ground.phase }, { on := 1, ground := Go.Ground.phase }, { on := 2, ground := Go.Ground.phase }, { on := 3, ground := Go.Ground.phase }, { on := 4, ground := Go.Ground.phase }, { on := 5, ground := Go.Ground.phase }, { on := 6, ground := Go.Ground.phase }, { on := 7, ground := Go.Ground.phase }, { on := 8, ground := Go.Ground.phase }, { on := 9, ground := Go.Ground.phase }, { on := 10, ground := Go.Ground.phase }, { on := 11, ground := Go.Ground.phase }, { on := 12, ground := Go.Ground.phase }, { on := 13, ground := Go.Ground.phase }, { on := 14, ground := Go.Ground.phase }, { on := 15, ground := Go.Ground.phase }, { on := 16, ground := Go.Ground.phase }, { on := 17, ground := Go.Ground.phase }, { on := 18, ground := Go.Ground.phase }, { on := 19, ground := Go.Ground.phase }, { on := 20, ground := Go.Ground.phase }, { on := 21, ground := Go.Ground.phase }, { on := 22, ground := Go.Ground.phase }, { on := 23, ground := Go.Ground.phase }, { on := 24, ground := Go.Ground.phase }, { on := 25, ground := Go.Ground.phase }, { on := 26, ground := Go.Ground.phase }, { on := 27, ground := Go.Ground.phase }, { on := 28, ground := Go.Ground.phase }, { on := 29, ground := Go.Ground.phase }, { on := 30, ground := Go.Ground.phase }, { on := 31, ground := Go.Ground.phase }, { on := 32, ground := Go.Ground.phase }, { on := 33, ground := Go.Ground.phase }, { on := 34, ground := Go.Ground.phase }, { on := 35, ground := Go.Ground.phase }, { on := 36, ground := Go.Ground.phase }, { on := 37, ground := Go.Ground.phase }, { on := 38, ground := Go.Ground.phase }, { on := 39, ground := Go.Ground.phase }, { on := 40, ground := Go.Ground.phase }, { on := 41, ground := Go.Ground.phase }], guard := none }) rfl (fun K hK => ?_) AllReadyH.nil
                (refine wp_store_row 24 (.tmp 5) (.tmp 54) rfl (v4.heap.size) #[.slice a zs.length c, .int .i64 x3, .int .i64 0, .int .i64 0, .int .i64 x9, .int .i64 x11, .int .i64 x13, .int .i64 x15, .int .i64 x17, .int .i64 x19, .int .i64 x21, .int .i64 x23] rfl rfl 24 _ C11.out (by kernel_rfl) rfl (by kernel_rfl) ?_; have HGE : Hid (Grew w2 (v11.setRow (v4.heap.size) #[.slice a zs.length c, .int .i64 x3, .int .i64 0, .int .i64 0, .int .i64 x9, .int .i64 x11, .int .i64 x13, .int .i64 x15, .int .i64 x17, .int .i64 x19, .int .i64 x21, .int .i64 x23])) := Lib.hid (below_setRow G11.out HCB.out _))
                (try go_wp2_with fail)
                refine hK.out _ _ ?hS326 (fun hHeld => ?_)
                case hS326 => (try dsimp only); exact HKW.out _ HGE.out
                clear hK K
                (try simp only [Act.put, List.setIfInBounds_toArray, List.set_cons_zero, List.set_cons_succ])
                refine wpAnyH_done (by kernel_rfl) ?_ _
                have HCE : Hid (CfM (v11.setRow (v4.heap.size) #[.slice a zs.length c, .int .i64 x3, .int .i64 0, .int .i64 0, .int .i64 x9, .int .i64 x11, .int .i64 x13, .int .i64 x15, .int .i64 x17, .int .i64 x19, .int .i64 x21, .int .i64 x23]) (v4.heap.size) a zs.length c ⟨zs, x3, 0, 0, x9, x11, x13, x15, x17, x19, x21, x23⟩) := Lib.hid (setRow_heap _ _ _ _ _ _ C11.out)
                have HBE : Hid (BufK .i64 3 w2.heap.size (v11.setRow (v4.heap.size) #[.slice a zs.length c, .int .i64 x3, .int .i64 0, .int .i64 0, .int .i64 x9, .int .i64 x11, .int .i64 x13, .int .i64 x15, .int .i64 x17, .int .i64 x19, .int .i64 x21, .int .i64 x23]) a zs.length c zs) := Lib.hid (own_left B11.out (setRow_grown _ _ _) (fun g hg e => by have h := Option.some.inj e; subst h; exact cell_row_ne B11.out C11.out hg))
                go_wp2
                go_meet
                exact ⟨_, a, c, zs, rfl, HCB.out, HZS, HCE, HBE, HGE⟩
            case b242_41 =>
              go_simp
              (have gg : Grew v3 (v3.alloc (.cells #[.slice none 0 0, .int .i64 0, .int .i64 0, .int .i64 0, .int .i64 0, .int .i64 0, .int .i64 0, .int .i64 0, .int .i64 0, .int .i64 0, .int .i64 0, .int .i64 0] 24)) := (Grew.refl v3).alloc _; have C4 := Lib.hid (CfM.new v3 none 0 0 zeroC); have G4 := Lib.hid (G3.out.trans gg); have B4 := Lib.hid (own_grow B3.out gg); clear gg; have HCB : Hid (w2.heap.size ≤ v3.heap.size) := Lib.hid G3.out.size)
              (try go_wp2_with fail)
              refine hK.out _ _ ?hS327 (fun hHeld => ?_)
              case hS327 => (try dsimp only); exact HKW.out _ G4.out
              clear hK K
              (try simp only [Act.put, List.setIfInBounds_toArray, List.set_cons_zero, List.set_cons_succ])
              refine wpAnyH_ready (rs := [15]) (by kernel_rfl) (by simp) ?_
              refine AllReadyH.cons (o := { dst := some 29, op := Go.Op.call { callee := Go.Callee.value (Go.Operand.func 23), args := #[Go.Operand.tmp 28], argTypes := #[9] }, type := 3, pos := _, after := #[{ on := 14, ground := Go.Ground.data }, { on := 11, ground := Go.Ground.chain }], guard := none }) rfl (fun K hK => ?_) AllReadyH.nil
              go_simp
              (go_at_call 23; refine (HN11.out _).mono ?_; rintro e v5 ⟨rfl, g5⟩; have G5 := Lib.hid (G4.out.trans g5); have B5 := Lib.hid (own_grow B4.out g5); have C5 := Lib.hid (C4.out.grow g5))
              (try go_wp2_with fail)
              refine hK.out _ _ ?hS329 (fun hHeld => ?_)
              case hS329 => (try dsimp only); exact HKW.out _ G5.out
              clear hK K
              (try simp only [Act.put, List.setIfInBounds_toArray, List.set_cons_zero, List.set_cons_succ])
              refine wpAnyH_ready (rs := [19]) (by kernel_rfl) (by simp) ?_
              refine AllReadyH.cons (o := { dst := some 33, op := Go.Op.call { callee := Go.Callee.value (Go.Operand.func 23), args := #[Go.Operand.tmp 32], argTypes := #[9] }, type := 3, pos := _, after := #[{ on := 18, ground := Go.Ground.data }, { on := 15, ground := Go.Ground.chain }], guard := none }) rfl (fun K hK => ?_) AllReadyH.nil
              go_simp
              (go_at_call 23; refine (HN13.out _).mono ?_; rintro e v6 ⟨rfl, g6⟩; have G6 := Lib.hid (G5.out.trans g6); have B6 := Lib.hid (own_grow B5.out g6); have C6 := Lib.hid (C5.out.grow g6))
              (try go_wp2_with fail)
              refine hK.out _ _ ?hS331 (fun hHeld => ?_)
              case hS331 => (try dsimp only); exact HKW.out _ G6.out
              clear hK K
              (try simp only [Act.put, List.setIfInBounds_toArray, List.set_cons_zero, List.set_cons_succ])
              refine wpAnyH_ready (rs := [23]) (by kernel_rfl) (by simp) ?_
              refine AllReadyH.cons (o := { dst := some 37, op := Go.Op.call { callee := Go.Callee.value (Go.Operand.func 23), args := #[Go.Operand.tmp 36], argTypes := #[9] }, type := 3, pos := _, after := #[{ on := 22, ground := Go.Ground.data }, { on := 19, ground := Go.Ground.chain }], guard := none }) rfl (fun K hK => ?_) AllReadyH.nil
              go_simp
              (go_at_call 23; refine (HN15.out _).mono ?_; rintro e v7 ⟨rfl, g7⟩; have G7 := Lib.hid (G6.out.trans g7); have B7 := Lib.hid (own_grow B6.out g7); have C7 := Lib.hid (C6.out.grow g7))
              (try go_wp2_with fail)
              refine hK.out _ _ ?hS333 (fun hHeld => ?_)
              case hS333 => (try dsimp only); exact HKW.out _ G7.out
              clear hK K
              (try simp only [Act.put, List.setIfInBounds_toArray, List.set_cons_zero, List.set_cons_succ])
              refine wpAnyH_ready (rs := [27]) (by kernel_rfl) (by simp) ?_
              refine AllReadyH.cons (o := { dst := some 41, op := Go.Op.call { callee := Go.Callee.value (Go.Operand.func 23), args := #[Go.Operand.tmp 40], argTypes := #[9] }, type := 3, pos := _, after := #[{ on := 26, ground := Go.Ground.data }, { on := 23, ground := Go.Ground.chain }], guard := none }) rfl (fun K hK => ?_) AllReadyH.nil
              go_simp
              (go_at_call 23; refine (HN17.out _).mono ?_; rintro e v8 ⟨rfl, g8⟩; have G8 := Lib.hid (G7.out.trans g8); have B8 := Lib.hid (own_grow B7.out g8); have C8 := Lib.hid (C7.out.grow g8))
              (try go_wp2_with fail)
              refine hK.out _ _ ?hS335 (fun hHeld => ?_)
              case hS335 => (try dsimp only); exact HKW.out _ G8.out
              clear hK K
              (try simp only [Act.put, List.setIfInBounds_toArray, List.set_cons_zero, List.set_cons_succ])
              refine wpAnyH_ready (rs := [31]) (by kernel_rfl) (by simp) ?_
              refine AllReadyH.cons (o := { dst := some 45, op := Go.Op.call { callee := Go.Callee.value (Go.Operand.func 23), args := #[Go.Operand.tmp 44], argTypes := #[9] }, type := 3, pos := _, after := #[{ on := 30, ground := Go.Ground.data }, { on := 27, ground := Go.Ground.chain }], guard := none }) rfl (fun K hK => ?_) AllReadyH.nil
              go_simp
              (go_at_call 23; refine (HN19.out _).mono ?_; rintro e v9 ⟨rfl, g9⟩; have G9 := Lib.hid (G8.out.trans g9); have B9 := Lib.hid (own_grow B8.out g9); have C9 := Lib.hid (C8.out.grow g9))
              (try go_wp2_with fail)
              refine hK.out _ _ ?hS337 (fun hHeld => ?_)
              case hS337 => (try dsimp only); exact HKW.out _ G9.out
              clear hK K
              (try simp only [Act.put, List.setIfInBounds_toArray, List.set_cons_zero, List.set_cons_succ])
              refine wpAnyH_ready (rs := [35]) (by kernel_rfl) (by simp) ?_
              refine AllReadyH.cons (o := { dst := some 49, op := Go.Op.call { callee := Go.Callee.value (Go.Operand.func 23), args := #[Go.Operand.tmp 48], argTypes := #[9] }, type := 3, pos := _, after := #[{ on := 34, ground := Go.Ground.data }, { on := 31, ground := Go.Ground.chain }], guard := none }) rfl (fun K hK => ?_) AllReadyH.nil
              go_simp
              (go_at_call 23; refine (HN21.out _).mono ?_; rintro e v10 ⟨rfl, g10⟩; have G10 := Lib.hid (G9.out.trans g10); have B10 := Lib.hid (own_grow B9.out g10); have C10 := Lib.hid (C9.out.grow g10))
              (try go_wp2_with fail)
              refine hK.out _ _ ?hS339 (fun hHeld => ?_)
              case hS339 => (try dsimp only); exact HKW.out _ G10.out
              clear hK K
              (try simp only [Act.put, List.setIfInBounds_toArray, List.set_cons_zero, List.set_cons_succ])
              refine wpAnyH_ready (rs := [39]) (by kernel_rfl) (by simp) ?_
              refine AllReadyH.cons (o := { dst := some 53, op := Go.Op.call { callee := Go.Callee.value (Go.Operand.func 23), args := #[Go.Operand.tmp 52], argTypes := #[9] }, type := 3, pos := _, after := #[{ on := 38, ground := Go.Ground.data }, { on := 35, ground := Go.Ground.chain }], guard := none }) rfl (fun K hK => ?_) AllReadyH.nil
              go_simp
              (go_at_call 23; refine (HN23.out _).mono ?_; rintro e v11 ⟨rfl, g11⟩; have G11 := Lib.hid (G10.out.trans g11); have B11 := Lib.hid (own_grow B10.out g11); have C11 := Lib.hid (C10.out.grow g11))
              (try go_wp2_with fail)
              refine hK.out _ _ ?hS341 (fun hHeld => ?_)
              case hS341 => (try dsimp only); exact HKW.out _ G11.out
              clear hK K
              (try simp only [Act.put, List.setIfInBounds_toArray, List.set_cons_zero, List.set_cons_succ])
              refine wpAnyH_take (i := 40) (oi := { dst := some 54, op := Go.Op.build 24 #[(0, Go.Operand.tmp 17), (1, Go.Operand.tmp 21), (4, Go.Operand.tmp 25), (5, Go.Operand.tmp 29), (6, Go.Operand.tmp 33), (7, Go.Operand.tmp 37), (8, Go.Operand.tmp 41), (9, Go.Operand.tmp 45), (10, Go.Operand.tmp 49), (11, Go.Operand.tmp 53)], type := 24, pos := _, after := #[{ on := 3, ground := Go.Ground.data }, { on := 7, ground := Go.Ground.data }, { on := 11, ground := Go.Ground.data }, { on := 15, ground := Go.Ground.data }, { on := 19, ground := Go.Ground.data }, { on := 23, ground := Go.Ground.data }, { on := 27, ground := Go.Ground.data }, { on := 31, ground := Go.Ground.data }, { on := 35, ground := Go.Ground.data }, { on := 39, ground := Go.Ground.data }], guard := none }) (v := ?v342) rfl (by kernel_rfl) (by kernel_rfl) (by kernel_rfl) (fun _ _ _ h => h) (Or.inl ⟨by kernel_rfl, ?hy342⟩) (by assumption) ?_
              case hy342 => intro w hSw; (try dsimp only at hSw); first | (go_simp; done) | (go_simp; with_reducible rfl)
              (try simp only [Act.put, List.setIfInBounds_toArray, List.set_cons_zero, List.set_cons_succ])
              refine wpAnyH_ready (rs := [42]) (by kernel_rfl) (by simp) ?_
              refine AllReadyH.cons (o := { dst := none, op := Go.Op.store 24 (Go.Operand.tmp 5) (Go.Operand.tmp 54), type := 0, pos := _, after := #[{ on := 41, ground := Go.Ground.data }, { on := 40, ground := Go.Ground.data }, { on := 39, ground := Go.Ground.chain }, { on := 0, ground := Go.Ground.phase }, { on := 1, ground := Go.Ground.phase }, { on := 2, ground := Go.Ground.phase }, { on := 3, ground := Go.Ground.phase }, { on := 4, ground := Go.Ground.phase }, { on := 5, ground := Go.Ground.phase }, { on := 6, ground := Go.Ground.phase }, { on := 7, ground := Go.Ground.phase }, { on := 8, ground := Go.Ground.phase }, { on := 9, ground := Go.Ground.phase }, { on := 10, ground := Go.Ground.phase }, { on := 11, ground := Go.Ground.phase }, { on := 12, ground := Go.Ground.phase }, { on := 13, ground := Go.Ground.phase }, { on := 14, ground := Go.Ground.phase }, { on := 15, ground := Go.Ground.phase }, { on := 16, ground := Go.Ground.phase }, { on := 17, ground := Go.Ground.phase }, { on := 18, ground := Go.Ground.phase }, { on := 19, ground := Go.Ground.phase }, { on := 20, ground := Go.Ground.phase }, { on := 21, ground := Go.Ground.phase }, { on := 22, ground := Go.Ground.phase }, { on := 23, ground := Go.Ground.phase }, { on := 24, ground := Go.Ground.phase }, { on := 25, ground := Go.Ground.phase }, { on := 26, ground := Go.Ground.phase }, { on := 27, ground := Go.Ground.phase }, { on := 28, ground := Go.Ground.phase }, { on := 29, ground := Go.Ground.phase }, { on := 30, ground := Go.Ground.phase }, { on := 31, ground := Go.Ground.phase }, { on := 32, ground := Go.Ground.phase }, { on := 33, ground := Go.Ground.phase }, { on := 34, ground := Go.Ground.phase }, { on := 35, ground := Go.Ground.phase }, { on := 36, ground := Go.Ground.phase }, { on := 37, ground := Go.Ground.phase }, { on := 38, ground := Go.Ground.phase }, { on := 39, ground := Go.Ground.phase }, { on := 40, ground := Go.Ground.phase }, { on := 41, ground := Go.Ground.phase }], guard := none }) rfl (fun K hK => ?_) AllReadyH.nil
              (refine wp_store_row 24 (.tmp 5) (.tmp 54) rfl (v3.heap.size) #[.slice a zs.length c, .int .i64 x3, .int .i64 0, .int .i64 0, .int .i64 x9, .int .i64 x11, .int .i64 x13, .int .i64 x15, .int .i64 x17, .int .i64 x19, .int .i64 x21, .int .i64 x23] rfl rfl 24 _ C11.out (by kernel_rfl) rfl (by kernel_rfl) ?_; have HGE : Hid (Grew w2 (v11.setRow (v3.heap.size) #[.slice a zs.length c, .int .i64 x3, .int .i64 0, .int .i64 0, .int .i64 x9, .int .i64 x11, .int .i64 x13, .int .i64 x15, .int .i64 x17, .int .i64 x19, .int .i64 x21, .int .i64 x23])) := Lib.hid (below_setRow G11.out HCB.out _))
              (try go_wp2_with fail)
              refine hK.out _ _ ?hS344 (fun hHeld => ?_)
              case hS344 => (try dsimp only); exact HKW.out _ HGE.out
              clear hK K
              (try simp only [Act.put, List.setIfInBounds_toArray, List.set_cons_zero, List.set_cons_succ])
              refine wpAnyH_done (by kernel_rfl) ?_ _
              have HCE : Hid (CfM (v11.setRow (v3.heap.size) #[.slice a zs.length c, .int .i64 x3, .int .i64 0, .int .i64 0, .int .i64 x9, .int .i64 x11, .int .i64 x13, .int .i64 x15, .int .i64 x17, .int .i64 x19, .int .i64 x21, .int .i64 x23]) (v3.heap.size) a zs.length c ⟨zs, x3, 0, 0, x9, x11, x13, x15, x17, x19, x21, x23⟩) := Lib.hid (setRow_heap _ _ _ _ _ _ C11.out)
              have HBE : Hid (BufK .i64 3 w2.heap.size (v11.setRow (v3.heap.size) #[.slice a zs.length c, .int .i64 x3, .int .i64 0, .int .i64 0, .int .i64 x9, .int .i64 x11, .int .i64 x13, .int .i64 x15, .int .i64 x17, .int .i64 x19, .int .i64 x21, .int .i64 x23]) a zs.length c zs) := Lib.hid (own_left B11.out (setRow_grown _ _ _) (fun g hg e => by have h := Option.some.inj e; subst h; exact cell_row_ne B11.out C11.out hg))
              go_wp2
              go_meet
              exact ⟨_, a, c, zs, rfl, HCB.out, HZS, HCE, HBE, HGE⟩
          case b240_41 =>
            go_simp
            (have gg : Grew v2 (v2.alloc (.cells #[.slice none 0 0, .int .i64 0, .int .i64 0, .int .i64 0, .int .i64 0, .int .i64 0, .int .i64 0, .int .i64 0, .int .i64 0, .int .i64 0, .int .i64 0, .int .i64 0] 24)) := (Grew.refl v2).alloc _; have C3 := Lib.hid (CfM.new v2 none 0 0 zeroC); have G3 := Lib.hid (G2.out.trans gg); have B3 := Lib.hid (own_grow B2.out gg); clear gg; have HCB : Hid (w2.heap.size ≤ v2.heap.size) := Lib.hid G2.out.size)
            (try go_wp2_with fail)
            refine hK.out _ _ ?hS345 (fun hHeld => ?_)
            case hS345 => (try dsimp only); exact HKW.out _ G3.out
            clear hK K
            (try simp only [Act.put, List.setIfInBounds_toArray, List.set_cons_zero, List.set_cons_succ])
            refine wpAnyH_ready (rs := [11]) (by kernel_rfl) (by simp) ?_
            refine AllReadyH.cons (o := { dst := some 25, op := Go.Op.call { callee := Go.Callee.value (Go.Operand.func 23), args := #[Go.Operand.tmp 24], argTypes := #[9] }, type := 3, pos := _, after := #[{ on := 10, ground := Go.Ground.data }, { on := 7, ground := Go.Ground.chain }], guard := none }) rfl (fun K hK => ?_) AllReadyH.nil
            go_simp
            (go_at_call 23; refine (HN9.out _).mono ?_; rintro e v4 ⟨rfl, g4⟩; have G4 := Lib.hid (G3.out.trans g4); have B4 := Lib.hid (own_grow B3.out g4); have C4 := Lib.hid (C3.out.grow g4))
            (try go_wp2_with fail)
            refine hK.out _ _ ?hS347 (fun hHeld => ?_)
            case hS347 => (try dsimp only); exact HKW.out _ G4.out
            clear hK K
            (try simp only [Act.put, List.setIfInBounds_toArray, List.set_cons_zero, List.set_cons_succ])
            refine wpAnyH_ready (rs := [15]) (by kernel_rfl) (by simp) ?_
            refine AllReadyH.cons (o := { dst := some 29, op := Go.Op.call { callee := Go.Callee.value (Go.Operand.func 23), args := #[Go.Operand.tmp 28], argTypes := #[9] }, type := 3, pos := _, after := #[{ on := 14, ground := Go.Ground.data }, { on := 11, ground := Go.Ground.chain }], guard := none }) rfl (fun K hK => ?_) AllReadyH.nil
            go_simp
            (go_at_call 23; refine (HN11.out _).mono ?_; rintro e v5 ⟨rfl, g5⟩; have G5 := Lib.hid (G4.out.trans g5); have B5 := Lib.hid (own_grow B4.out g5); have C5 := Lib.hid (C4.out.grow g5))
            (try go_wp2_with fail)
            refine hK.out _ _ ?hS349 (fun hHeld => ?_)
            case hS349 => (try dsimp only); exact HKW.out _ G5.out
            clear hK K
            (try simp only [Act.put, List.setIfInBounds_toArray, List.set_cons_zero, List.set_cons_succ])
            refine wpAnyH_ready (rs := [19]) (by kernel_rfl) (by simp) ?_
            refine AllReadyH.cons (o := { dst := some 33, op := Go.Op.call { callee := Go.Callee.value (Go.Operand.func 23), args := #[Go.Operand.tmp 32], argTypes := #[9] }, type := 3, pos := _, after := #[{ on := 18, ground := Go.Ground.data }, { on := 15, ground := Go.Ground.chain }], guard := none }) rfl (fun K hK => ?_) AllReadyH.nil
            go_simp
            (go_at_call 23; refine (HN13.out _).mono ?_; rintro e v6 ⟨rfl, g6⟩; have G6 := Lib.hid (G5.out.trans g6); have B6 := Lib.hid (own_grow B5.out g6); have C6 := Lib.hid (C5.out.grow g6))
            (try go_wp2_with fail)
            refine hK.out _ _ ?hS351 (fun hHeld => ?_)
            case hS351 => (try dsimp only); exact HKW.out _ G6.out
            clear hK K
            (try simp only [Act.put, List.setIfInBounds_toArray, List.set_cons_zero, List.set_cons_succ])
            refine wpAnyH_ready (rs := [23]) (by kernel_rfl) (by simp) ?_
            refine AllReadyH.cons (o := { dst := some 37, op := Go.Op.call { callee := Go.Callee.value (Go.Operand.func 23), args := #[Go.Operand.tmp 36], argTypes := #[9] }, type := 3, pos := _, after := #[{ on := 22, ground := Go.Ground.data }, { on := 19, ground := Go.Ground.chain }], guard := none }) rfl (fun K hK => ?_) AllReadyH.nil
            go_simp
            (go_at_call 23; refine (HN15.out _).mono ?_; rintro e v7 ⟨rfl, g7⟩; have G7 := Lib.hid (G6.out.trans g7); have B7 := Lib.hid (own_grow B6.out g7); have C7 := Lib.hid (C6.out.grow g7))
            (try go_wp2_with fail)
            refine hK.out _ _ ?hS353 (fun hHeld => ?_)
            case hS353 => (try dsimp only); exact HKW.out _ G7.out
            clear hK K
            (try simp only [Act.put, List.setIfInBounds_toArray, List.set_cons_zero, List.set_cons_succ])
            refine wpAnyH_ready (rs := [27]) (by kernel_rfl) (by simp) ?_
            refine AllReadyH.cons (o := { dst := some 41, op := Go.Op.call { callee := Go.Callee.value (Go.Operand.func 23), args := #[Go.Operand.tmp 40], argTypes := #[9] }, type := 3, pos := _, after := #[{ on := 26, ground := Go.Ground.data }, { on := 23, ground := Go.Ground.chain }], guard := none }) rfl (fun K hK => ?_) AllReadyH.nil
            go_simp
            (go_at_call 23; refine (HN17.out _).mono ?_; rintro e v8 ⟨rfl, g8⟩; have G8 := Lib.hid (G7.out.trans g8); have B8 := Lib.hid (own_grow B7.out g8); have C8 := Lib.hid (C7.out.grow g8))
            (try go_wp2_with fail)
            refine hK.out _ _ ?hS355 (fun hHeld => ?_)
            case hS355 => (try dsimp only); exact HKW.out _ G8.out
            clear hK K
            (try simp only [Act.put, List.setIfInBounds_toArray, List.set_cons_zero, List.set_cons_succ])
            refine wpAnyH_ready (rs := [31]) (by kernel_rfl) (by simp) ?_
            refine AllReadyH.cons (o := { dst := some 45, op := Go.Op.call { callee := Go.Callee.value (Go.Operand.func 23), args := #[Go.Operand.tmp 44], argTypes := #[9] }, type := 3, pos := _, after := #[{ on := 30, ground := Go.Ground.data }, { on := 27, ground := Go.Ground.chain }], guard := none }) rfl (fun K hK => ?_) AllReadyH.nil
            go_simp
            (go_at_call 23; refine (HN19.out _).mono ?_; rintro e v9 ⟨rfl, g9⟩; have G9 := Lib.hid (G8.out.trans g9); have B9 := Lib.hid (own_grow B8.out g9); have C9 := Lib.hid (C8.out.grow g9))
            (try go_wp2_with fail)
            refine hK.out _ _ ?hS357 (fun hHeld => ?_)
            case hS357 => (try dsimp only); exact HKW.out _ G9.out
            clear hK K
            (try simp only [Act.put, List.setIfInBounds_toArray, List.set_cons_zero, List.set_cons_succ])
            refine wpAnyH_ready (rs := [35]) (by kernel_rfl) (by simp) ?_
            refine AllReadyH.cons (o := { dst := some 49, op := Go.Op.call { callee := Go.Callee.value (Go.Operand.func 23), args := #[Go.Operand.tmp 48], argTypes := #[9] }, type := 3, pos := _, after := #[{ on := 34, ground := Go.Ground.data }, { on := 31, ground := Go.Ground.chain }], guard := none }) rfl (fun K hK => ?_) AllReadyH.nil
            go_simp
            (go_at_call 23; refine (HN21.out _).mono ?_; rintro e v10 ⟨rfl, g10⟩; have G10 := Lib.hid (G9.out.trans g10); have B10 := Lib.hid (own_grow B9.out g10); have C10 := Lib.hid (C9.out.grow g10))
            (try go_wp2_with fail)
            refine hK.out _ _ ?hS359 (fun hHeld => ?_)
            case hS359 => (try dsimp only); exact HKW.out _ G10.out
            clear hK K
            (try simp only [Act.put, List.setIfInBounds_toArray, List.set_cons_zero, List.set_cons_succ])
            refine wpAnyH_ready (rs := [39]) (by kernel_rfl) (by simp) ?_
            refine AllReadyH.cons (o := { dst := some 53, op := Go.Op.call { callee := Go.Callee.value (Go.Operand.func 23), args := #[Go.Operand.tmp 52], argTypes := #[9] }, type := 3, pos := _, after := #[{ on := 38, ground := Go.Ground.data }, { on := 35, ground := Go.Ground.chain }], guard := none }) rfl (fun K hK => ?_) AllReadyH.nil
            go_simp
            (go_at_call 23; refine (HN23.out _).mono ?_; rintro e v11 ⟨rfl, g11⟩; have G11 := Lib.hid (G10.out.trans g11); have B11 := Lib.hid (own_grow B10.out g11); have C11 := Lib.hid (C10.out.grow g11))
            (try go_wp2_with fail)
            refine hK.out _ _ ?hS361 (fun hHeld => ?_)
            case hS361 => (try dsimp only); exact HKW.out _ G11.out
            clear hK K
            (try simp only [Act.put, List.setIfInBounds_toArray, List.set_cons_zero, List.set_cons_succ])
            refine wpAnyH_take (i := 40) (oi := { dst := some 54, op := Go.Op.build 24 #[(0, Go.Operand.tmp 17), (1, Go.Operand.tmp 21), (4, Go.Operand.tmp 25), (5, Go.Operand.tmp 29), (6, Go.Operand.tmp 33), (7, Go.Operand.tmp 37), (8, Go.Operand.tmp 41), (9, Go.Operand.tmp 45), (10, Go.Operand.tmp 49), (11, Go.Operand.tmp 53)], type := 24, pos := _, after := #[{ on := 3, ground := Go.Ground.data }, { on := 7, ground := Go.Ground.data }, { on := 11, ground := Go.Ground.data }, { on := 15, ground := Go.Ground.data }, { on := 19, ground := Go.Ground.data }, { on := 23, ground := Go.Ground.data }, { on := 27, ground := Go.Ground.data }, { on := 31, ground := Go.Ground.data }, { on := 35, ground := Go.Ground.data }, { on := 39, ground := Go.Ground.data }], guard := none }) (v := ?v362) rfl (by kernel_rfl) (by kernel_rfl) (by kernel_rfl) (fun _ _ _ h => h) (Or.inl ⟨by kernel_rfl, ?hy362⟩) (by assumption) ?_
            case hy362 => intro w hSw; (try dsimp only at hSw); first | (go_simp; done) | (go_simp; with_reducible rfl)
            (try simp only [Act.put, List.setIfInBounds_toArray, List.set_cons_zero, List.set_cons_succ])
            refine wpAnyH_ready (rs := [42]) (by kernel_rfl) (by simp) ?_
            refine AllReadyH.cons (o := { dst := none, op := Go.Op.store 24 (Go.Operand.tmp 5) (Go.Operand.tmp 54), type := 0, pos := _, after := #[{ on := 41, ground := Go.Ground.data }, { on := 40, ground := Go.Ground.data }, { on := 39, ground := Go.Ground.chain }, { on := 0, ground := Go.Ground.phase }, { on := 1, ground := Go.Ground.phase }, { on := 2, ground := Go.Ground.phase }, { on := 3, ground := Go.Ground.phase }, { on := 4, ground := Go.Ground.phase }, { on := 5, ground := Go.Ground.phase }, { on := 6, ground := Go.Ground.phase }, { on := 7, ground := Go.Ground.phase }, { on := 8, ground := Go.Ground.phase }, { on := 9, ground := Go.Ground.phase }, { on := 10, ground := Go.Ground.phase }, { on := 11, ground := Go.Ground.phase }, { on := 12, ground := Go.Ground.phase }, { on := 13, ground := Go.Ground.phase }, { on := 14, ground := Go.Ground.phase }, { on := 15, ground := Go.Ground.phase }, { on := 16, ground := Go.Ground.phase }, { on := 17, ground := Go.Ground.phase }, { on := 18, ground := Go.Ground.phase }, { on := 19, ground := Go.Ground.phase }, { on := 20, ground := Go.Ground.phase }, { on := 21, ground := Go.Ground.phase }, { on := 22, ground := Go.Ground.phase }, { on := 23, ground := Go.Ground.phase }, { on := 24, ground := Go.Ground.phase }, { on := 25, ground := Go.Ground.phase }, { on := 26, ground := Go.Ground.phase }, { on := 27, ground := Go.Ground.phase }, { on := 28, ground := Go.Ground.phase }, { on := 29, ground := Go.Ground.phase }, { on := 30, ground := Go.Ground.phase }, { on := 31, ground := Go.Ground.phase }, { on := 32, ground := Go.Ground.phase }, { on := 33, ground := Go.Ground.phase }, { on := 34, ground := Go.Ground.phase }, { on := 35, ground := Go.Ground.phase }, { on := 36, ground := Go.Ground.phase }, { on := 37, ground := Go.Ground.phase }, { on := 38, ground := Go.Ground.phase }, { on := 39, ground := Go.Ground.phase }, { on := 40, ground := Go.Ground.phase }, { on := 41, ground := Go.Ground.phase }], guard := none }) rfl (fun K hK => ?_) AllReadyH.nil
            (refine wp_store_row 24 (.tmp 5) (.tmp 54) rfl (v2.heap.size) #[.slice a zs.length c, .int .i64 x3, .int .i64 0, .int .i64 0, .int .i64 x9, .int .i64 x11, .int .i64 x13, .int .i64 x15, .int .i64 x17, .int .i64 x19, .int .i64 x21, .int .i64 x23] rfl rfl 24 _ C11.out (by kernel_rfl) rfl (by kernel_rfl) ?_; have HGE : Hid (Grew w2 (v11.setRow (v2.heap.size) #[.slice a zs.length c, .int .i64 x3, .int .i64 0, .int .i64 0, .int .i64 x9, .int .i64 x11, .int .i64 x13, .int .i64 x15, .int .i64 x17, .int .i64 x19, .int .i64 x21, .int .i64 x23])) := Lib.hid (below_setRow G11.out HCB.out _))
            (try go_wp2_with fail)
            refine hK.out _ _ ?hS364 (fun hHeld => ?_)
            case hS364 => (try dsimp only); exact HKW.out _ HGE.out
            clear hK K
            (try simp only [Act.put, List.setIfInBounds_toArray, List.set_cons_zero, List.set_cons_succ])
            refine wpAnyH_done (by kernel_rfl) ?_ _
            have HCE : Hid (CfM (v11.setRow (v2.heap.size) #[.slice a zs.length c, .int .i64 x3, .int .i64 0, .int .i64 0, .int .i64 x9, .int .i64 x11, .int .i64 x13, .int .i64 x15, .int .i64 x17, .int .i64 x19, .int .i64 x21, .int .i64 x23]) (v2.heap.size) a zs.length c ⟨zs, x3, 0, 0, x9, x11, x13, x15, x17, x19, x21, x23⟩) := Lib.hid (setRow_heap _ _ _ _ _ _ C11.out)
            have HBE : Hid (BufK .i64 3 w2.heap.size (v11.setRow (v2.heap.size) #[.slice a zs.length c, .int .i64 x3, .int .i64 0, .int .i64 0, .int .i64 x9, .int .i64 x11, .int .i64 x13, .int .i64 x15, .int .i64 x17, .int .i64 x19, .int .i64 x21, .int .i64 x23]) a zs.length c zs) := Lib.hid (own_left B11.out (setRow_grown _ _ _) (fun g hg e => by have h := Option.some.inj e; subst h; exact cell_row_ne B11.out C11.out hg))
            go_wp2
            go_meet
            exact ⟨_, a, c, zs, rfl, HCB.out, HZS, HCE, HBE, HGE⟩
        case b238_41 =>
          go_simp
          (have gg : Grew v1 (v1.alloc (.cells #[.slice none 0 0, .int .i64 0, .int .i64 0, .int .i64 0, .int .i64 0, .int .i64 0, .int .i64 0, .int .i64 0, .int .i64 0, .int .i64 0, .int .i64 0, .int .i64 0] 24)) := (Grew.refl v1).alloc _; have C2 := Lib.hid (CfM.new v1 none 0 0 zeroC); have G2 := Lib.hid (G1.out.trans gg); have B2 := Lib.hid (own_grow B1.out gg); clear gg; have HCB : Hid (w2.heap.size ≤ v1.heap.size) := Lib.hid G1.out.size)
          (try go_wp2_with fail)
          refine hK.out _ _ ?hS365 (fun hHeld => ?_)
          case hS365 => (try dsimp only); exact HKW.out _ G2.out
          clear hK K
          (try simp only [Act.put, List.setIfInBounds_toArray, List.set_cons_zero, List.set_cons_succ])
          refine wpAnyH_ready (rs := [7]) (by kernel_rfl) (by simp) ?_
          refine AllReadyH.cons (o := { dst := some 21, op := Go.Op.call { callee := Go.Callee.value (Go.Operand.func 23), args := #[Go.Operand.tmp 20], argTypes := #[9] }, type := 3, pos := _, after := #[{ on := 6, ground := Go.Ground.data }, { on := 3, ground := Go.Ground.chain }], guard := none }) rfl (fun K hK => ?_) AllReadyH.nil
          go_simp
          (go_at_call 23; refine (HN3.out _).mono ?_; rintro e v3 ⟨rfl, g3⟩; have G3 := Lib.hid (G2.out.trans g3); have B3 := Lib.hid (own_grow B2.out g3); have C3 := Lib.hid (C2.out.grow g3))
          (try go_wp2_with fail)
          refine hK.out _ _ ?hS367 (fun hHeld => ?_)
          case hS367 => (try dsimp only); exact HKW.out _ G3.out
          clear hK K
          (try simp only [Act.put, List.setIfInBounds_toArray, List.set_cons_zero, List.set_cons_succ])
          refine wpAnyH_ready (rs := [11]) (by kernel_rfl) (by simp) ?_
          refine AllReadyH.cons (o := { dst := some 25, op := Go.Op.call { callee := Go.Callee.value (Go.Operand.func 23), args := #[Go.Operand.tmp 24], argTypes := #[9] }, type := 3, pos := _, after := #[{ on := 10, ground := Go.Ground.data }, { on := 7, ground := Go.Ground.chain }], guard := none }) rfl (fun K hK => ?_) AllReadyH.nil
          go_simp
          (go_at_call 23; refine (HN9.out _).mono ?_; rintro e v4 ⟨rfl, g4⟩; have G4 := Lib.hid (G3.out.trans g4); have B4 := Lib.hid (own_grow B3.out g4); have C4 := Lib.hid (C3.out.grow g4))
          (try go_wp2_with fail)
          refine hK.out _ _ ?hS369 (fun hHeld => ?_)
          case hS369 => (try dsimp only); exact HKW.out _ G4.out
          clear hK K
          (try simp only [Act.put, List.setIfInBounds_toArray, List.set_cons_zero, List.set_cons_succ])
          refine wpAnyH_ready (rs := [15]) (by kernel_rfl) (by simp) ?_
          refine AllReadyH.cons (o := { dst := some 29, op := Go.Op.call { callee := Go.Callee.value (Go.Operand.func 23), args := #[Go.Operand.tmp 28], argTypes := #[9] }, type := 3, pos := _, after := #[{ on := 14, ground := Go.Ground.data }, { on := 11, ground := Go.Ground.chain }], guard := none }) rfl (fun K hK => ?_) AllReadyH.nil
          go_simp
          (go_at_call 23; refine (HN11.out _).mono ?_; rintro e v5 ⟨rfl, g5⟩; have G5 := Lib.hid (G4.out.trans g5); have B5 := Lib.hid (own_grow B4.out g5); have C5 := Lib.hid (C4.out.grow g5))
          (try go_wp2_with fail)
          refine hK.out _ _ ?hS371 (fun hHeld => ?_)
          case hS371 => (try dsimp only); exact HKW.out _ G5.out
          clear hK K
          (try simp only [Act.put, List.setIfInBounds_toArray, List.set_cons_zero, List.set_cons_succ])
          refine wpAnyH_ready (rs := [19]) (by kernel_rfl) (by simp) ?_
          refine AllReadyH.cons (o := { dst := some 33, op := Go.Op.call { callee := Go.Callee.value (Go.Operand.func 23), args := #[Go.Operand.tmp 32], argTypes := #[9] }, type := 3, pos := _, after := #[{ on := 18, ground := Go.Ground.data }, { on := 15, ground := Go.Ground.chain }], guard := none }) rfl (fun K hK => ?_) AllReadyH.nil
          go_simp
          (go_at_call 23; refine (HN13.out _).mono ?_; rintro e v6 ⟨rfl, g6⟩; have G6 := Lib.hid (G5.out.trans g6); have B6 := Lib.hid (own_grow B5.out g6); have C6 := Lib.hid (C5.out.grow g6))
          (try go_wp2_with fail)
          refine hK.out _ _ ?hS373 (fun hHeld => ?_)
          case hS373 => (try dsimp only); exact HKW.out _ G6.out
          clear hK K
          (try simp only [Act.put, List.setIfInBounds_toArray, List.set_cons_zero, List.set_cons_succ])
          refine wpAnyH_ready (rs := [23]) (by kernel_rfl) (by simp) ?_
          refine AllReadyH.cons (o := { dst := some 37, op := Go.Op.call { callee := Go.Callee.value (Go.Operand.func 23), args := #[Go.Operand.tmp 36], argTypes := #[9] }, type := 3, pos := _, after := #[{ on := 22, ground := Go.Ground.data }, { on := 19, ground := Go.Ground.chain }], guard := none }) rfl (fun K hK => ?_) AllReadyH.nil
          go_simp
          (go_at_call 23; refine (HN15.out _).mono ?_; rintro e v7 ⟨rfl, g7⟩; have G7 := Lib.hid (G6.out.trans g7); have B7 := Lib.hid (own_grow B6.out g7); have C7 := Lib.hid (C6.out.grow g7))
          (try go_wp2_with fail)
          refine hK.out _ _ ?hS375 (fun hHeld => ?_)
          case hS375 => (try dsimp only); exact HKW.out _ G7.out
          clear hK K
          (try simp only [Act.put, List.setIfInBounds_toArray, List.set_cons_zero, List.set_cons_succ])
          refine wpAnyH_ready (rs := [27]) (by kernel_rfl) (by simp) ?_
          refine AllReadyH.cons (o := { dst := some 41, op := Go.Op.call { callee := Go.Callee.value (Go.Operand.func 23), args := #[Go.Operand.tmp 40], argTypes := #[9] }, type := 3, pos := _, after := #[{ on := 26, ground := Go.Ground.data }, { on := 23, ground := Go.Ground.chain }], guard := none }) rfl (fun K hK => ?_) AllReadyH.nil
          go_simp
          (go_at_call 23; refine (HN17.out _).mono ?_; rintro e v8 ⟨rfl, g8⟩; have G8 := Lib.hid (G7.out.trans g8); have B8 := Lib.hid (own_grow B7.out g8); have C8 := Lib.hid (C7.out.grow g8))
          (try go_wp2_with fail)
          refine hK.out _ _ ?hS377 (fun hHeld => ?_)
          case hS377 => (try dsimp only); exact HKW.out _ G8.out
          clear hK K
          (try simp only [Act.put, List.setIfInBounds_toArray, List.set_cons_zero, List.set_cons_succ])
          refine wpAnyH_ready (rs := [31]) (by kernel_rfl) (by simp) ?_
          refine AllReadyH.cons (o := { dst := some 45, op := Go.Op.call { callee := Go.Callee.value (Go.Operand.func 23), args := #[Go.Operand.tmp 44], argTypes := #[9] }, type := 3, pos := _, after := #[{ on := 30, ground := Go.Ground.data }, { on := 27, ground := Go.Ground.chain }], guard := none }) rfl (fun K hK => ?_) AllReadyH.nil
          go_simp
          (go_at_call 23; refine (HN19.out _).mono ?_; rintro e v9 ⟨rfl, g9⟩; have G9 := Lib.hid (G8.out.trans g9); have B9 := Lib.hid (own_grow B8.out g9); have C9 := Lib.hid (C8.out.grow g9))
          (try go_wp2_with fail)
          refine hK.out _ _ ?hS379 (fun hHeld => ?_)
          case hS379 => (try dsimp only); exact HKW.out _ G9.out
          clear hK K
          (try simp only [Act.put, List.setIfInBounds_toArray, List.set_cons_zero, List.set_cons_succ])
          refine wpAnyH_ready (rs := [35]) (by kernel_rfl) (by simp) ?_
          refine AllReadyH.cons (o := { dst := some 49, op := Go.Op.call { callee := Go.Callee.value (Go.Operand.func 23), args := #[Go.Operand.tmp 48], argTypes := #[9] }, type := 3, pos := _, after := #[{ on := 34, ground := Go.Ground.data }, { on := 31, ground := Go.Ground.chain }], guard := none }) rfl (fun K hK => ?_) AllReadyH.nil
          go_simp
          (go_at_call 23; refine (HN21.out _).mono ?_; rintro e v10 ⟨rfl, g10⟩; have G10 := Lib.hid (G9.out.trans g10); have B10 := Lib.hid (own_grow B9.out g10); have C10 := Lib.hid (C9.out.grow g10))
          (try go_wp2_with fail)
          refine hK.out _ _ ?hS381 (fun hHeld => ?_)
          case hS381 => (try dsimp only); exact HKW.out _ G10.out
          clear hK K
          (try simp only [Act.put, List.setIfInBounds_toArray, List.set_cons_zero, List.set_cons_succ])
          refine wpAnyH_ready (rs := [39]) (by kernel_rfl) (by simp) ?_
          refine AllReadyH.cons (o := { dst := some 53, op := Go.Op.call { callee := Go.Callee.value (Go.Operand.func 23), args := #[Go.Operand.tmp 52], argTypes := #[9] }, type := 3, pos := _, after := #[{ on := 38, ground := Go.Ground.data }, { on := 35, ground := Go.Ground.chain }], guard := none }) rfl (fun K hK => ?_) AllReadyH.nil
          go_simp
          (go_at_call 23; refine (HN23.out _).mono ?_; rintro e v11 ⟨rfl, g11⟩; have G11 := Lib.hid (G10.out.trans g11); have B11 := Lib.hid (own_grow B10.out g11); have C11 := Lib.hid (C10.out.grow g11))
          (try go_wp2_with fail)
          refine hK.out _ _ ?hS383 (fun hHeld => ?_)
          case hS383 => (try dsimp only); exact HKW.out _ G11.out
          clear hK K
          (try simp only [Act.put, List.setIfInBounds_toArray, List.set_cons_zero, List.set_cons_succ])
          refine wpAnyH_take (i := 40) (oi := { dst := some 54, op := Go.Op.build 24 #[(0, Go.Operand.tmp 17), (1, Go.Operand.tmp 21), (4, Go.Operand.tmp 25), (5, Go.Operand.tmp 29), (6, Go.Operand.tmp 33), (7, Go.Operand.tmp 37), (8, Go.Operand.tmp 41), (9, Go.Operand.tmp 45), (10, Go.Operand.tmp 49), (11, Go.Operand.tmp 53)], type := 24, pos := _, after := #[{ on := 3, ground := Go.Ground.data }, { on := 7, ground := Go.Ground.data }, { on := 11, ground := Go.Ground.data }, { on := 15, ground := Go.Ground.data }, { on := 19, ground := Go.Ground.data }, { on := 23, ground := Go.Ground.data }, { on := 27, ground := Go.Ground.data }, { on := 31, ground := Go.Ground.data }, { on := 35, ground := Go.Ground.data }, { on := 39, ground := Go.Ground.data }], guard := none }) (v := ?v384) rfl (by kernel_rfl) (by kernel_rfl) (by kernel_rfl) (fun _ _ _ h => h) (Or.inl ⟨by kernel_rfl, ?hy384⟩) (by assumption) ?_
          case hy384 => intro w hSw; (try dsimp only at hSw); first | (go_simp; done) | (go_simp; with_reducible rfl)
          (try simp only [Act.put, List.setIfInBounds_toArray, List.set_cons_zero, List.set_cons_succ])
          refine wpAnyH_ready (rs := [42]) (by kernel_rfl) (by simp) ?_
          refine AllReadyH.cons (o := { dst := none, op := Go.Op.store 24 (Go.Operand.tmp 5) (Go.Operand.tmp 54), type := 0, pos := _, after := #[{ on := 41, ground := Go.Ground.data }, { on := 40, ground := Go.Ground.data }, { on := 39, ground := Go.Ground.chain }, { on := 0, ground := Go.Ground.phase }, { on := 1, ground := Go.Ground.phase }, { on := 2, ground := Go.Ground.phase }, { on := 3, ground := Go.Ground.phase }, { on := 4, ground := Go.Ground.phase }, { on := 5, ground := Go.Ground.phase }, { on := 6, ground := Go.Ground.phase }, { on := 7, ground := Go.Ground.phase }, { on := 8, ground := Go.Ground.phase }, { on := 9, ground := Go.Ground.phase }, { on := 10, ground := Go.Ground.phase }, { on := 11, ground := Go.Ground.phase }, { on := 12, ground := Go.Ground.phase }, { on := 13, ground := Go.Ground.phase }, { on := 14, ground := Go.Ground.phase }, { on := 15, ground := Go.Ground.phase }, { on := 16, ground := Go.Ground.phase }, { on := 17, ground := Go.Ground.phase }, { on := 18, ground := Go.Ground.phase }, { on := 19, ground := Go.Ground.phase }, { on := 20, ground := Go.Ground.phase }, { on := 21, ground := Go.Ground.phase }, { on := 22, ground := Go.Ground.phase }, { on := 23, ground := Go.Ground.phase }, { on := 24, ground := Go.Ground.phase }, { on := 25, ground := Go.Ground.phase }, { on := 26, ground := Go.Ground.phase }, { on := 27, ground := Go.Ground.phase }, { on := 28, ground := Go.Ground.phase }, { on := 29, ground := Go.Ground.phase }, { on := 30, ground := Go.Ground.phase }, { on := 31, ground := Go.Ground.phase }, { on := 32, ground := Go.Ground.phase }, { on := 33, ground := Go.Ground.phase }, { on := 34, ground := Go.Ground.phase }, { on := 35, ground := Go.Ground.phase }, { on := 36, ground := Go.Ground.phase }, { on := 37, ground := Go.Ground.phase }, { on := 38, ground := Go.Ground.phase }, { on := 39, ground := Go.Ground.phase }, { on := 40, ground := Go.Ground.phase }, { on := 41, ground := Go.Ground.phase }], guard := none }) rfl (fun K hK => ?_) AllReadyH.nil
          (refine wp_store_row 24 (.tmp 5) (.tmp 54) rfl (v1.heap.size) #[.slice a zs.length c, .int .i64 x3, .int .i64 0, .int .i64 0, .int .i64 x9, .int .i64 x11, .int .i64 x13, .int .i64 x15, .int .i64 x17, .int .i64 x19, .int .i64 x21, .int .i64 x23] rfl rfl 24 _ C11.out (by kernel_rfl) rfl (by kernel_rfl) ?_; have HGE : Hid (Grew w2 (v11.setRow (v1.heap.size) #[.slice a zs.length c, .int .i64 x3, .int .i64 0, .int .i64 0, .int .i64 x9, .int .i64 x11, .int .i64 x13, .int .i64 x15, .int .i64 x17, .int .i64 x19, .int .i64 x21, .int .i64 x23])) := Lib.hid (below_setRow G11.out HCB.out _))
          (try go_wp2_with fail)
          refine hK.out _ _ ?hS386 (fun hHeld => ?_)
          case hS386 => (try dsimp only); exact HKW.out _ HGE.out
          clear hK K
          (try simp only [Act.put, List.setIfInBounds_toArray, List.set_cons_zero, List.set_cons_succ])
          refine wpAnyH_done (by kernel_rfl) ?_ _
          have HCE : Hid (CfM (v11.setRow (v1.heap.size) #[.slice a zs.length c, .int .i64 x3, .int .i64 0, .int .i64 0, .int .i64 x9, .int .i64 x11, .int .i64 x13, .int .i64 x15, .int .i64 x17, .int .i64 x19, .int .i64 x21, .int .i64 x23]) (v1.heap.size) a zs.length c ⟨zs, x3, 0, 0, x9, x11, x13, x15, x17, x19, x21, x23⟩) := Lib.hid (setRow_heap _ _ _ _ _ _ C11.out)
          have HBE : Hid (BufK .i64 3 w2.heap.size (v11.setRow (v1.heap.size) #[.slice a zs.length c, .int .i64 x3, .int .i64 0, .int .i64 0, .int .i64 x9, .int .i64 x11, .int .i64 x13, .int .i64 x15, .int .i64 x17, .int .i64 x19, .int .i64 x21, .int .i64 x23]) a zs.length c zs) := Lib.hid (own_left B11.out (setRow_grown _ _ _) (fun g hg e => by have h := Option.some.inj e; subst h; exact cell_row_ne B11.out C11.out hg))
          go_wp2
          go_meet
          exact ⟨_, a, c, zs, rfl, HCB.out, HZS, HCE, HBE, HGE⟩
      case b236_41 =>
        go_simp
        (have C1 := Lib.hid ((CfM.new w2 none 0 0 zeroC).grow (Grew.drew' (Grew.refl _))); have G1 : Hid (Grew w2 (w2.alloc (.cells #[.slice none 0 0, .int .i64 0, .int .i64 0, .int .i64 0, .int .i64 0, .int .i64 0, .int .i64 0, .int .i64 0, .int .i64 0, .int .i64 0, .int .i64 0, .int .i64 0] 24)).drew) := Lib.hid (Grew.drew' ((Grew.refl w2).alloc _)); have HCB : Hid (w2.heap.size ≤ w2.heap.size) := Lib.hid (Nat.le_refl _))
        (try go_wp2_with fail)
        refine hK.out _ _ ?hS387 (fun hHeld => ?_)
        case hS387 => (try dsimp only); exact HKW.out _ G1.out
        clear hK K
        (try simp only [Act.put, List.setIfInBounds_toArray, List.set_cons_zero, List.set_cons_succ])
        refine wpAnyH_ready (rs := [3]) (by kernel_rfl) (by simp) ?_
        refine AllReadyH.cons (o := { dst := some 17, op := Go.Op.call { callee := Go.Callee.value (Go.Operand.func 22), args := #[Go.Operand.tmp 16], argTypes := #[9] }, type := 22, pos := _, after := #[{ on := 2, ground := Go.Ground.data }], guard := none }) rfl (fun K hK => ?_) AllReadyH.nil
        go_simp
        (go_at_call 22; refine (HN1.out _).mono ?_; rintro e v2 ⟨⟨a, c, zs, rfl, hzs, hb⟩, g2⟩; have G2 := Lib.hid (G1.out.trans g2); have B2 : Hid (BufK .i64 3 w2.heap.size v2 a zs.length c zs) := Lib.hid (row_mono hb G1.out.size); have HZS := Lib.hid hzs; clear hzs hb; have C2 := Lib.hid (C1.out.grow g2))
        (try go_wp2_with fail)
        refine hK.out _ _ ?hS389 (fun hHeld => ?_)
        case hS389 => (try dsimp only); exact HKW.out _ G2.out
        clear hK K
        (try simp only [Act.put, List.setIfInBounds_toArray, List.set_cons_zero, List.set_cons_succ])
        refine wpAnyH_ready (rs := [7]) (by kernel_rfl) (by simp) ?_
        refine AllReadyH.cons (o := { dst := some 21, op := Go.Op.call { callee := Go.Callee.value (Go.Operand.func 23), args := #[Go.Operand.tmp 20], argTypes := #[9] }, type := 3, pos := _, after := #[{ on := 6, ground := Go.Ground.data }, { on := 3, ground := Go.Ground.chain }], guard := none }) rfl (fun K hK => ?_) AllReadyH.nil
        go_simp
        (go_at_call 23; refine (HN3.out _).mono ?_; rintro e v3 ⟨rfl, g3⟩; have G3 := Lib.hid (G2.out.trans g3); have B3 := Lib.hid (own_grow B2.out g3); have C3 := Lib.hid (C2.out.grow g3))
        (try go_wp2_with fail)
        refine hK.out _ _ ?hS391 (fun hHeld => ?_)
        case hS391 => (try dsimp only); exact HKW.out _ G3.out
        clear hK K
        (try simp only [Act.put, List.setIfInBounds_toArray, List.set_cons_zero, List.set_cons_succ])
        refine wpAnyH_ready (rs := [11]) (by kernel_rfl) (by simp) ?_
        refine AllReadyH.cons (o := { dst := some 25, op := Go.Op.call { callee := Go.Callee.value (Go.Operand.func 23), args := #[Go.Operand.tmp 24], argTypes := #[9] }, type := 3, pos := _, after := #[{ on := 10, ground := Go.Ground.data }, { on := 7, ground := Go.Ground.chain }], guard := none }) rfl (fun K hK => ?_) AllReadyH.nil
        go_simp
        (go_at_call 23; refine (HN9.out _).mono ?_; rintro e v4 ⟨rfl, g4⟩; have G4 := Lib.hid (G3.out.trans g4); have B4 := Lib.hid (own_grow B3.out g4); have C4 := Lib.hid (C3.out.grow g4))
        (try go_wp2_with fail)
        refine hK.out _ _ ?hS393 (fun hHeld => ?_)
        case hS393 => (try dsimp only); exact HKW.out _ G4.out
        clear hK K
        (try simp only [Act.put, List.setIfInBounds_toArray, List.set_cons_zero, List.set_cons_succ])
        refine wpAnyH_ready (rs := [15]) (by kernel_rfl) (by simp) ?_
        refine AllReadyH.cons (o := { dst := some 29, op := Go.Op.call { callee := Go.Callee.value (Go.Operand.func 23), args := #[Go.Operand.tmp 28], argTypes := #[9] }, type := 3, pos := _, after := #[{ on := 14, ground := Go.Ground.data }, { on := 11, ground := Go.Ground.chain }], guard := none }) rfl (fun K hK => ?_) AllReadyH.nil
        go_simp
        (go_at_call 23; refine (HN11.out _).mono ?_; rintro e v5 ⟨rfl, g5⟩; have G5 := Lib.hid (G4.out.trans g5); have B5 := Lib.hid (own_grow B4.out g5); have C5 := Lib.hid (C4.out.grow g5))
        (try go_wp2_with fail)
        refine hK.out _ _ ?hS395 (fun hHeld => ?_)
        case hS395 => (try dsimp only); exact HKW.out _ G5.out
        clear hK K
        (try simp only [Act.put, List.setIfInBounds_toArray, List.set_cons_zero, List.set_cons_succ])
        refine wpAnyH_ready (rs := [19]) (by kernel_rfl) (by simp) ?_
        refine AllReadyH.cons (o := { dst := some 33, op := Go.Op.call { callee := Go.Callee.value (Go.Operand.func 23), args := #[Go.Operand.tmp 32], argTypes := #[9] }, type := 3, pos := _, after := #[{ on := 18, ground := Go.Ground.data }, { on := 15, ground := Go.Ground.chain }], guard := none }) rfl (fun K hK => ?_) AllReadyH.nil
        go_simp
        (go_at_call 23; refine (HN13.out _).mono ?_; rintro e v6 ⟨rfl, g6⟩; have G6 := Lib.hid (G5.out.trans g6); have B6 := Lib.hid (own_grow B5.out g6); have C6 := Lib.hid (C5.out.grow g6))
        (try go_wp2_with fail)
        refine hK.out _ _ ?hS397 (fun hHeld => ?_)
        case hS397 => (try dsimp only); exact HKW.out _ G6.out
        clear hK K
        (try simp only [Act.put, List.setIfInBounds_toArray, List.set_cons_zero, List.set_cons_succ])
        refine wpAnyH_ready (rs := [23]) (by kernel_rfl) (by simp) ?_
        refine AllReadyH.cons (o := { dst := some 37, op := Go.Op.call { callee := Go.Callee.value (Go.Operand.func 23), args := #[Go.Operand.tmp 36], argTypes := #[9] }, type := 3, pos := _, after := #[{ on := 22, ground := Go.Ground.data }, { on := 19, ground := Go.Ground.chain }], guard := none }) rfl (fun K hK => ?_) AllReadyH.nil
        go_simp
        (go_at_call 23; refine (HN15.out _).mono ?_; rintro e v7 ⟨rfl, g7⟩; have G7 := Lib.hid (G6.out.trans g7); have B7 := Lib.hid (own_grow B6.out g7); have C7 := Lib.hid (C6.out.grow g7))
        (try go_wp2_with fail)
        refine hK.out _ _ ?hS399 (fun hHeld => ?_)
        case hS399 => (try dsimp only); exact HKW.out _ G7.out
        clear hK K
        (try simp only [Act.put, List.setIfInBounds_toArray, List.set_cons_zero, List.set_cons_succ])
        refine wpAnyH_ready (rs := [27]) (by kernel_rfl) (by simp) ?_
        refine AllReadyH.cons (o := { dst := some 41, op := Go.Op.call { callee := Go.Callee.value (Go.Operand.func 23), args := #[Go.Operand.tmp 40], argTypes := #[9] }, type := 3, pos := _, after := #[{ on := 26, ground := Go.Ground.data }, { on := 23, ground := Go.Ground.chain }], guard := none }) rfl (fun K hK => ?_) AllReadyH.nil
        go_simp
        (go_at_call 23; refine (HN17.out _).mono ?_; rintro e v8 ⟨rfl, g8⟩; have G8 := Lib.hid (G7.out.trans g8); have B8 := Lib.hid (own_grow B7.out g8); have C8 := Lib.hid (C7.out.grow g8))
        (try go_wp2_with fail)
        refine hK.out _ _ ?hS401 (fun hHeld => ?_)
        case hS401 => (try dsimp only); exact HKW.out _ G8.out
        clear hK K
        (try simp only [Act.put, List.setIfInBounds_toArray, List.set_cons_zero, List.set_cons_succ])
        refine wpAnyH_ready (rs := [31]) (by kernel_rfl) (by simp) ?_
        refine AllReadyH.cons (o := { dst := some 45, op := Go.Op.call { callee := Go.Callee.value (Go.Operand.func 23), args := #[Go.Operand.tmp 44], argTypes := #[9] }, type := 3, pos := _, after := #[{ on := 30, ground := Go.Ground.data }, { on := 27, ground := Go.Ground.chain }], guard := none }) rfl (fun K hK => ?_) AllReadyH.nil
        go_simp
        (go_at_call 23; refine (HN19.out _).mono ?_; rintro e v9 ⟨rfl, g9⟩; have G9 := Lib.hid (G8.out.trans g9); have B9 := Lib.hid (own_grow B8.out g9); have C9 := Lib.hid (C8.out.grow g9))
        (try go_wp2_with fail)
        refine hK.out _ _ ?hS403 (fun hHeld => ?_)
        case hS403 => (try dsimp only); exact HKW.out _ G9.out
        clear hK K
        (try simp only [Act.put, List.setIfInBounds_toArray, List.set_cons_zero, List.set_cons_succ])
        refine wpAnyH_ready (rs := [35]) (by kernel_rfl) (by simp) ?_
        refine AllReadyH.cons (o := { dst := some 49, op := Go.Op.call { callee := Go.Callee.value (Go.Operand.func 23), args := #[Go.Operand.tmp 48], argTypes := #[9] }, type := 3, pos := _, after := #[{ on := 34, ground := Go.Ground.data }, { on := 31, ground := Go.Ground.chain }], guard := none }) rfl (fun K hK => ?_) AllReadyH.nil
        go_simp
        (go_at_call 23; refine (HN21.out _).mono ?_; rintro e v10 ⟨rfl, g10⟩; have G10 := Lib.hid (G9.out.trans g10); have B10 := Lib.hid (own_grow B9.out g10); have C10 := Lib.hid (C9.out.grow g10))
        (try go_wp2_with fail)
        refine hK.out _ _ ?hS405 (fun hHeld => ?_)
        case hS405 => (try dsimp only); exact HKW.out _ G10.out
        clear hK K
        (try simp only [Act.put, List.setIfInBounds_toArray, List.set_cons_zero, List.set_cons_succ])
        refine wpAnyH_ready (rs := [39]) (by kernel_rfl) (by simp) ?_
        refine AllReadyH.cons (o := { dst := some 53, op := Go.Op.call { callee := Go.Callee.value (Go.Operand.func 23), args := #[Go.Operand.tmp 52], argTypes := #[9] }, type := 3, pos := _, after := #[{ on := 38, ground := Go.Ground.data }, { on := 35, ground := Go.Ground.chain }], guard := none }) rfl (fun K hK => ?_) AllReadyH.nil
        go_simp
        (go_at_call 23; refine (HN23.out _).mono ?_; rintro e v11 ⟨rfl, g11⟩; have G11 := Lib.hid (G10.out.trans g11); have B11 := Lib.hid (own_grow B10.out g11); have C11 := Lib.hid (C10.out.grow g11))
        (try go_wp2_with fail)
        refine hK.out _ _ ?hS407 (fun hHeld => ?_)
        case hS407 => (try dsimp only); exact HKW.out _ G11.out
        clear hK K
        (try simp only [Act.put, List.setIfInBounds_toArray, List.set_cons_zero, List.set_cons_succ])
        refine wpAnyH_take (i := 40) (oi := { dst := some 54, op := Go.Op.build 24 #[(0, Go.Operand.tmp 17), (1, Go.Operand.tmp 21), (4, Go.Operand.tmp 25), (5, Go.Operand.tmp 29), (6, Go.Operand.tmp 33), (7, Go.Operand.tmp 37), (8, Go.Operand.tmp 41), (9, Go.Operand.tmp 45), (10, Go.Operand.tmp 49), (11, Go.Operand.tmp 53)], type := 24, pos := _, after := #[{ on := 3, ground := Go.Ground.data }, { on := 7, ground := Go.Ground.data }, { on := 11, ground := Go.Ground.data }, { on := 15, ground := Go.Ground.data }, { on := 19, ground := Go.Ground.data }, { on := 23, ground := Go.Ground.data }, { on := 27, ground := Go.Ground.data }, { on := 31, ground := Go.Ground.data }, { on := 35, ground := Go.Ground.data }, { on := 39, ground := Go.Ground.data }], guard := none }) (v := ?v408) rfl (by kernel_rfl) (by kernel_rfl) (by kernel_rfl) (fun _ _ _ h => h) (Or.inl ⟨by kernel_rfl, ?hy408⟩) (by assumption) ?_
        case hy408 => intro w hSw; (try dsimp only at hSw); first | (go_simp; done) | (go_simp; with_reducible rfl)
        (try simp only [Act.put, List.setIfInBounds_toArray, List.set_cons_zero, List.set_cons_succ])
        refine wpAnyH_ready (rs := [42]) (by kernel_rfl) (by simp) ?_
        refine AllReadyH.cons (o := { dst := none, op := Go.Op.store 24 (Go.Operand.tmp 5) (Go.Operand.tmp 54), type := 0, pos := _, after := #[{ on := 41, ground := Go.Ground.data }, { on := 40, ground := Go.Ground.data }, { on := 39, ground := Go.Ground.chain }, { on := 0, ground := Go.Ground.phase }, { on := 1, ground := Go.Ground.phase }, { on := 2, ground := Go.Ground.phase }, { on := 3, ground := Go.Ground.phase }, { on := 4, ground := Go.Ground.phase }, { on := 5, ground := Go.Ground.phase }, { on := 6, ground := Go.Ground.phase }, { on := 7, ground := Go.Ground.phase }, { on := 8, ground := Go.Ground.phase }, { on := 9, ground := Go.Ground.phase }, { on := 10, ground := Go.Ground.phase }, { on := 11, ground := Go.Ground.phase }, { on := 12, ground := Go.Ground.phase }, { on := 13, ground := Go.Ground.phase }, { on := 14, ground := Go.Ground.phase }, { on := 15, ground := Go.Ground.phase }, { on := 16, ground := Go.Ground.phase }, { on := 17, ground := Go.Ground.phase }, { on := 18, ground := Go.Ground.phase }, { on := 19, ground := Go.Ground.phase }, { on := 20, ground := Go.Ground.phase }, { on := 21, ground := Go.Ground.phase }, { on := 22, ground := Go.Ground.phase }, { on := 23, ground := Go.Ground.phase }, { on := 24, ground := Go.Ground.phase }, { on := 25, ground := Go.Ground.phase }, { on := 26, ground := Go.Ground.phase }, { on := 27, ground := Go.Ground.phase }, { on := 28, ground := Go.Ground.phase }, { on := 29, ground := Go.Ground.phase }, { on := 30, ground := Go.Ground.phase }, { on := 31, ground := Go.Ground.phase }, { on := 32, ground := Go.Ground.phase }, { on := 33, ground := Go.Ground.phase }, { on := 34, ground := Go.Ground.phase }, { on := 35, ground := Go.Ground.phase }, { on := 36, ground := Go.Ground.phase }, { on := 37, ground := Go.Ground.phase }, { on := 38, ground := Go.Ground.phase }, { on := 39, ground := Go.Ground.phase }, { on := 40, ground := Go.Ground.phase }, { on := 41, ground := Go.Ground.phase }], guard := none }) rfl (fun K hK => ?_) AllReadyH.nil
        (refine wp_store_row 24 (.tmp 5) (.tmp 54) rfl (w2.heap.size) #[.slice a zs.length c, .int .i64 x3, .int .i64 0, .int .i64 0, .int .i64 x9, .int .i64 x11, .int .i64 x13, .int .i64 x15, .int .i64 x17, .int .i64 x19, .int .i64 x21, .int .i64 x23] rfl rfl 24 _ C11.out (by kernel_rfl) rfl (by kernel_rfl) ?_; have HGE : Hid (Grew w2 (v11.setRow (w2.heap.size) #[.slice a zs.length c, .int .i64 x3, .int .i64 0, .int .i64 0, .int .i64 x9, .int .i64 x11, .int .i64 x13, .int .i64 x15, .int .i64 x17, .int .i64 x19, .int .i64 x21, .int .i64 x23])) := Lib.hid (below_setRow G11.out HCB.out _))
        (try go_wp2_with fail)
        refine hK.out _ _ ?hS410 (fun hHeld => ?_)
        case hS410 => (try dsimp only); exact HKW.out _ HGE.out
        clear hK K
        (try simp only [Act.put, List.setIfInBounds_toArray, List.set_cons_zero, List.set_cons_succ])
        refine wpAnyH_done (by kernel_rfl) ?_ _
        have HCE : Hid (CfM (v11.setRow (w2.heap.size) #[.slice a zs.length c, .int .i64 x3, .int .i64 0, .int .i64 0, .int .i64 x9, .int .i64 x11, .int .i64 x13, .int .i64 x15, .int .i64 x17, .int .i64 x19, .int .i64 x21, .int .i64 x23]) (w2.heap.size) a zs.length c ⟨zs, x3, 0, 0, x9, x11, x13, x15, x17, x19, x21, x23⟩) := Lib.hid (setRow_heap _ _ _ _ _ _ C11.out)
        have HBE : Hid (BufK .i64 3 w2.heap.size (v11.setRow (w2.heap.size) #[.slice a zs.length c, .int .i64 x3, .int .i64 0, .int .i64 0, .int .i64 x9, .int .i64 x11, .int .i64 x13, .int .i64 x15, .int .i64 x17, .int .i64 x19, .int .i64 x21, .int .i64 x23]) a zs.length c zs) := Lib.hid (own_left B11.out (setRow_grown _ _ _) (fun g hg e => by have h := Option.some.inj e; subst h; exact cell_row_ne B11.out C11.out hg))
        go_wp2
        go_meet
        exact ⟨_, a, c, zs, rfl, HCB.out, HZS, HCE, HBE, HGE⟩
    case rest =>
      rename World => w3
      have HWW : Hid (w.heap.size ≤ w2.heap.size) := Lib.hid HG1.out.size
      obtain ⟨cb, a, c, zs, rfl, hcb, HZS, HCE, HBE, HGE⟩ := hcut
      have hne : pg ≠ cb := Nat.ne_of_lt (Nat.lt_of_lt_of_le hpg hcb)
      have hrc : rb ≠ cb := Nat.ne_of_lt (Nat.lt_of_lt_of_le HRM1.out.lt hcb)
      have q5 := stay HGE.out HQ5.out
      have q7 := stay HGE.out HQ7.out
      have HM5 := HCE
      have r1 := HM5.out.c1
      obtain ⟨y5, hy5⟩ : ∃ y, rpar P5 x3 = y := ⟨_, rfl⟩
      obtain ⟨y7, hy7⟩ : ∃ y, rpar P7 x3 = y := ⟨_, rfl⟩
      have HR5 : Hid (∀ W, Calls Tryz.prog 24 #[.string ⟨P5.toArray⟩, .int .i64 x3] W fun e w' => (∃ ok, e = .returned (.tuple #[.int .i64 y5, .bool ok])) ∧ Grew W w') := Lib.hid (fun W => by rw [← hy5]; exact rpar_any ⟨P5.toArray⟩ x3 W)
      have HR7 : Hid (∀ W, Calls Tryz.prog 24 #[.string ⟨P7.toArray⟩, .int .i64 x3] W fun e w' => (∃ ok, e = .returned (.tuple #[.int .i64 y7, .bool ok])) ∧ Grew W w') := Lib.hid (fun W => by rw [← hy7]; exact rpar_any ⟨P7.toArray⟩ x3 W)
      have HREF : Hid (refC (splitSp s.data.toList) = ⟨zs, x3, y5, y7, x9, x11, x13, x15, x17, x19, x21, x23⟩) := Lib.hid (by rw [HRC.out, hy5, hy7, HZS.out])
      clear hy5 hy7
      go_upto_region 5 with fail
      refine wp_region_held_drew (S := (fun W' => w3.grownBy W' (some cb) ∧ W'.cell? ⟨pg, 5, none⟩ = some (.string ⟨P5.toArray⟩) ∧ W'.cell? ⟨cb, 1, none⟩ = some (.int .i64 x3))) (by kernel_rfl) ⟨Grew.by' (Grew.drew' (Grew.refl _)) _, q5, r1⟩ (fun hHeld => ?_)
      refine wpAnyH_take (i := 0) (oi := { dst := some 56, op := Go.Op.move (Go.Operand.tmp 4), type := 35, pos := _, after := #[], guard := none }) (v := ?v411) rfl (by kernel_rfl) (by kernel_rfl) (by kernel_rfl) (fun _ _ _ h => h) (Or.inl ⟨by kernel_rfl, ?hy411⟩) (by assumption) ?_
      case hy411 => intro w hSw; (try dsimp only at hSw); first | (go_simp; done) | (go_simp; with_reducible rfl)
      (try simp only [Act.put, List.setIfInBounds_toArray, List.set_cons_zero, List.set_cons_succ])
      refine wpAnyH_take (i := 1) (oi := { dst := some 57, op := Go.Op.indexAddr 35 (Go.Operand.tmp 56) (Go.Operand.const (Go.Value.int Go.IntKind.i64 5)), type := 0, pos := _, after := #[{ on := 0, ground := Go.Ground.data }], guard := none }) (v := ?v412) rfl (by kernel_rfl) (by kernel_rfl) (by kernel_rfl) (fun _ _ _ h => h) (Or.inl ⟨by kernel_rfl, ?hy412⟩) (by assumption) ?_
      case hy412 => intro w hSw; (try dsimp only at hSw); first | (go_simp; done) | (go_simp; with_reducible rfl)
      (try simp only [Act.put, List.setIfInBounds_toArray, List.set_cons_zero, List.set_cons_succ])
      refine wpAnyH_take (i := 2) (oi := { dst := some 58, op := Go.Op.load 9 (Go.Operand.tmp 57), type := 9, pos := _, after := #[{ on := 1, ground := Go.Ground.data }], guard := none }) (v := ?v413) rfl (by kernel_rfl) (by kernel_rfl) (by kernel_rfl) (fun _ _ _ h => h) (Or.inl ⟨by kernel_rfl, ?hy413⟩) (by assumption) ?_
      case hy413 => intro w hSw; (try dsimp only at hSw); first | (go_simp; done) | (go_simp; with_reducible rfl)
      (try simp only [Act.put, List.setIfInBounds_toArray, List.set_cons_zero, List.set_cons_succ])
      refine wpAnyH_take (i := 3) (oi := { dst := some 59, op := Go.Op.fieldAddr 24 (Go.Operand.tmp 5) 1, type := 0, pos := _, after := #[], guard := none }) (v := ?v414) rfl (by kernel_rfl) (by kernel_rfl) (by kernel_rfl) (fun _ _ _ h => h) (Or.inl ⟨by kernel_rfl, ?hy414⟩) (by assumption) ?_
      case hy414 => intro w hSw; (try dsimp only at hSw); first | (go_simp; done) | (go_simp; with_reducible rfl)
      (try simp only [Act.put, List.setIfInBounds_toArray, List.set_cons_zero, List.set_cons_succ])
      refine wpAnyH_take (i := 4) (oi := { dst := some 60, op := Go.Op.load 3 (Go.Operand.tmp 59), type := 3, pos := _, after := #[{ on := 3, ground := Go.Ground.data }], guard := none }) (v := ?v415) rfl (by kernel_rfl) (by kernel_rfl) (by kernel_rfl) (fun _ _ _ h => h) (Or.inl ⟨by kernel_rfl, ?hy415⟩) (by assumption) ?_
      case hy415 => intro w hSw; (try dsimp only at hSw); first | (go_simp; done) | (go_simp; with_reducible rfl)
      (try simp only [Act.put, List.setIfInBounds_toArray, List.set_cons_zero, List.set_cons_succ])
      refine wpAnyH_ready (rs := [5]) (by kernel_rfl) (by simp) ?_
      refine AllReadyH.cons (o := { dst := some 61, op := Go.Op.call { callee := Go.Callee.value (Go.Operand.func 24), args := #[Go.Operand.tmp 58, Go.Operand.tmp 60], argTypes := #[9, 3] }, type := 54, pos := _, after := #[{ on := 2, ground := Go.Ground.data }, { on := 4, ground := Go.Ground.data }], guard := none }) rfl (fun K hK => ?_) AllReadyH.nil
      go_simp
      (go_at_call 24; refine (HR5.out _).mono ?_; rintro e wp ⟨⟨ok, rfl⟩, gp⟩; have hm1 := HM5.out.grow ((Grew.drew' (Grew.refl w3)).trans gp); have u0 := hm1.c2; have u1 := hm1.fz 2; have u2 := hm1.lt; have HS5 := Lib.hid (hm1.set2 y5); have HSC := (hm1.set2 y5).c1; have HGB := Lib.hid (grownBy_trans (((Grew.drew' (Grew.refl w3)).trans gp).by' (some cb)) (setCell_grown wp cb 2 (.int .i64 y5))); have HGP := Lib.hid ((Grew.drew' (Grew.refl w3)).trans gp); clear hm1)
      (try go_wp2_with fail)
      refine hK.out _ _ ?hS417 (fun hHeld => ?_)
      case hS417 => (try dsimp only); exact ⟨HGP.out.by' _, stay HGP.out q5, stay HGP.out r1⟩
      clear hK K
      (try simp only [Act.put, List.setIfInBounds_toArray, List.set_cons_zero, List.set_cons_succ])
      refine wpAnyH_take (i := 6) (oi := { dst := some 55, op := Go.Op.move (Go.Operand.tmp 61), type := 54, pos := _, after := #[{ on := 5, ground := Go.Ground.data }], guard := none }) (v := ?v418) rfl (by kernel_rfl) (by kernel_rfl) (by kernel_rfl) (fun _ _ _ h => h) (Or.inl ⟨by kernel_rfl, ?hy418⟩) (by assumption) ?_
      case hy418 => intro w hSw; (try dsimp only at hSw); first | (go_simp; done) | (go_simp; with_reducible rfl)
      (try simp only [Act.put, List.setIfInBounds_toArray, List.set_cons_zero, List.set_cons_succ])
      refine wpAnyH_take (i := 7) (oi := { dst := some 62, op := Go.Op.extract (Go.Operand.tmp 55) 0, type := 2, pos := _, after := #[{ on := 6, ground := Go.Ground.data }], guard := none }) (v := ?v419) rfl (by kernel_rfl) (by kernel_rfl) (by kernel_rfl) (fun _ _ _ h => h) (Or.inl ⟨by kernel_rfl, ?hy419⟩) (by assumption) ?_
      case hy419 => intro w hSw; (try dsimp only at hSw); first | (go_simp; done) | (go_simp; with_reducible rfl)
      (try simp only [Act.put, List.setIfInBounds_toArray, List.set_cons_zero, List.set_cons_succ])
      refine wpAnyH_take (i := 8) (oi := { dst := some 63, op := Go.Op.extract (Go.Operand.tmp 55) 1, type := 4, pos := _, after := #[{ on := 6, ground := Go.Ground.data }, { on := 10, ground := Go.Ground.gcOnly Go.Departure.lateStores }], guard := none }) (v := ?v420) rfl (by kernel_rfl) (by kernel_rfl) (by kernel_rfl) (fun _ _ _ h => h) (Or.inl ⟨by kernel_rfl, ?hy420⟩) (by assumption) ?_
      case hy420 => intro w hSw; (try dsimp only at hSw); first | (go_simp; done) | (go_simp; with_reducible rfl)
      (try simp only [Act.put, List.setIfInBounds_toArray, List.set_cons_zero, List.set_cons_succ])
      refine wpAnyH_take (i := 9) (oi := { dst := some 64, op := Go.Op.fieldAddr 24 (Go.Operand.tmp 5) 2, type := 0, pos := _, after := #[{ on := 0, ground := Go.Ground.phase }, { on := 1, ground := Go.Ground.phase }, { on := 2, ground := Go.Ground.phase }, { on := 3, ground := Go.Ground.phase }, { on := 4, ground := Go.Ground.phase }, { on := 5, ground := Go.Ground.phase }, { on := 6, ground := Go.Ground.phase }, { on := 7, ground := Go.Ground.phase }, { on := 8, ground := Go.Ground.textOnly Go.Departure.lateStores }], guard := none }) (v := ?v421) rfl (by kernel_rfl) (by kernel_rfl) (by kernel_rfl) (fun _ _ _ h => h) (Or.inl ⟨by kernel_rfl, ?hy421⟩) (by assumption) ?_
      case hy421 => intro w hSw; (try dsimp only at hSw); first | (go_simp; done) | (go_simp; with_reducible rfl)
      (try simp only [Act.put, List.setIfInBounds_toArray, List.set_cons_zero, List.set_cons_succ])
      refine wpAnyH_ready (rs := [10]) (by kernel_rfl) (by simp) ?_
      refine AllReadyH.cons (o := { dst := none, op := Go.Op.store 2 (Go.Operand.tmp 64) (Go.Operand.tmp 62), type := 0, pos := _, after := #[{ on := 9, ground := Go.Ground.data }, { on := 7, ground := Go.Ground.data }, { on := 5, ground := Go.Ground.chain }, { on := 0, ground := Go.Ground.phase }, { on := 1, ground := Go.Ground.phase }, { on := 2, ground := Go.Ground.phase }, { on := 3, ground := Go.Ground.phase }, { on := 4, ground := Go.Ground.phase }, { on := 5, ground := Go.Ground.phase }, { on := 6, ground := Go.Ground.phase }, { on := 7, ground := Go.Ground.phase }, { on := 8, ground := Go.Ground.textOnly Go.Departure.lateStores }], guard := none }) rfl (fun K hK => ?_) AllReadyH.nil
      go_simp
      skip
      (try go_wp2_with fail)
      refine hK.out _ _ ?hS423 (fun hHeld => ?_)
      case hS423 => (try dsimp only); exact ⟨HGB.out, stayB HGB.out q5 hne, HSC⟩
      clear hK K
      (try simp only [Act.put, List.setIfInBounds_toArray, List.set_cons_zero, List.set_cons_succ])
      refine wpAnyH_done (by kernel_rfl) ?_ _
      generalize wp.setCell ⟨cb, 2, none⟩ (.int .i64 y5) = w4 at *
      have HM6 := HS5
      have HG4 := HGB
      clear HS5 HGB HSC HGP hHeld gp u0 u1 u2 r1 HM5
      have r1 := HM6.out.c1
      have q7 := stayB HG4.out q7 hne
      go_upto_region 6 with fail
      refine wp_region_held_drew (S := (fun W' => w4.grownBy W' (some cb) ∧ W'.cell? ⟨pg, 7, none⟩ = some (.string ⟨P7.toArray⟩) ∧ W'.cell? ⟨cb, 1, none⟩ = some (.int .i64 x3))) (by kernel_rfl) ⟨Grew.by' (Grew.drew' (Grew.refl _)) _, q7, r1⟩ (fun hHeld => ?_)
      refine wpAnyH_take (i := 0) (oi := { dst := some 66, op := Go.Op.move (Go.Operand.tmp 4), type := 35, pos := _, after := #[], guard := none }) (v := ?v424) rfl (by kernel_rfl) (by kernel_rfl) (by kernel_rfl) (fun _ _ _ h => h) (Or.inl ⟨by kernel_rfl, ?hy424⟩) (by assumption) ?_
      case hy424 => intro w hSw; (try dsimp only at hSw); first | (go_simp; done) | (go_simp; with_reducible rfl)
      (try simp only [Act.put, List.setIfInBounds_toArray, List.set_cons_zero, List.set_cons_succ])
      refine wpAnyH_take (i := 1) (oi := { dst := some 67, op := Go.Op.indexAddr 35 (Go.Operand.tmp 66) (Go.Operand.const (Go.Value.int Go.IntKind.i64 7)), type := 0, pos := _, after := #[{ on := 0, ground := Go.Ground.data }], guard := none }) (v := ?v425) rfl (by kernel_rfl) (by kernel_rfl) (by kernel_rfl) (fun _ _ _ h => h) (Or.inl ⟨by kernel_rfl, ?hy425⟩) (by assumption) ?_
      case hy425 => intro w hSw; (try dsimp only at hSw); first | (go_simp; done) | (go_simp; with_reducible rfl)
      (try simp only [Act.put, List.setIfInBounds_toArray, List.set_cons_zero, List.set_cons_succ])
      refine wpAnyH_take (i := 2) (oi := { dst := some 68, op := Go.Op.load 9 (Go.Operand.tmp 67), type := 9, pos := _, after := #[{ on := 1, ground := Go.Ground.data }], guard := none }) (v := ?v426) rfl (by kernel_rfl) (by kernel_rfl) (by kernel_rfl) (fun _ _ _ h => h) (Or.inl ⟨by kernel_rfl, ?hy426⟩) (by assumption) ?_
      case hy426 => intro w hSw; (try dsimp only at hSw); first | (go_simp; done) | (go_simp; with_reducible rfl)
      (try simp only [Act.put, List.setIfInBounds_toArray, List.set_cons_zero, List.set_cons_succ])
      refine wpAnyH_take (i := 3) (oi := { dst := some 69, op := Go.Op.fieldAddr 24 (Go.Operand.tmp 5) 1, type := 0, pos := _, after := #[], guard := none }) (v := ?v427) rfl (by kernel_rfl) (by kernel_rfl) (by kernel_rfl) (fun _ _ _ h => h) (Or.inl ⟨by kernel_rfl, ?hy427⟩) (by assumption) ?_
      case hy427 => intro w hSw; (try dsimp only at hSw); first | (go_simp; done) | (go_simp; with_reducible rfl)
      (try simp only [Act.put, List.setIfInBounds_toArray, List.set_cons_zero, List.set_cons_succ])
      refine wpAnyH_take (i := 4) (oi := { dst := some 70, op := Go.Op.load 3 (Go.Operand.tmp 69), type := 3, pos := _, after := #[{ on := 3, ground := Go.Ground.data }], guard := none }) (v := ?v428) rfl (by kernel_rfl) (by kernel_rfl) (by kernel_rfl) (fun _ _ _ h => h) (Or.inl ⟨by kernel_rfl, ?hy428⟩) (by assumption) ?_
      case hy428 => intro w hSw; (try dsimp only at hSw); first | (go_simp; done) | (go_simp; with_reducible rfl)
      (try simp only [Act.put, List.setIfInBounds_toArray, List.set_cons_zero, List.set_cons_succ])
      refine wpAnyH_ready (rs := [5]) (by kernel_rfl) (by simp) ?_
      refine AllReadyH.cons (o := { dst := some 71, op := Go.Op.call { callee := Go.Callee.value (Go.Operand.func 24), args := #[Go.Operand.tmp 68, Go.Operand.tmp 70], argTypes := #[9, 3] }, type := 54, pos := _, after := #[{ on := 2, ground := Go.Ground.data }, { on := 4, ground := Go.Ground.data }], guard := none }) rfl (fun K hK => ?_) AllReadyH.nil
      go_simp
      (go_at_call 24; refine (HR7.out _).mono ?_; rintro e wp ⟨⟨ok, rfl⟩, gp⟩; have hm1 := HM6.out.grow ((Grew.drew' (Grew.refl w4)).trans gp); have u0 := hm1.c3; have u1 := hm1.fz 3; have u2 := hm1.lt; have HS6 := Lib.hid (hm1.set3 y7); have HSC := (hm1.set3 y7).c1; have HGB := Lib.hid (grownBy_trans (((Grew.drew' (Grew.refl w4)).trans gp).by' (some cb)) (setCell_grown wp cb 3 (.int .i64 y7))); have HGP := Lib.hid ((Grew.drew' (Grew.refl w4)).trans gp); clear hm1)
      (try go_wp2_with fail)
      refine hK.out _ _ ?hS430 (fun hHeld => ?_)
      case hS430 => (try dsimp only); exact ⟨HGP.out.by' _, stay HGP.out q7, stay HGP.out r1⟩
      clear hK K
      (try simp only [Act.put, List.setIfInBounds_toArray, List.set_cons_zero, List.set_cons_succ])
      refine wpAnyH_take (i := 6) (oi := { dst := some 65, op := Go.Op.move (Go.Operand.tmp 71), type := 54, pos := _, after := #[{ on := 5, ground := Go.Ground.data }], guard := none }) (v := ?v431) rfl (by kernel_rfl) (by kernel_rfl) (by kernel_rfl) (fun _ _ _ h => h) (Or.inl ⟨by kernel_rfl, ?hy431⟩) (by assumption) ?_
      case hy431 => intro w hSw; (try dsimp only at hSw); first | (go_simp; done) | (go_simp; with_reducible rfl)
      (try simp only [Act.put, List.setIfInBounds_toArray, List.set_cons_zero, List.set_cons_succ])
      refine wpAnyH_take (i := 7) (oi := { dst := some 72, op := Go.Op.extract (Go.Operand.tmp 65) 0, type := 2, pos := _, after := #[{ on := 6, ground := Go.Ground.data }], guard := none }) (v := ?v432) rfl (by kernel_rfl) (by kernel_rfl) (by kernel_rfl) (fun _ _ _ h => h) (Or.inl ⟨by kernel_rfl, ?hy432⟩) (by assumption) ?_
      case hy432 => intro w hSw; (try dsimp only at hSw); first | (go_simp; done) | (go_simp; with_reducible rfl)
      (try simp only [Act.put, List.setIfInBounds_toArray, List.set_cons_zero, List.set_cons_succ])
      refine wpAnyH_take (i := 8) (oi := { dst := some 73, op := Go.Op.extract (Go.Operand.tmp 65) 1, type := 4, pos := _, after := #[{ on := 6, ground := Go.Ground.data }, { on := 10, ground := Go.Ground.gcOnly Go.Departure.lateStores }], guard := none }) (v := ?v433) rfl (by kernel_rfl) (by kernel_rfl) (by kernel_rfl) (fun _ _ _ h => h) (Or.inl ⟨by kernel_rfl, ?hy433⟩) (by assumption) ?_
      case hy433 => intro w hSw; (try dsimp only at hSw); first | (go_simp; done) | (go_simp; with_reducible rfl)
      (try simp only [Act.put, List.setIfInBounds_toArray, List.set_cons_zero, List.set_cons_succ])
      refine wpAnyH_take (i := 9) (oi := { dst := some 74, op := Go.Op.fieldAddr 24 (Go.Operand.tmp 5) 3, type := 0, pos := _, after := #[{ on := 0, ground := Go.Ground.phase }, { on := 1, ground := Go.Ground.phase }, { on := 2, ground := Go.Ground.phase }, { on := 3, ground := Go.Ground.phase }, { on := 4, ground := Go.Ground.phase }, { on := 5, ground := Go.Ground.phase }, { on := 6, ground := Go.Ground.phase }, { on := 7, ground := Go.Ground.phase }, { on := 8, ground := Go.Ground.textOnly Go.Departure.lateStores }], guard := none }) (v := ?v434) rfl (by kernel_rfl) (by kernel_rfl) (by kernel_rfl) (fun _ _ _ h => h) (Or.inl ⟨by kernel_rfl, ?hy434⟩) (by assumption) ?_
      case hy434 => intro w hSw; (try dsimp only at hSw); first | (go_simp; done) | (go_simp; with_reducible rfl)
      (try simp only [Act.put, List.setIfInBounds_toArray, List.set_cons_zero, List.set_cons_succ])
      refine wpAnyH_ready (rs := [10]) (by kernel_rfl) (by simp) ?_
      refine AllReadyH.cons (o := { dst := none, op := Go.Op.store 2 (Go.Operand.tmp 74) (Go.Operand.tmp 72), type := 0, pos := _, after := #[{ on := 9, ground := Go.Ground.data }, { on := 7, ground := Go.Ground.data }, { on := 5, ground := Go.Ground.chain }, { on := 0, ground := Go.Ground.phase }, { on := 1, ground := Go.Ground.phase }, { on := 2, ground := Go.Ground.phase }, { on := 3, ground := Go.Ground.phase }, { on := 4, ground := Go.Ground.phase }, { on := 5, ground := Go.Ground.phase }, { on := 6, ground := Go.Ground.phase }, { on := 7, ground := Go.Ground.phase }, { on := 8, ground := Go.Ground.textOnly Go.Departure.lateStores }], guard := none }) rfl (fun K hK => ?_) AllReadyH.nil
      go_simp
      skip
      (try go_wp2_with fail)
      refine hK.out _ _ ?hS436 (fun hHeld => ?_)
      case hS436 => (try dsimp only); exact ⟨HGB.out, stayB HGB.out q7 hne, HSC⟩
      clear hK K
      (try simp only [Act.put, List.setIfInBounds_toArray, List.set_cons_zero, List.set_cons_succ])
      refine wpAnyH_done (by kernel_rfl) ?_ _
      generalize wp.setCell ⟨cb, 3, none⟩ (.int .i64 y7) = w5 at *
      have HM7 := HS6
      have HG5 := Lib.hid (grownBy_trans HG4.out HGB.out)
      clear HS6 HGB HSC HGP hHeld gp u0 u1 u2 r1 HM6 q5 q7 HR5 HR7
      have HB7 : Hid (BufK .i64 3 w2.heap.size w5 a zs.length c zs) := Lib.hid (own_left HBE.out HG5.out (fun g hg e => by have h := Option.some.inj e; subst h; exact cell_row_ne HBE.out HCE.out hg))
      have HZL : Hid (zs.length ≤ 2000) := Lib.hid (by rw [HZS.out, List.length_map]; exact Nat.le_trans HZN.out (by decide))
      have HFZ : Hid ((⟨zs, x3, y5, y7, x9, x11, x13, x15, x17, x19, x21, x23⟩ : Cf).z = zs) := Lib.hid rfl
      generalize (⟨zs, x3, y5, y7, x9, x11, x13, x15, x17, x19, x21, x23⟩ : Cf) = F at *
      have HPF : Hid (parseC s.data.toList = if textC F = (s.data.toList, true) then some F else none) := Lib.hid (by rw [HSAME.out, HREF.out])
      have HAF : Hid (AllIn F) := Lib.hid (by rw [← HREF.out]; exact HRIN.out)
      have HGW5 : Hid (Grew w w5) := Lib.hid ((HG1.out.trans HGE.out).trans_below (grownBy_below HG5.out (Nat.le_trans HG1.out.size hcb) (Nat.le_trans HG1.out.size HGE.out.size)) (Nat.le_refl _))
      have HRM5 : Hid (CfM w5 rb none 0 0 zeroC) := Lib.hid ((HRM1.out.grow HGE.out).grown HG5.out (fun e => hrc (Option.some.inj e)))
      have HRD : Hid (RdK .i64 w5.heap.size w5 a F.z) := Lib.hid (by rw [HFZ.out]; exact HB7.out.rd)
      have HFL : Hid (F.z.length = zs.length) := Lib.hid (by rw [HFZ.out])
      have f0 := HM7.out.c0
      have f1 := HM7.out.c1
      have f2 := HM7.out.c2
      have f3 := HM7.out.c3
      have f4 := HM7.out.c4
      have f5 := HM7.out.c5
      have f6 := HM7.out.c6
      have f7 := HM7.out.c7
      have f8 := HM7.out.c8
      have f9 := HM7.out.c9
      have f10 := HM7.out.c10
      have f11 := HM7.out.c11
      clear HSAME HREF HRIN HRM1 HG1 HGE HCE HBE HG4 HG5
      go_wp2_with fail
      refine (rtextC_any a c F w5 HFL.out HZL.out HAF.out HRD.out).mono ?_
      rintro e w6 ⟨rfl, g6⟩
      have HM8 := Lib.hid (HM7.out.grow g6)
      have HB8 := Lib.hid (own_grow HB7.out g6)
      have HG8 := Lib.hid (HGW5.out.trans g6)
      have HR8 := Lib.hid (HRM5.out.grow g6)
      clear g6 HM7 HB7 HGW5 HRM5 f0 f1 f2 f3 f4 f5 f6 f7 f8 f9 f10 f11
      by_cases ho : okC F
      · have hT := textC_yes ho
        by_cases heq : confL F = s.data.toList
        · have HPY : Hid (parseC s.data.toList = some F) := Lib.hid (by rw [HPF.out, hT, heq, if_pos rfl])
          rw [hT]
          have b1 : (confL F == s.toList) = true := by rw [Lib.toList_data, heq]; simp
          have b2 : (confL F != s.toList) = false := by rw [Lib.toList_data, heq]; simp
          generalize confL F = L at *
          clear ho hT heq
          have f0 := HM8.out.c0
          have f1 := HM8.out.c1
          have f2 := HM8.out.c2
          have f3 := HM8.out.c3
          have f4 := HM8.out.c4
          have f5 := HM8.out.c5
          have f6 := HM8.out.c6
          have f7 := HM8.out.c7
          have f8 := HM8.out.c8
          have f9 := HM8.out.c9
          have f10 := HM8.out.c10
          have f11 := HM8.out.c11
          go_wp2_with (refine wpList_store_row rfl 24 (.tmp 2) (.tmp 88) rfl rb #[.slice a zs.length c, .int .i64 F.sh, .int .i64 F.ra, .int .i64 F.mo, .int .i64 F.wo, .int .i64 F.ba, .int .i64 F.mi, .int .i64 F.st, .int .i64 F.bu, .int .i64 F.ch, .int .i64 F.wi, .int .i64 F.ca] rfl rfl 24 _ HR8.out (by kernel_rfl) rfl (by kernel_rfl) ?_)
          have hld := run_loadVar_row (P := Tryz.prog) (w6.setRow rb #[.slice a zs.length c, .int .i64 F.sh, .int .i64 F.ra, .int .i64 F.mo, .int .i64 F.wo, .int .i64 F.ba, .int .i64 F.mi, .int .i64 F.st, .int .i64 F.bu, .int .i64 F.ch, .int .i64 F.wi, .int .i64 F.ca]) rb 24 24 #[.slice a zs.length c, .int .i64 F.sh, .int .i64 F.ra, .int .i64 F.mo, .int .i64 F.wo, .int .i64 F.ba, .int .i64 F.mi, .int .i64 F.st, .int .i64 F.bu, .int .i64 F.ch, .int .i64 F.wi, .int .i64 F.ca] (0, 0) _ (setRow_heap _ _ _ _ _ _ HR8.out) Tryz.underlying24 rfl (by kernel_rfl)
          have HGF : Hid (Grew w (w6.setRow rb #[.slice a zs.length c, .int .i64 F.sh, .int .i64 F.ra, .int .i64 F.mo, .int .i64 F.wo, .int .i64 F.ba, .int .i64 F.mi, .int .i64 F.st, .int .i64 F.bu, .int .i64 F.ch, .int .i64 F.wi, .int .i64 F.ca])) := Lib.hid (below_setRow HG8.out (by rw [HRB.out]; exact Nat.le_refl _) _)
          have HBF : Hid (BufK .i64 3 w.heap.size (w6.setRow rb #[.slice a zs.length c, .int .i64 F.sh, .int .i64 F.ra, .int .i64 F.mo, .int .i64 F.wo, .int .i64 F.ba, .int .i64 F.mi, .int .i64 F.st, .int .i64 F.bu, .int .i64 F.ch, .int .i64 F.wi, .int .i64 F.ca]) a zs.length c zs) := Lib.hid (row_mono (own_left HB8.out (setRow_grown _ _ _) (fun g hg e => by have h := Option.some.inj e; subst h; exact cell_row_ne HB8.out HR8.out hg)) (Nat.le_trans HWW.out (Nat.le_refl _)))
          refine bodyPost_ret (v := .tuple #[.agg #[.slice a zs.length c, .int .i64 F.sh, .int .i64 F.ra, .int .i64 F.mo, .int .i64 F.wo, .int .i64 F.ba, .int .i64 F.mi, .int .i64 F.st, .int .i64 F.bu, .int .i64 F.ch, .int .i64 F.wi, .int .i64 F.ca], .bool true]) ?hv rfl ?hp
          case hv => exact results_cell_tmp Tryz.results11 rfl hld rfl
          case hp => exact ⟨.inl ⟨F, a, zs.length, c, HPY.out, rfl, HFL.out, by rw [HFZ.out]; exact HBF.out⟩, HGF.out⟩
        · have HNO : Hid (parseC s.data.toList = none) := Lib.hid (by rw [HPF.out, hT, if_neg (fun e => heq (congrArg Prod.fst e))])
          rw [hT]
          have b1 : (confL F == s.toList) = false := by rw [Lib.toList_data, beq_eq_false_iff_ne]; exact heq
          have b2 : (confL F != s.toList) = true := by rw [Lib.toList_data]; simp [heq]
          generalize confL F = L at *
          clear ho hT heq
          go_wp2_with (refine wpList_store_row rfl 24 (.tmp 2) (.tmp 87) rfl rb #[.slice none 0 0, .int .i64 0, .int .i64 0, .int .i64 0, .int .i64 0, .int .i64 0, .int .i64 0, .int .i64 0, .int .i64 0, .int .i64 0, .int .i64 0, .int .i64 0] rfl rfl 24 _ HR8.out (by kernel_rfl) rfl (by kernel_rfl) ?_)
          have hld := run_loadVar_row (P := Tryz.prog) (w6.setRow rb #[.slice none 0 0, .int .i64 0, .int .i64 0, .int .i64 0, .int .i64 0, .int .i64 0, .int .i64 0, .int .i64 0, .int .i64 0, .int .i64 0, .int .i64 0, .int .i64 0]) rb 24 24 #[.slice none 0 0, .int .i64 0, .int .i64 0, .int .i64 0, .int .i64 0, .int .i64 0, .int .i64 0, .int .i64 0, .int .i64 0, .int .i64 0, .int .i64 0, .int .i64 0] (0, 0) _ (setRow_heap _ _ _ _ _ _ HR8.out) Tryz.underlying24 rfl (by kernel_rfl)
          have HGF : Hid (Grew w (w6.setRow rb #[.slice none 0 0, .int .i64 0, .int .i64 0, .int .i64 0, .int .i64 0, .int .i64 0, .int .i64 0, .int .i64 0, .int .i64 0, .int .i64 0, .int .i64 0, .int .i64 0])) := Lib.hid (below_setRow HG8.out (by rw [HRB.out]; exact Nat.le_refl _) _)
          refine bodyPost_ret (v := .tuple #[.agg #[.slice none 0 0, .int .i64 0, .int .i64 0, .int .i64 0, .int .i64 0, .int .i64 0, .int .i64 0, .int .i64 0, .int .i64 0, .int .i64 0, .int .i64 0, .int .i64 0], .bool false]) ?hv rfl ?hp
          case hv => exact results_cell_tmp Tryz.results11 rfl hld rfl
          case hp => exact ⟨.inr ⟨HNO.out, rfl⟩, HGF.out⟩
      · have hT := textC_no ho
        have HNO : Hid (parseC s.data.toList = none) := Lib.hid (by rw [HPF.out, hT, if_neg (fun e => by have := congrArg Prod.snd e; cases this)])
        rw [hT]
        clear ho hT
        go_wp2_with (refine wpList_store_row rfl 24 (.tmp 2) (.tmp 87) rfl rb #[.slice none 0 0, .int .i64 0, .int .i64 0, .int .i64 0, .int .i64 0, .int .i64 0, .int .i64 0, .int .i64 0, .int .i64 0, .int .i64 0, .int .i64 0, .int .i64 0] rfl rfl 24 _ HR8.out (by kernel_rfl) rfl (by kernel_rfl) ?_)
        have hld := run_loadVar_row (P := Tryz.prog) (w6.setRow rb #[.slice none 0 0, .int .i64 0, .int .i64 0, .int .i64 0, .int .i64 0, .int .i64 0, .int .i64 0, .int .i64 0, .int .i64 0, .int .i64 0, .int .i64 0, .int .i64 0]) rb 24 24 #[.slice none 0 0, .int .i64 0, .int .i64 0, .int .i64 0, .int .i64 0, .int .i64 0, .int .i64 0, .int .i64 0, .int .i64 0, .int .i64 0, .int .i64 0, .int .i64 0] (0, 0) _ (setRow_heap _ _ _ _ _ _ HR8.out) Tryz.underlying24 rfl (by kernel_rfl)
        have HGF : Hid (Grew w (w6.setRow rb #[.slice none 0 0, .int .i64 0, .int .i64 0, .int .i64 0, .int .i64 0, .int .i64 0, .int .i64 0, .int .i64 0, .int .i64 0, .int .i64 0, .int .i64 0, .int .i64 0])) := Lib.hid (below_setRow HG8.out (by rw [HRB.out]; exact Nat.le_refl _) _)
        refine bodyPost_ret (v := .tuple #[.agg #[.slice none 0 0, .int .i64 0, .int .i64 0, .int .i64 0, .int .i64 0, .int .i64 0, .int .i64 0, .int .i64 0, .int .i64 0, .int .i64 0, .int .i64 0, .int .i64 0], .bool false]) ?hv rfl ?hp
        case hv => exact results_cell_tmp Tryz.results11 rfl hld rfl
        case hp => exact ⟨.inr ⟨HNO.out, rfl⟩, HGF.out⟩
  · have HNO := Lib.hid (parseC_no (l := s.data.toList) (by rw [HLN.out]; exact h24))
    have hm1 : ((m : Int) != 24) = true := by simp; omega
    have hm2 : ¬ (m : Int) = 24 := by omega
    have hm3 : decide ((m : Int) = 24) = false := decide_eq_false hm2
    go_wp2_with (refine wpList_store_row rfl 24 (.tmp 2) (.tmp 13) rfl rb #[.slice none 0 0, .int .i64 0, .int .i64 0, .int .i64 0, .int .i64 0, .int .i64 0, .int .i64 0, .int .i64 0, .int .i64 0, .int .i64 0, .int .i64 0, .int .i64 0] rfl rfl 24 _ HRM1.out (by kernel_rfl) rfl (by kernel_rfl) ?_)
    have hld := run_loadVar_row (P := Tryz.prog) (w2.setRow rb #[.slice none 0 0, .int .i64 0, .int .i64 0, .int .i64 0, .int .i64 0, .int .i64 0, .int .i64 0, .int .i64 0, .int .i64 0, .int .i64 0, .int .i64 0, .int .i64 0]) rb 24 24 #[.slice none 0 0, .int .i64 0, .int .i64 0, .int .i64 0, .int .i64 0, .int .i64 0, .int .i64 0, .int .i64 0, .int .i64 0, .int .i64 0, .int .i64 0, .int .i64 0] (0, 0) _ (setRow_heap _ _ _ _ _ _ HRM1.out) Tryz.underlying24 rfl (by kernel_rfl)
    have HGF : Hid (Grew w (w2.setRow rb #[.slice none 0 0, .int .i64 0, .int .i64 0, .int .i64 0, .int .i64 0, .int .i64 0, .int .i64 0, .int .i64 0, .int .i64 0, .int .i64 0, .int .i64 0, .int .i64 0])) := Lib.hid (below_setRow HG1.out (by rw [HRB.out]; exact Nat.le_refl _) _)
    refine bodyPost_ret (v := .tuple #[.agg #[.slice none 0 0, .int .i64 0, .int .i64 0, .int .i64 0, .int .i64 0, .int .i64 0, .int .i64 0, .int .i64 0, .int .i64 0, .int .i64 0, .int .i64 0, .int .i64 0], .bool false]) ?hv rfl ?hp
    case hv => exact results_cell_tmp Tryz.results11 rfl hld rfl
    case hp => exact ⟨.inr ⟨HNO.out, rfl⟩, HGF.out⟩

end Go.Proofs.YthcahpgandappaaGreatDoor
