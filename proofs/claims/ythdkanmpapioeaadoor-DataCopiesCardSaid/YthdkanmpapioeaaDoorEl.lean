/- The reference's Parse: the example of a text, or none. Condition: strings of at most 900 bytes. -/
import Derived.Test.YthdkanmpapioeaaDoorEk
import Derived.Test.YthdkanmpapioeaaDoorYt
namespace Go.Proofs.YthdkanmpapioeaaDoor
open Go.RowKit Go.Shelf

/-- A comparison of two strings, as the walk spells it. -/
theorem strB_lit (s : ByteArray) (l : List UInt8) : (s.toList == l) = decide (s.data.toList = l) := by
  rw [Lib.toList_data]
  by_cases h : s.data.toList = l
  · rw [h]; simp
  · rw [decide_eq_false h, beq_eq_false_iff_ne]; exact h
theorem strB_lit' (s : ByteArray) (l : List UInt8) : (l == s.toList) = decide (l = s.data.toList) := by
  rw [Lib.toList_data]
  by_cases h : l = s.data.toList
  · rw [h]; simp
  · rw [decide_eq_false h, beq_eq_false_iff_ne]; exact h
/-- A row of the call's own is left where a row of another element type is written. -/
theorem own_else {w w' : World} {B B' n n' size size' : Nat} {e e' : TypeId} {v v' : Value} {xs ys : List Value} (h : w.ownsRow B e size v n xs) (h' : w.ownsRow B' e' size' v' n' ys) (hne : e ≠ e') (hg : w.grownBy w' v'.ownBlock) : w'.ownsRow B e size v n xs := by
  refine own_left h hg (fun g hv hq => ?_)
  rcases h.2 with ⟨rfl, _⟩ | ⟨g1, c1, cur1, rfl, _, hc1, _⟩
  · cases hv
  · rcases h'.2 with ⟨rfl, _⟩ | ⟨g2, c2, cur2, rfl, _, hc2, _⟩
    · cases hq
    · have e1 : g1 = g := by injection hv
      have e2 : g = g2 := by injection hq
      subst e1
      subst e2
      rw [hc1] at hc2
      injection hc2 with hc2
      injection hc2 with _ h2
      exact hne h2
theorem rparse_pO (t : ByteArray) (q : Int) (w : World) :
    Calls Tryd.prog 32 #[.string t, .int .i64 q] w fun e w' => ((∃ x, pO q t.data.toList = some x ∧ e = .returned (.tuple #[.int .i64 x, .bool true])) ∨ (pO q t.data.toList = none ∧ ∃ x, e = .returned (.tuple #[.int .i64 x, .bool false]))) ∧ Grew w w' := by
  by_cases h : qOk q ∧ t.size ≤ 100
  · obtain ⟨n, rfl⟩ := Int.eq_ofNat_of_zero_le h.1.1
    have hn : n ≤ 62 := by have := h.1.2; omega
    refine (rparse_yes t n w hn h.2).mono ?_
    rintro e w1 ⟨rfl, g⟩
    rw [parse_same hn]
    refine ⟨?_, g⟩
    cases hv : (parseV t.data.toList n).2 with
    | true => exact .inl ⟨_, if_pos ⟨h.1, by rw [Int.toNat_natCast]; exact hv⟩, by rw [Int.toNat_natCast]⟩
    | false => exact .inr ⟨if_neg (fun c => by have := c.2; rw [Int.toNat_natCast, hv] at this; cases this), _, rfl⟩
  · refine (rparse_none t q w ?_).mono ?_
    · by_cases hq : qOk q
      · exact .inr (by rcases Nat.lt_or_ge 100 t.size with h1 | h1
                       · exact h1
                       · exact absurd ⟨hq, h1⟩ h)
      · exact .inl hq
    · rintro e w1 ⟨rfl, g⟩
      refine ⟨.inr ⟨?_, _, rfl⟩, g⟩
      cases hp : pO q t.data.toList with
      | none => rfl
      | some x =>
        obtain ⟨h1, h2, h3⟩ := pO_some hp
        have hl := text_len (toNat_le h1) h2.1 h2.2
        rw [h3, ← size_data] at hl
        exact absurd ⟨h1, by omega⟩ h

/-- The example that is being read, in block b; its lists are the call's own, and lie apart. -/
def PsE (B : Nat) (W : World) (b : Nat) (e : Ex) : Prop := ∃ xa xc ya yc, Two W b 24 (.slice xa e.1.length xc) (.slice ya e.2.length yc) ∧
  BufK .i64 2 B W xa e.1.length xc e.1 ∧ BufK .i64 2 B W ya e.2.length yc e.2 ∧ ∀ g, (Value.slice xa e.1.length xc).ownBlock = some g → (Value.slice ya e.2.length yc).ownBlock ≠ some g
theorem PsE.grow {B b : Nat} {W W' : World} {e : Ex} (h : PsE B W b e) (g : Grew W W') : PsE B W' b e := by
  obtain ⟨xa, xc, ya, yc, h1, h2, h3, h4⟩ := h
  exact ⟨xa, xc, ya, yc, h1.grow g, h2.grow g, h3.grow g, h4⟩
theorem buf_lt {q : IntKind} {e : TypeId} {B n cap g : Nat} {W : World} {a : Option Addr} {zs : List Int} (h : BufK q e B W a n cap zs) (hg : (Value.slice a n cap).ownBlock = some g) : B ≤ g ∧ g < W.heap.size := World.ownsRow.lt h g hg
/-- Behind an append to the outputs and its store. -/
theorem PsE.right {B b n : Nat} {W W1 : World} {tmp : Obj} {x y : List Int} {z : Int} {xa ya : Option Addr} {xc yc : Nat} {v' : Value} (hT : Two W b 24 (.slice xa x.length xc) (.slice ya y.length yc)) (hb : b < B)
    (hX : BufK .i64 2 B W xa x.length xc x) (hY : BufK .i64 2 B W ya y.length yc y) (hd : ∀ g, (Value.slice xa x.length xc).ownBlock = some g → (Value.slice ya y.length yc).ownBlock ≠ some g)
    (hn : n = y.length + 1) (hown : W1.ownsRow B 2 1 v' n (y.map (Value.int .i64) ++ [.int .i64 z])) (hgr : (W.alloc tmp).grownBy W1 (Value.slice ya y.length yc).ownBlock)
    (hlie : v'.ownBlock = (Value.slice ya y.length yc).ownBlock ∨ v'.ownBlock = some (W.heap.size + 1)) :
    (Two W1 b 24 (.slice xa x.length xc) (.slice ya y.length yc)) ∧ PsE B (W1.setCell ⟨b, 1, none⟩ v') b (x, y ++ [z]) := by
  have hT1 : Two W1 b 24 (.slice xa x.length xc) (.slice ya y.length yc) := (hT.alloc tmp).grown hgr (fun e => by have := (buf_lt hY e.symm).1; omega)
  refine ⟨hT1, ?_⟩
  subst hn
  obtain ⟨a', c', rfl⟩ := own_form hown
  have hs : W1.grownBy (W1.setCell ⟨b, 1, none⟩ (.slice a' (y.length + 1) c')) (some b) := grownBy_setCell1 W1 ⟨b, 1, none⟩ _
  have hX1 : BufK .i64 2 B W1 xa x.length xc x := own_left (hX.grow ((Grew.refl W).alloc tmp)) hgr (fun g hg e => hd g hg e.symm)
  have hY1 : W1.ownsRow B 2 1 (.slice a' (y.length + 1) c') (y.length + 1) ((y ++ [z]).map (Value.int .i64)) := by rw [List.map_append]; exact hown
  refine ⟨xa, xc, a', c', ?_, own_aside hX1 hs hb, ?_, ?_⟩
  · show Two _ b _ _ (.slice a' (y ++ [z]).length c')
    rw [List.length_append]
    exact hT1.set1 _
  · show BufK _ _ _ _ a' (y ++ [z]).length c' (y ++ [z])
    rw [List.length_append]
    exact own_aside hY1 hs hb
  · intro g hg e
    have e : (Value.slice a' (y ++ [z]).length c').ownBlock = some g := e
    rw [List.length_append] at e
    have e : (Value.slice a' (y.length + 1) c').ownBlock = some g := e
    rcases hlie with h | h
    · exact hd g hg (h.symm.trans e)
    · rw [h] at e
      injection e with e
      have := (buf_lt hX hg).2
      omega
theorem PsE.left {B b n : Nat} {W W1 : World} {tmp : Obj} {x y : List Int} {z : Int} {xa ya : Option Addr} {xc yc : Nat} {v' : Value} (hT : Two W b 24 (.slice xa x.length xc) (.slice ya y.length yc)) (hb : b < B)
    (hX : BufK .i64 2 B W xa x.length xc x) (hY : BufK .i64 2 B W ya y.length yc y) (hd : ∀ g, (Value.slice xa x.length xc).ownBlock = some g → (Value.slice ya y.length yc).ownBlock ≠ some g)
    (hn : n = x.length + 1) (hown : W1.ownsRow B 2 1 v' n (x.map (Value.int .i64) ++ [.int .i64 z])) (hgr : (W.alloc tmp).grownBy W1 (Value.slice xa x.length xc).ownBlock)
    (hlie : v'.ownBlock = (Value.slice xa x.length xc).ownBlock ∨ v'.ownBlock = some (W.heap.size + 1)) :
    (Two W1 b 24 (.slice xa x.length xc) (.slice ya y.length yc)) ∧ PsE B (W1.setCell ⟨b, 0, none⟩ v') b (x ++ [z], y) := by
  have hT1 : Two W1 b 24 (.slice xa x.length xc) (.slice ya y.length yc) := (hT.alloc tmp).grown hgr (fun e => by have := (buf_lt hX e.symm).1; omega)
  refine ⟨hT1, ?_⟩
  subst hn
  obtain ⟨a', c', rfl⟩ := own_form hown
  have hs : W1.grownBy (W1.setCell ⟨b, 0, none⟩ (.slice a' (x.length + 1) c')) (some b) := grownBy_setCell1 W1 ⟨b, 0, none⟩ _
  have hY1 : BufK .i64 2 B W1 ya y.length yc y := own_left (hY.grow ((Grew.refl W).alloc tmp)) hgr (fun g hg e => hd g e.symm hg)
  have hX1 : W1.ownsRow B 2 1 (.slice a' (x.length + 1) c') (x.length + 1) ((x ++ [z]).map (Value.int .i64)) := by rw [List.map_append]; exact hown
  refine ⟨a', c', ya, yc, ?_, ?_, own_aside hY1 hs hb, ?_⟩
  · show Two _ b _ (.slice a' (x ++ [z]).length c') _
    rw [List.length_append]
    exact hT1.set0 _
  · show BufK _ _ _ _ a' (x ++ [z]).length c' (x ++ [z])
    rw [List.length_append]
    exact own_aside hX1 hs hb
  · intro g e hg
    have e : (Value.slice a' (x ++ [z]).length c').ownBlock = some g := e
    rw [List.length_append] at e
    have e : (Value.slice a' (x.length + 1) c').ownBlock = some g := e
    rcases hlie with h | h
    · exact hd g (h.symm.trans e) hg
    · rw [h] at e
      injection e with e
      have := (buf_lt hY hg).2
      omega

/-- The example's numbers are at most as many as the words that have been read. -/
theorem wordsE_step {q : Int} {l : List (List UInt8)} {k : Nat} {w : List UInt8} (h : l[k]? = some w) (right : Bool) (e : Ex) :
    wordsE q (l.drop k) right e = if w = [62] ∧ right = false then wordsE q (l.drop (k + 1)) true e else match pO q w with
      | none => none
      | some x => wordsE q (l.drop (k + 1)) right (addE right e x) := by
  have hk : k < l.length := (List.getElem?_eq_some_iff.1 h).1
  rw [List.drop_eq_getElem_cons hk]
  have : l[k] = w := (List.getElem?_eq_some_iff.1 h).2
  rw [this, wordsE]
  rfl
def sumE (e : Ex) : Nat := e.1.length + e.2.length
theorem sum_add (right : Bool) (e : Ex) (x : Int) : sumE (addE right e x) = sumE e + 1 := by
  cases right <;> simp [sumE, addE] <;> omega
theorem readR_at {l : List UInt8} {q : Int} {e : Ex} (h : wordsE q (splitSp l) false ([], []) = some e) : readE l q = if exT e q = (l, true) then some e else none := by
  rw [← readR_same]; unfold readR; rw [h]
theorem readR_no {l : List UInt8} {q : Int} (h : wordsE q (splitSp l) false ([], []) = none) : readE l q = none := by
  rw [← readR_same]; unfold readR; rw [h]
/-- One word's cell. -/
theorem word_at {B k : Nat} {W : World} {v : Value} {ws : List ByteArray} (h : W.ownsRow B 9 1 v ws.length (ws.map Value.string)) (hk : k < ws.length) : ∃ g cap p, ws[k]? = some p ∧ v = .slice (some ⟨g, 0, none⟩) ws.length cap ∧ g < W.heap.size ∧ ws.length ≤ cap ∧ W.cell? ⟨g, k, none⟩ = some (.string p) := by
  rcases h.2 with ⟨_, h0⟩ | ⟨g, c, cur, rfl, hb, hg, hcl, _⟩
  · omega
  · obtain ⟨p, hp⟩ : ∃ p, ws[k]? = some p := ⟨_, List.getElem?_eq_getElem hk⟩
    refine ⟨g, c, p, hp, rfl, (Array.getElem?_eq_some_iff.1 hg).1, hcl, ?_⟩
    rw [World.ownsRow.cellAt h k (by omega), List.getElem?_map, hp]; rfl

set_option maxRecDepth 100000 in
set_option maxHeartbeats 4000000 in
theorem rParseE_any (s : ByteArray) (q : Int) (w : World) (hs : s.size ≤ 900) :
    Calls Tryd.prog 15 #[.string s, .int .i64 q] w fun u w' => ((∃ e xa xc ya yc, readE s.data.toList q = some e ∧ u = .returned (.tuple #[.agg #[.slice xa e.1.length xc, .slice ya e.2.length yc], .bool true]) ∧ BufK .i64 2 w.heap.size w' xa e.1.length xc e.1 ∧ BufK .i64 2 w.heap.size w' ya e.2.length yc e.2) ∨
      (readE s.data.toList q = none ∧ u = .returned (.tuple #[.agg #[.slice none 0 0, .slice none 0 0], .bool false]))) ∧ Grew w w' := by
  obtain ⟨i0, hi, hz0, hz1, hz2⟩ := info_parts info_mapN
  have hg : Grew w ((w.alloc (.cells #[.slice none 0 0, .slice none 0 0] 24)).alloc (.cells #[.slice none 0 0, .slice none 0 0] 24)) := ((Grew.refl w).alloc _).alloc _
  have ht := (Two.new w 24 (.slice none 0 0) (.slice none 0 0)).alloc (.cells #[.slice none 0 0, .slice none 0 0] 24)
  have hu := Two.new (w.alloc (.cells #[.slice none 0 0, .slice none 0 0] 24)) 24 (.slice none 0 0) (.slice none 0 0)
  rw [World.size_alloc] at hu
  have hsz : ((w.alloc (.cells #[.slice none 0 0, .slice none 0 0] 24)).alloc (.cells #[.slice none 0 0, .slice none 0 0] 24)).heap.size = w.heap.size + 1 + 1 := by simp
  have HG := Lib.hid hg
  have HT := Lib.hid ht
  have HU := Lib.hid hu
  have HSZ := Lib.hid hsz
  have hnp := nParts_le s
  clear hg ht hu hsz
  go_enter Tryd.func15, Tryd.ntmps15
  go_wp2_with fail
  refine (words_any s _ (by omega)).mono ?_
  generalize (w.alloc (.cells #[.slice none 0 0, .slice none 0 0] 24)).alloc (.cells #[.slice none 0 0, .slice none 0 0] 24) = W0 at *
  obtain ⟨L, hL⟩ : ∃ L, w.heap.size = L := ⟨_, rfl⟩
  have HL := Lib.hid hL
  rw [hL] at HT HU HSZ ⊢
  rintro e w1 ⟨⟨ws, v, rfl, hws, hrow⟩, g1⟩
  rw [HSZ.out] at hrow
  have HWS := Lib.hid hws
  have hwl : ws.length ≤ 901 := by
    have := congrArg List.length hws
    rw [List.length_map] at this
    unfold nParts at hnp
    omega
  have HR := Lib.hid hrow
  have HT1 := Lib.hid (HT.out.grow g1)
  have HG1 := Lib.hid (HG.out.trans g1)
  have HP1 : Hid (PsE (L + 1 + 1) w1 (L + 1) ([], [])) := Lib.hid ⟨none, 0, none, 0, HU.out.grow g1, World.ownsRow_nil _ _ _ _, World.ownsRow_nil _ _ _ _, fun g h => nomatch h⟩
  have hs1 : L + 1 + 1 ≤ w1.heap.size := by rw [← HSZ.out]; exact g1.size
  obtain ⟨va, vc, rfl⟩ := own_form hrow
  clear hws hrow g1 HT HU HG HSZ hL hnp
  go_wp2
  go_loopw [8, 9] (fun rt i wr => ∃ (k : Nat) (right : Bool) (e : Ex), k ≤ ws.length ∧ sumE e ≤ k ∧ L + 1 + 1 ≤ wr.heap.size ∧ i = .int .i64 k ∧ rt = .bool right ∧ Hid (InE e) ∧ Hid (wordsE q (splitSp s.data.toList) false ([], []) = wordsE q ((splitSp s.data.toList).drop k) right e) ∧
    Hid (PsE (L + 1 + 1) wr (L + 1) e) ∧ Hid (wr.ownsRow (L + 1 + 1) 9 1 (.slice va ws.length vc) ws.length (ws.map Value.string)) ∧ Hid (Two wr L 24 (.slice none 0 0) (.slice none 0 0)) ∧ Hid (Grew w wr)) (fun _ i _ => ws.length - (intOf i).toNat)
  case atStart => exact ⟨0, false, ([], []), Nat.zero_le _, Nat.le_refl _, hs1, rfl, rfl, Lib.hid ⟨by simp, by simp⟩, Lib.hid rfl, HP1, HR, HT1, HG1⟩
  case round =>
    clear HP1 HR HT1 HG1 hs1
    obtain ⟨k, right, e, hk, hsum, hsw, rfl, rfl, HI, HW, HP, HR, HT, HG⟩ := hrel
    by_cases hlt : k < ws.length
    · obtain ⟨g, cap, p, hp, hv, hgl, hcap, hcell⟩ := word_at HR.out hlt
      injection hv with hv1 hv2 hv3
      subst hv1
      subst hv3
      have hpw : (splitSp s.data.toList)[k]? = some p.data.toList := by rw [← HWS.out, List.getElem?_map, hp]; rfl
      have hst := wordsE_step (q := q) hpw right e
      by_cases h62 : p.data.toList = [62]
      · cases right with
        | false =>
          have HW2 : Hid (wordsE q (splitSp s.data.toList) false ([], []) = wordsE q ((splitSp s.data.toList).drop (k + 1)) true e) := Lib.hid (by rw [HW.out, hst, if_pos ⟨h62, rfl⟩])
          have t1 : (p.toList == ([62] : List UInt8)) = true := by rw [strB_lit]; exact decide_eq_true h62
          clear hst hpw hp h62
          go_wp2
          go_roundw
          case rel => exact ⟨k + 1, true, e, by omega, by omega, hsw, by go_num, rfl, HI, HW2, HP, HR, HT, HG⟩
          case measure => simp [intOf]; omega
        | true =>
          have t1 : (p.toList == ([62] : List UInt8)) = true := by rw [strB_lit]; exact decide_eq_true h62
          have hpo : wordsE q (splitSp s.data.toList) false ([], []) = match pO q p.data.toList with | none => none | some x => wordsE q ((splitSp s.data.toList).drop (k + 1)) true (addE true e x) := by rw [HW.out, hst, if_neg (fun c => by cases c.2)]
          have HPO := Lib.hid hpo
          clear hst hpw hp h62 hpo
          go_wp2_with fail
          refine (rparse_pO p q _).mono ?_
          rintro u w2 ⟨⟨x, hx, rfl⟩ | ⟨hx, x, rfl⟩, g2⟩
          · have HI2 := Lib.hid (addE_in (right := true) HI.out (pO_some hx).2.1)
            have HW2 : Hid (wordsE q (splitSp s.data.toList) false ([], []) = wordsE q ((splitSp s.data.toList).drop (k + 1)) true (addE true e x)) := Lib.hid (by rw [HPO.out, hx])
            have HS2 := Lib.hid (sum_add true e x)
            have HG2 := Lib.hid (HG.out.trans g2)
            obtain ⟨xa, xc, ya, yc, q1, q2, q3, q4⟩ := HP.out.grow g2
            have hR2 := own_grow HR.out g2
            have HT2 := HT.out.grow g2
            have hs2 := g2.size
            have c0 := q1.c0
            have c1 := q1.c1
            have hsumX : e.1.length ≤ 901 ∧ e.2.length ≤ 901 := by unfold sumE at hsum; omega
            have HQ1 := Lib.hid q1
            have HQ2 := Lib.hid q2
            have HQ3 := Lib.hid q3
            have HQ4 := Lib.hid q4
            have HR2 := Lib.hid hR2
            have HT2 := Lib.hid HT2
            obtain ⟨ex, ey⟩ := e
            dsimp only at HQ1 HQ2 HQ3 HQ4 c0 c1 hsumX
            clear q1 q2 q3 q4 hR2 hx HP HR HT HG g2 hcell
            go_wp2_with (at_builtin; refine wpList_append_own_at _ rfl _ _ 22 rfl (L + 1 + 1) 2 i0 (.int .i64 0) 1 8 Tryd.underlying22 hi hz0 hz1 hz2 rfl (by decide) _ _ _ rfl (HQ3.out.grow ((Grew.refl w2).alloc _)) ⟨w2.heap.size, 0, none⟩ 1 1 [.int .i64 x] rfl rfl (cell_one_new _ _ _) ?qc3 ?qc4 ?qc5 ?qc6 ?_)
            case qc3 => intro u hu; simp at hu; subst hu; rfl
            case qc4 => unfold maxLen; omega
            case qc5 => omega
            case qc6 => simp; omega
            intro v' w3 hown hgrow hnil hlie
            obtain ⟨hq1, hps⟩ := PsE.right HQ1.out (by omega) HQ2.out HQ3.out HQ4.out rfl hown hgrow hlie
            have c2 := hq1.c0
            have c3 := hq1.c1
            have f2 := hq1.f0
            have f3 := hq1.f1
            have hgb := hgrow
            have HR3 := Lib.hid (own_aside (own_else (own_grow HR2.out ((Grew.refl w2).alloc (.cells #[.int .i64 x] 2))) (BufK.grow HQ3.out ((Grew.refl w2).alloc (.cells #[.int .i64 x] 2))) (by decide) hgrow) (grownBy_setCell1 w3 ⟨L + 1, 1, none⟩ v') (by show L + 1 < L + 1 + 1; omega))
            have HT3 := Lib.hid (((HT2.out.alloc (.cells #[.int .i64 x] 2)).grown hgrow (fun e => by have := (buf_lt HQ3.out e.symm).1; omega)).other ⟨L + 1, 1, none⟩ v' (by show L ≠ L + 1; omega))
            have HG3 : Hid (Grew w (w3.setCell ⟨L + 1, 1, none⟩ v')) := Lib.hid (Below.setCell (p := ⟨L + 1, 1, none⟩) (Below.grown (HG2.out.alloc (.cells #[.int .i64 x] 2)) hgrow (by rw [HL.out]; simp; omega) (fun z hz => by have := (buf_lt HQ3.out hz).1; rw [HL.out]; omega)) (by rw [HL.out]; show L ≤ L + 1; omega) _)
            have hs3 : L + 1 + 1 ≤ w3.heap.size := by have := hgrow.size; simp at this; omega
            have HPS := Lib.hid hps
            obtain ⟨a', c', rfl⟩ := own_form hown
            clear hown hgrow hnil hlie hq1 hps hgb c0 c1
            go_wp2
            go_roundw
            case rel => exact ⟨k + 1, true, _, by omega, by rw [HS2.out]; omega, by simpa using hs3, by go_num, rfl, HI2, HW2, HPS, HR3, HT3, HG3⟩
            case measure => simp [intOf]; omega
          · have HN : Hid (readE s.data.toList q = none) := Lib.hid (readR_no (by rw [HPO.out, hx]))
            have HT2 := HT.out.grow g2
            have r0 := HT2.c0
            have r1 := HT2.c1
            have f0 := HT2.f0
            have f1 := HT2.f1
            have hT4 := (HT2.set0 (.slice none 0 0)).set1 (.slice none 0 0)
            have gB : Below w.heap.size w2 ((w2.setCell ⟨L, 0, none⟩ (.slice none 0 0)).setCell ⟨L, 1, none⟩ (.slice none 0 0)) := ((Below.refl w.heap.size w2).setCell (p := ⟨L, 0, none⟩) (by rw [HL.out]; exact Nat.le_refl _) _).setCell (p := ⟨L, 1, none⟩) (by rw [HL.out]; exact Nat.le_refl _) _
            have HG4 := Lib.hid ((HG.out.trans g2).trans_below gB (Nat.le_refl _))
            have HT4 := Lib.hid hT4
            clear hT4 gB HT2 g2 hx hcell
            go_wp2
            have r0 := HT4.out.c0
            have r1 := HT4.out.c1
            exact bodyPost_ret (v := .tuple #[.agg #[.slice none 0 0, .slice none 0 0], .bool false]) (by simp [results, Tryd.results15, go_sem, r0, r1]) rfl ⟨.inr ⟨HN.out, rfl⟩, HG4.out⟩
      · have t1 : (p.toList == ([62] : List UInt8)) = false := by rw [strB_lit]; exact decide_eq_false h62
        cases right with
        | true =>
          have hpo : wordsE q (splitSp s.data.toList) false ([], []) = match pO q p.data.toList with | none => none | some x => wordsE q ((splitSp s.data.toList).drop (k + 1)) true (addE true e x) := by rw [HW.out, hst, if_neg (fun c => h62 c.1)]
          have HPO := Lib.hid hpo
          clear hst hpw hp h62 hpo
          go_wp2_with fail
          refine (rparse_pO p q _).mono ?_
          rintro u w2 ⟨⟨x, hx, rfl⟩ | ⟨hx, x, rfl⟩, g2⟩
          · have HI2 := Lib.hid (addE_in (right := true) HI.out (pO_some hx).2.1)
            have HW2 : Hid (wordsE q (splitSp s.data.toList) false ([], []) = wordsE q ((splitSp s.data.toList).drop (k + 1)) true (addE true e x)) := Lib.hid (by rw [HPO.out, hx])
            have HS2 := Lib.hid (sum_add true e x)
            have HG2 := Lib.hid (HG.out.trans g2)
            obtain ⟨xa, xc, ya, yc, q1, q2, q3, q4⟩ := HP.out.grow g2
            have hR2 := own_grow HR.out g2
            have HT2 := HT.out.grow g2
            have hs2 := g2.size
            have c0 := q1.c0
            have c1 := q1.c1
            have hsumX : e.1.length ≤ 901 ∧ e.2.length ≤ 901 := by unfold sumE at hsum; omega
            have HQ1 := Lib.hid q1
            have HQ2 := Lib.hid q2
            have HQ3 := Lib.hid q3
            have HQ4 := Lib.hid q4
            have HR2 := Lib.hid hR2
            have HT2 := Lib.hid HT2
            obtain ⟨ex, ey⟩ := e
            dsimp only at HQ1 HQ2 HQ3 HQ4 c0 c1 hsumX
            clear q1 q2 q3 q4 hR2 hx HP HR HT HG g2 hcell
            go_wp2_with (at_builtin; refine wpList_append_own_at _ rfl _ _ 22 rfl (L + 1 + 1) 2 i0 (.int .i64 0) 1 8 Tryd.underlying22 hi hz0 hz1 hz2 rfl (by decide) _ _ _ rfl (HQ3.out.grow ((Grew.refl w2).alloc _)) ⟨w2.heap.size, 0, none⟩ 1 1 [.int .i64 x] rfl rfl (cell_one_new _ _ _) ?qc3 ?qc4 ?qc5 ?qc6 ?_)
            case qc3 => intro u hu; simp at hu; subst hu; rfl
            case qc4 => unfold maxLen; omega
            case qc5 => omega
            case qc6 => simp; omega
            intro v' w3 hown hgrow hnil hlie
            obtain ⟨hq1, hps⟩ := PsE.right HQ1.out (by omega) HQ2.out HQ3.out HQ4.out rfl hown hgrow hlie
            have c2 := hq1.c0
            have c3 := hq1.c1
            have f2 := hq1.f0
            have f3 := hq1.f1
            have hgb := hgrow
            have HR3 := Lib.hid (own_aside (own_else (own_grow HR2.out ((Grew.refl w2).alloc (.cells #[.int .i64 x] 2))) (BufK.grow HQ3.out ((Grew.refl w2).alloc (.cells #[.int .i64 x] 2))) (by decide) hgrow) (grownBy_setCell1 w3 ⟨L + 1, 1, none⟩ v') (by show L + 1 < L + 1 + 1; omega))
            have HT3 := Lib.hid (((HT2.out.alloc (.cells #[.int .i64 x] 2)).grown hgrow (fun e => by have := (buf_lt HQ3.out e.symm).1; omega)).other ⟨L + 1, 1, none⟩ v' (by show L ≠ L + 1; omega))
            have HG3 : Hid (Grew w (w3.setCell ⟨L + 1, 1, none⟩ v')) := Lib.hid (Below.setCell (p := ⟨L + 1, 1, none⟩) (Below.grown (HG2.out.alloc (.cells #[.int .i64 x] 2)) hgrow (by rw [HL.out]; simp; omega) (fun z hz => by have := (buf_lt HQ3.out hz).1; rw [HL.out]; omega)) (by rw [HL.out]; show L ≤ L + 1; omega) _)
            have hs3 : L + 1 + 1 ≤ w3.heap.size := by have := hgrow.size; simp at this; omega
            have HPS := Lib.hid hps
            obtain ⟨a', c', rfl⟩ := own_form hown
            clear hown hgrow hnil hlie hq1 hps hgb c0 c1
            go_wp2
            go_roundw
            case rel => exact ⟨k + 1, true, _, by omega, by rw [HS2.out]; omega, by simpa using hs3, by go_num, rfl, HI2, HW2, HPS, HR3, HT3, HG3⟩
            case measure => simp [intOf]; omega
          · have HN : Hid (readE s.data.toList q = none) := Lib.hid (readR_no (by rw [HPO.out, hx]))
            have HT2 := HT.out.grow g2
            have r0 := HT2.c0
            have r1 := HT2.c1
            have f0 := HT2.f0
            have f1 := HT2.f1
            have hT4 := (HT2.set0 (.slice none 0 0)).set1 (.slice none 0 0)
            have gB : Below w.heap.size w2 ((w2.setCell ⟨L, 0, none⟩ (.slice none 0 0)).setCell ⟨L, 1, none⟩ (.slice none 0 0)) := ((Below.refl w.heap.size w2).setCell (p := ⟨L, 0, none⟩) (by rw [HL.out]; exact Nat.le_refl _) _).setCell (p := ⟨L, 1, none⟩) (by rw [HL.out]; exact Nat.le_refl _) _
            have HG4 := Lib.hid ((HG.out.trans g2).trans_below gB (Nat.le_refl _))
            have HT4 := Lib.hid hT4
            clear hT4 gB HT2 g2 hx hcell
            go_wp2
            have r0 := HT4.out.c0
            have r1 := HT4.out.c1
            exact bodyPost_ret (v := .tuple #[.agg #[.slice none 0 0, .slice none 0 0], .bool false]) (by simp [results, Tryd.results15, go_sem, r0, r1]) rfl ⟨.inr ⟨HN.out, rfl⟩, HG4.out⟩
        | false =>
          have hpo : wordsE q (splitSp s.data.toList) false ([], []) = match pO q p.data.toList with | none => none | some x => wordsE q ((splitSp s.data.toList).drop (k + 1)) false (addE false e x) := by rw [HW.out, hst, if_neg (fun c => h62 c.1)]
          have HPO := Lib.hid hpo
          clear hst hpw hp h62 hpo
          go_wp2_with fail
          refine (rparse_pO p q _).mono ?_
          rintro u w2 ⟨⟨x, hx, rfl⟩ | ⟨hx, x, rfl⟩, g2⟩
          · have HI2 := Lib.hid (addE_in (right := false) HI.out (pO_some hx).2.1)
            have HW2 : Hid (wordsE q (splitSp s.data.toList) false ([], []) = wordsE q ((splitSp s.data.toList).drop (k + 1)) false (addE false e x)) := Lib.hid (by rw [HPO.out, hx])
            have HS2 := Lib.hid (sum_add false e x)
            have HG2 := Lib.hid (HG.out.trans g2)
            obtain ⟨xa, xc, ya, yc, q1, q2, q3, q4⟩ := HP.out.grow g2
            have hR2 := own_grow HR.out g2
            have HT2 := HT.out.grow g2
            have hs2 := g2.size
            have c0 := q1.c0
            have c1 := q1.c1
            have hsumX : e.1.length ≤ 901 ∧ e.2.length ≤ 901 := by unfold sumE at hsum; omega
            have HQ1 := Lib.hid q1
            have HQ2 := Lib.hid q2
            have HQ3 := Lib.hid q3
            have HQ4 := Lib.hid q4
            have HR2 := Lib.hid hR2
            have HT2 := Lib.hid HT2
            obtain ⟨ex, ey⟩ := e
            dsimp only at HQ1 HQ2 HQ3 HQ4 c0 c1 hsumX
            clear q1 q2 q3 q4 hR2 hx HP HR HT HG g2 hcell
            go_wp2_with (at_builtin; refine wpList_append_own_at _ rfl _ _ 22 rfl (L + 1 + 1) 2 i0 (.int .i64 0) 1 8 Tryd.underlying22 hi hz0 hz1 hz2 rfl (by decide) _ _ _ rfl (HQ2.out.grow ((Grew.refl w2).alloc _)) ⟨w2.heap.size, 0, none⟩ 1 1 [.int .i64 x] rfl rfl (cell_one_new _ _ _) ?qc3 ?qc4 ?qc5 ?qc6 ?_)
            case qc3 => intro u hu; simp at hu; subst hu; rfl
            case qc4 => unfold maxLen; omega
            case qc5 => omega
            case qc6 => simp; omega
            intro v' w3 hown hgrow hnil hlie
            obtain ⟨hq1, hps⟩ := PsE.left HQ1.out (by omega) HQ2.out HQ3.out HQ4.out rfl hown hgrow hlie
            have c2 := hq1.c0
            have c3 := hq1.c1
            have f2 := hq1.f0
            have f3 := hq1.f1
            have hgb := hgrow
            have HR3 := Lib.hid (own_aside (own_else (own_grow HR2.out ((Grew.refl w2).alloc (.cells #[.int .i64 x] 2))) (BufK.grow HQ2.out ((Grew.refl w2).alloc (.cells #[.int .i64 x] 2))) (by decide) hgrow) (grownBy_setCell1 w3 ⟨L + 1, 0, none⟩ v') (by show L + 1 < L + 1 + 1; omega))
            have HT3 := Lib.hid (((HT2.out.alloc (.cells #[.int .i64 x] 2)).grown hgrow (fun e => by have := (buf_lt HQ2.out e.symm).1; omega)).other ⟨L + 1, 0, none⟩ v' (by show L ≠ L + 1; omega))
            have HG3 : Hid (Grew w (w3.setCell ⟨L + 1, 0, none⟩ v')) := Lib.hid (Below.setCell (p := ⟨L + 1, 0, none⟩) (Below.grown (HG2.out.alloc (.cells #[.int .i64 x] 2)) hgrow (by rw [HL.out]; simp; omega) (fun z hz => by have := (buf_lt HQ2.out hz).1; rw [HL.out]; omega)) (by rw [HL.out]; show L ≤ L + 1; omega) _)
            have hs3 : L + 1 + 1 ≤ w3.heap.size := by have := hgrow.size; simp at this; omega
            have HPS := Lib.hid hps
            obtain ⟨a', c', rfl⟩ := own_form hown
            clear hown hgrow hnil hlie hq1 hps hgb c0 c1
            go_wp2
            go_roundw
            case rel => exact ⟨k + 1, false, _, by omega, by rw [HS2.out]; omega, by simpa using hs3, by go_num, rfl, HI2, HW2, HPS, HR3, HT3, HG3⟩
            case measure => simp [intOf]; omega
          · have HN : Hid (readE s.data.toList q = none) := Lib.hid (readR_no (by rw [HPO.out, hx]))
            have HT2 := HT.out.grow g2
            have r0 := HT2.c0
            have r1 := HT2.c1
            have f0 := HT2.f0
            have f1 := HT2.f1
            have hT4 := (HT2.set0 (.slice none 0 0)).set1 (.slice none 0 0)
            have gB : Below w.heap.size w2 ((w2.setCell ⟨L, 0, none⟩ (.slice none 0 0)).setCell ⟨L, 1, none⟩ (.slice none 0 0)) := ((Below.refl w.heap.size w2).setCell (p := ⟨L, 0, none⟩) (by rw [HL.out]; exact Nat.le_refl _) _).setCell (p := ⟨L, 1, none⟩) (by rw [HL.out]; exact Nat.le_refl _) _
            have HG4 := Lib.hid ((HG.out.trans g2).trans_below gB (Nat.le_refl _))
            have HT4 := Lib.hid hT4
            clear hT4 gB HT2 g2 hx hcell
            go_wp2
            have r0 := HT4.out.c0
            have r1 := HT4.out.c1
            exact bodyPost_ret (v := .tuple #[.agg #[.slice none 0 0, .slice none 0 0], .bool false]) (by simp [results, Tryd.results15, go_sem, r0, r1]) rfl ⟨.inr ⟨HN.out, rfl⟩, HG4.out⟩
    · obtain rfl : k = ws.length := by omega
      have hdr : (splitSp s.data.toList).drop ws.length = [] := List.drop_eq_nil_of_le (by rw [← HWS.out, List.length_map]; exact Nat.le_refl _)
      have HRE := Lib.hid (readR_at (q := q) (l := s.data.toList) (e := e) (by rw [HW.out, hdr]; rfl))
      obtain ⟨xa, xc, ya, yc, q1, q2, q3, q4⟩ := HP.out
      have c0 := q1.c0
      have c1 := q1.c1
      have hsumX : e.1.length ≤ 1000 ∧ e.2.length ≤ 1000 := by unfold sumE at hsum; omega
      have HQ1 := Lib.hid q1
      have HQ2 := Lib.hid q2
      have HQ3 := Lib.hid q3
      clear q1 q2 q3 q4 hdr HP HR HW hsum
      go_wp2_with fail
      refine (rTextE_any xa ya xc yc e q _ rfl rfl hsumX.1 hsumX.2 HI.out HQ2.out.rd HQ3.out.rd).mono ?_
      rintro u w2 ⟨rfl, g2⟩
      have hq1 := HQ1.out.grow g2
      have c0 := hq1.c0
      have c1 := hq1.c1
      have HQ2' := Lib.hid (HQ2.out.grow g2)
      have HQ3' := Lib.hid (HQ3.out.grow g2)
      have HT2 := HT.out.grow g2
      have r0 := HT2.c0
      have r1 := HT2.c1
      have f0 := HT2.f0
      have f1 := HT2.f1
      have hgr := HG.out.trans g2
      by_cases hok : exT e q = (s.data.toList, true)
      · have HE : Hid (readE s.data.toList q = some e) := Lib.hid (by rw [HRE.out, if_pos hok])
        have hT4 := (HT2.set0 (.slice xa e.1.length xc)).set1 (.slice ya e.2.length yc)
        have gB : Below w.heap.size w2 ((w2.setCell ⟨L, 0, none⟩ (.slice xa e.1.length xc)).setCell ⟨L, 1, none⟩ (.slice ya e.2.length yc)) := ((Below.refl w.heap.size w2).setCell (p := ⟨L, 0, none⟩) (by rw [HL.out]; exact Nat.le_refl _) _).setCell (p := ⟨L, 1, none⟩) (by rw [HL.out]; exact Nat.le_refl _) _
        have gS : w2.grownBy ((w2.setCell ⟨L, 0, none⟩ (.slice xa e.1.length xc)).setCell ⟨L, 1, none⟩ (.slice ya e.2.length yc)) (some L) := grownBy_trans (grownBy_setCell1 w2 ⟨L, 0, none⟩ _) (grownBy_setCell1 _ ⟨L, 1, none⟩ _)
        have HG4 := Lib.hid (hgr.trans_below gB (Nat.le_refl _))
        have HX4 := Lib.hid (BufK.mono (B' := w.heap.size) (own_aside HQ2'.out gS (by omega)) (by rw [HL.out]; omega))
        have HY4 := Lib.hid (BufK.mono (B' := w.heap.size) (own_aside HQ3'.out gS (by omega)) (by rw [HL.out]; omega))
        have HT4 := Lib.hid hT4
        have t1 : (s.data.toList == s.data.toList) = true := by simp
        have t2 : (s.data.toList != s.toList) = false := by rw [Lib.toList_data]; simp
        have t3 : (s.data.toList == s.toList) = true := by rw [Lib.toList_data]; simp
        rw [hok]
        clear hT4 gB gS HT2 g2 hgr hok hq1
        go_wp2
        have r0 := HT4.out.c0
        have r1 := HT4.out.c1
        exact bodyPost_ret (v := .tuple #[.agg #[.slice xa e.1.length xc, .slice ya e.2.length yc], .bool true]) (by simp [results, Tryd.results15, go_sem, r0, r1]) rfl ⟨.inl ⟨e, xa, xc, ya, yc, HE.out, rfl, HX4.out, HY4.out⟩, HG4.out⟩
      · have HE : Hid (readE s.data.toList q = none) := Lib.hid (by rw [HRE.out, if_neg hok])
        have hT4 := (HT2.set0 (.slice none 0 0)).set1 (.slice none 0 0)
        have gB : Below w.heap.size w2 ((w2.setCell ⟨L, 0, none⟩ (.slice none 0 0)).setCell ⟨L, 1, none⟩ (.slice none 0 0)) := ((Below.refl w.heap.size w2).setCell (p := ⟨L, 0, none⟩) (by rw [HL.out]; exact Nat.le_refl _) _).setCell (p := ⟨L, 1, none⟩) (by rw [HL.out]; exact Nat.le_refl _) _
        have HG4 := Lib.hid (hgr.trans_below gB (Nat.le_refl _))
        have HT4 := Lib.hid hT4
        obtain ⟨tl, ok, hx⟩ : ∃ tl ok, exT e q = (tl, ok) := ⟨_, _, rfl⟩
        rw [hx] at hok ⊢
        clear hT4 gB HT2 g2 hgr hq1
        cases ok with
        | false =>
          go_wp2
          have r0 := HT4.out.c0
          have r1 := HT4.out.c1
          exact bodyPost_ret (v := .tuple #[.agg #[.slice none 0 0, .slice none 0 0], .bool false]) (by simp [results, Tryd.results15, go_sem, r0, r1]) rfl ⟨.inr ⟨HE.out, rfl⟩, HG4.out⟩
        | true =>
          have hne : tl ≠ s.data.toList := fun e => hok (by rw [e])
          have t2 : (tl != s.toList) = true := by rw [Lib.toList_data, bne_iff_ne]; exact hne
          have t3 : (tl == s.toList) = false := by rw [Lib.toList_data, beq_eq_false_iff_ne]; exact hne
          clear hok hx hne
          go_wp2
          have r0 := HT4.out.c0
          have r1 := HT4.out.c1
          exact bodyPost_ret (v := .tuple #[.agg #[.slice none 0 0, .slice none 0 0], .bool false]) (by simp [results, Tryd.results15, go_sem, r0, r1]) rfl ⟨.inr ⟨HE.out, rfl⟩, HG4.out⟩
end Go.Proofs.YthdkanmpapioeaaDoor
