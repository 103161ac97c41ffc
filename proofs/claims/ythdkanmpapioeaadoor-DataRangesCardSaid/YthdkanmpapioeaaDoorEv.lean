/- The reference's Range: the least and the greatest number of all examples, or none. Condition: at most 100 examples, each list of at most 1000 numbers. -/
import Derived.Test.YthdkanmpapioeaaDoorEu
import Derived.Laws.OwnMore
namespace Go.Proofs.YthdkanmpapioeaaDoor
open Go.RowKit

/-- append of a list that can be read, nil too, at a step of a region that draws its order. -/
theorem step_append_rd {P : Program} {w : World} {ops : Array Oper} {o : Oper} {a : Act} {K : Act → World → Prop} {Q : Exit → Act → World → Prop} {E : Prop} (hgd : o.guard = none) (s x : Operand) (t : TypeId)
    (ho : o.op = .call { callee := .builtin .append, args := #[s, x], argTypes := #[t, t] })
    (base : Nat) (e : TypeId) (i : TypeInfo) (ht : P.underlying t = some (.slice e)) (hi : P.info? e = some i) (hz : i.zero = some (.int .i64 0)) (hsize : i.size = 1) (hby : i.bytes = 8)
    (v : Value) (n : Nat) (xs : List Int) (hs : a.eval s = v) (hown : w.ownsRow base e 1 v n (xs.map (Value.int .i64)))
    (ad : Option Addr) (m c : Nat) (zs : List Int) (hx : a.eval x = .slice ad m c) (hr : RdK .i64 w.heap.size w ad zs) (hl : zs.length = m) (hc : ad = none → c = 0)
    (h63 : n + m ≤ maxLen) (hbytes : (n + m) * 8 ≤ 140737488355328) (hbase : base ≤ w.heap.size)
    (h : ∀ v' w', w'.ownsRow base e 1 v' (n + m) ((xs ++ zs).map (Value.int .i64)) → w.grownBy w' v.ownBlock → K (a.put o.dst v') w') :
    if Region.wanted o (yielded ops a.tmps) = true then Oper.wp P o a w K Q else E := by
  have hw : Region.wanted o (yielded ops a.tmps) = true := by simp [Region.wanted, hgd]
  rw [if_pos hw]
  have hrun : ∃ v' w', (Builtin.append_ #[t, t] o.type #[v, .slice ad m c]).run P w = .ok v' w' ∧ w'.ownsRow base e 1 v' (n + m) ((xs ++ zs).map (Value.int .i64)) ∧ w.grownBy w' v.ownBlock := by
    cases ad with
    | none =>
      obtain rfl := hc rfl
      obtain rfl : zs = [] := by
        rcases hr with h | ⟨b, off, e, _⟩
        · exact h
        · cases e
      obtain rfl : m = 0 := by simpa using hl.symm
      refine ⟨v, w, run_append_owned_none (P := P) (w := w) base t o.type e i 1 ht hi v n _ hown, ?_, grown_refl _ _⟩
      rw [List.append_nil]
      exact hown
    | some x =>
      obtain ⟨v', w', h1, h2, h3, _⟩ := run_append_own_at (P := P) w base t o.type e i (.int .i64 0) 1 8 ht hi hz hsize hby rfl (by decide) v n _ hown x m c (zs.map (Value.int .i64)) (by rw [List.length_map, hl, Nat.mul_one]) (fun j u hj => by
        have hlt : j < zs.length := by
          rcases Nat.lt_or_ge j zs.length with h' | h'
          · exact h'
          · rw [List.getElem?_eq_none (by simpa using h')] at hj; cases hj
        obtain ⟨b, off, e, hb, hcell⟩ := hr.at hlt
        obtain rfl := Option.some.inj e
        rw [List.getElem?_map, el_lt hlt] at hj
        rw [Addr.add_lit, hcell]
        exact hj) (fun u hu => by obtain ⟨z, _, rfl⟩ := List.mem_map.1 hu; rfl) h63 hbytes hbase
      exact ⟨v', w', h1, by rw [List.map_append]; exact h2, h3⟩
  obtain ⟨v', w', hr1, h2, h3⟩ := hrun
  unfold Oper.wp execOp
  simp only [ho, resolve, invoke, builtin, Sem.run_bind, Sem.run_pure, Result.andThen_ok, List.map_toArray, List.map_cons, List.map_nil, hs, hx, hr1]
  exact h v' w' h2 h3
theorem kw3 {w W' : World} {a b : Addr} {x y : Value} (g : Grew w W') (ha : a.block < w.heap.size) (hb : b.block < w.heap.size) (h : w.cell? a = some x) (k : w.cell? b = some y) : Grew w W' ∧ W'.cell? a = some x ∧ W'.cell? b = some y :=
  ⟨g, (Below.cell g (p := a) ha).trans h, (Below.cell g (p := b) hb).trans k⟩
theorem allN_take {es : List Ex} {k : Nat} (h : k < es.length) : allN (es.take (k + 1)) = allN (es.take k) ++ (ex es k).1 ++ (ex es k).2 := by
  unfold allN
  rw [List.take_add_one, ex_lt h, List.flatMap_append]
  simp
theorem allN_small {es : List Ex} (hs : SmE es) : ∀ k, k ≤ es.length → (allN (es.take k)).length ≤ k * 2000
  | 0, _ => by simp [allN]
  | k + 1, hk => by
    have ih := allN_small hs k (by omega)
    have := hs.2 k (by omega)
    unfold lx ly at this
    rw [allN_take (by omega), List.length_append, List.length_append]
    omega
/-- The reference reckons the first number twice. -/
def loR (zs : List Int) : Nat → Int
  | 0 => el zs 0
  | k + 1 => min (loR zs k) (el zs k)
def hiR (zs : List Int) : Nat → Int
  | 0 => el zs 0
  | k + 1 => max (hiR zs k) (el zs k)
theorem lo_same (zs : List Int) : ∀ k, loR zs (k + 1) = loK zs (k + 1)
  | 0 => by show min (el zs 0) (el zs 0) = el zs 0; omega
  | k + 1 => by
    show min (loR zs (k + 1)) (el zs (k + 1)) = mnV (loK zs (k + 1)) (el zs (k + 1))
    rw [lo_same zs k]
    rfl
theorem hi_same (zs : List Int) : ∀ k, hiR zs (k + 1) = hiK zs (k + 1)
  | 0 => by show max (el zs 0) (el zs 0) = el zs 0; omega
  | k + 1 => by
    show max (hiR zs (k + 1)) (el zs (k + 1)) = mxV (hiK zs (k + 1)) (el zs (k + 1))
    rw [hi_same zs k]
    rfl

set_option linter.unusedSimpArgs false in
set_option maxRecDepth 100000 in
set_option maxHeartbeats 4000000 in
theorem rRange_any {n : Nat} (a : Option Addr) (c : Nat) (es : List Ex) (w : World) (hn : es.length = n) (hs : SmE es) (hr : RdE w.heap.size w a es) :
    Calls Tryd.prog 23 #[.slice a n c] w fun e w' => e = .returned (.tuple #[.int .i64 (loK (allN es) (allN es).length), .int .i64 (hiK (allN es) (allN es).length), .bool (decide (0 < (allN es).length))]) ∧ Grew w w' := by
  obtain ⟨i0, hi, hz0, hz1, hz2⟩ := info_parts info_mapN
  have hn1 := hs.1
  rw [hn] at hn1
  have HN := Lib.hid hn
  have HS := Lib.hid hs
  have HX := Lib.hid hr
  clear hn hs hr
  go_enter Tryd.func23, Tryd.ntmps23
  go_wp2
  go_loopw [5, 6] (fun v i wr => ∃ (k t : Nat) (zs : List Int), k ≤ n ∧ i = .int .i64 k ∧ t ≤ k * 2000 ∧ Hid (zs = allN (es.take k)) ∧ Hid (zs.length = t) ∧ Hid (wr.ownsRow w.heap.size 2 1 v t (zs.map (Value.int .i64))) ∧ Hid (Grew w wr)) (fun _ i _ => n - (intOf i).toNat)
  case atStart => exact ⟨0, 0, [], Nat.zero_le _, rfl, Nat.zero_le _, Lib.hid rfl, Lib.hid rfl, Lib.hid (World.ownsRow_nil _ _ _ _), Lib.hid (Grew.refl _)⟩
  case round =>
    obtain ⟨k, t, zs, hk, rfl, ht, HZ, HT, HO, HG⟩ := hrel
    obtain ⟨va, vc, rfl⟩ := own_form HO.out
    by_cases hlt : k < n
    · obtain ⟨b, off, xa, xc, ya, yc, rfl, hb, c0w, c1w, r1, r2, n1, n2⟩ := HX.out.at (k := k) (by rw [HN.out]; exact hlt)
      obtain ⟨s1, s2⟩ := HS.out.2 k (by rw [HN.out]; exact hlt)
      have R1 := Lib.hid r1
      have R2 := Lib.hid r2
      have N1 := Lib.hid n1
      have N2 := Lib.hid n2
      have C0 := Lib.hid c0w
      have C1 := Lib.hid c1w
      have HZ2 : Hid (zs ++ (ex es k).1 ++ (ex es k).2 = allN (es.take (k + 1))) := Lib.hid (by rw [HZ.out]; exact (allN_take (by rw [HN.out]; exact hlt)).symm)
      have c0 : wr.cell? ⟨b, off + k * 2, none⟩ = some (.slice xa (lx es k) xc) := (Below.cell HG.out (p := ⟨b, off + k * 2, none⟩) hb).trans c0w
      have c1 : wr.cell? ⟨b, off + k * 2 + 1, none⟩ = some (.slice ya (ly es k) yc) := (Below.cell HG.out (p := ⟨b, off + k * 2 + 1, none⟩) hb).trans c1w
      have hsw := HG.out.size
      have HM1 : Hid ((ex es k).1.length = lx es k) := Lib.hid rfl
      have HM2 : Hid ((ex es k).2.length = ly es k) := Lib.hid rfl
      clear r1 r2 n1 n2 c0w c1w
      generalize lx es k = m1 at *
      generalize ly es k = m2 at *
      go_wp2_with fail
      refine wp_region_held_drew (S := (fun W' => Grew w W' ∧ W'.cell? ⟨b, off + k * 2, none⟩ = some (.slice xa m1 xc) ∧ W'.cell? ⟨b, off + k * 2 + 1, none⟩ = some (.slice ya m2 yc))) (by kernel_rfl) ⟨Grew.drew' HG.out, c0, c1⟩ (fun hHeld => ?_)
      refine wpAnyH_take (i := 0) (oi := { dst := some 16, op := Go.Op.move (Go.Operand.tmp 5), type := 22, pos := _, after := #[], guard := none }) (v := ?v1) rfl (by kernel_rfl) (by kernel_rfl) (by kernel_rfl) (fun _ _ _ h => h) (Or.inl ⟨by kernel_rfl, ?hy1⟩) (by assumption) ?_
      case hy1 => intro w hSw; (try dsimp only at hSw); first | (go_simp; done) | (go_simp; with_reducible rfl)
      (try simp only [Act.put, List.setIfInBounds_toArray, List.set_cons_zero, List.set_cons_succ])
      refine wpAnyH_take (i := 1) (oi := { dst := some 17, op := Go.Op.move (Go.Operand.tmp 0), type := 26, pos := _, after := #[], guard := none }) (v := ?v2) rfl (by kernel_rfl) (by kernel_rfl) (by kernel_rfl) (fun _ _ _ h => h) (Or.inl ⟨by kernel_rfl, ?hy2⟩) (by assumption) ?_
      case hy2 => intro w hSw; (try dsimp only at hSw); first | (go_simp; done) | (go_simp; with_reducible rfl)
      (try simp only [Act.put, List.setIfInBounds_toArray, List.set_cons_zero, List.set_cons_succ])
      refine wpAnyH_take (i := 2) (oi := { dst := some 18, op := Go.Op.move (Go.Operand.tmp 6), type := 3, pos := _, after := #[], guard := none }) (v := ?v3) rfl (by kernel_rfl) (by kernel_rfl) (by kernel_rfl) (fun _ _ _ h => h) (Or.inl ⟨by kernel_rfl, ?hy3⟩) (by assumption) ?_
      case hy3 => intro w hSw; (try dsimp only at hSw); first | (go_simp; done) | (go_simp; with_reducible rfl)
      (try simp only [Act.put, List.setIfInBounds_toArray, List.set_cons_zero, List.set_cons_succ])
      refine wpAnyH_take (i := 3) (oi := { dst := some 19, op := Go.Op.indexAddr 26 (Go.Operand.tmp 17) (Go.Operand.tmp 18), type := 0, pos := _, after := #[{ on := 1, ground := Go.Ground.data }, { on := 2, ground := Go.Ground.data }], guard := none }) (v := ?v4) rfl (by kernel_rfl) (by kernel_rfl) (by kernel_rfl) (fun _ _ _ h => h) (Or.inl ⟨by kernel_rfl, ?hy4⟩) (by assumption) ?_
      case hy4 => intro w hSw; (try dsimp only at hSw); first | (go_simp; done) | (go_simp; with_reducible rfl)
      (try simp only [Act.put, List.setIfInBounds_toArray, List.set_cons_zero, List.set_cons_succ])
      refine wpAnyH_take (i := 4) (oi := { dst := some 20, op := Go.Op.fieldAddr 24 (Go.Operand.tmp 19) 0, type := 0, pos := _, after := #[{ on := 3, ground := Go.Ground.data }], guard := none }) (v := ?v5) rfl (by kernel_rfl) (by kernel_rfl) (by kernel_rfl) (fun _ _ _ h => h) (Or.inl ⟨by kernel_rfl, ?hy5⟩) (by assumption) ?_
      case hy5 => intro w hSw; (try dsimp only at hSw); first | (go_simp; done) | (go_simp; with_reducible rfl)
      (try simp only [Act.put, List.setIfInBounds_toArray, List.set_cons_zero, List.set_cons_succ])
      refine wpAnyH_take (i := 5) (oi := { dst := some 21, op := Go.Op.load 22 (Go.Operand.tmp 20), type := 22, pos := _, after := #[{ on := 4, ground := Go.Ground.data }], guard := none }) (v := ?v6) rfl (by kernel_rfl) (by kernel_rfl) (by kernel_rfl) (fun _ _ _ h => h) (Or.inl ⟨by kernel_rfl, ?hy6⟩) (by assumption) ?_
      case hy6 => intro w hSw; (try dsimp only at hSw); first | (go_simp; done) | (go_simp; with_reducible rfl)
      (try simp only [Act.put, List.setIfInBounds_toArray, List.set_cons_zero, List.set_cons_succ])
      refine wpAnyH_take (i := 7) (oi := { dst := some 23, op := Go.Op.move (Go.Operand.tmp 0), type := 26, pos := _, after := #[], guard := none }) (v := ?v7) rfl (by kernel_rfl) (by kernel_rfl) (by kernel_rfl) (fun _ _ _ h => h) (Or.inl ⟨by kernel_rfl, ?hy7⟩) (by assumption) ?_
      case hy7 => intro w hSw; (try dsimp only at hSw); first | (go_simp; done) | (go_simp; with_reducible rfl)
      (try simp only [Act.put, List.setIfInBounds_toArray, List.set_cons_zero, List.set_cons_succ])
      refine wpAnyH_take (i := 8) (oi := { dst := some 24, op := Go.Op.move (Go.Operand.tmp 6), type := 3, pos := _, after := #[], guard := none }) (v := ?v8) rfl (by kernel_rfl) (by kernel_rfl) (by kernel_rfl) (fun _ _ _ h => h) (Or.inl ⟨by kernel_rfl, ?hy8⟩) (by assumption) ?_
      case hy8 => intro w hSw; (try dsimp only at hSw); first | (go_simp; done) | (go_simp; with_reducible rfl)
      (try simp only [Act.put, List.setIfInBounds_toArray, List.set_cons_zero, List.set_cons_succ])
      refine wpAnyH_take (i := 9) (oi := { dst := some 25, op := Go.Op.indexAddr 26 (Go.Operand.tmp 23) (Go.Operand.tmp 24), type := 0, pos := _, after := #[{ on := 7, ground := Go.Ground.data }, { on := 8, ground := Go.Ground.data }], guard := none }) (v := ?v9) rfl (by kernel_rfl) (by kernel_rfl) (by kernel_rfl) (fun _ _ _ h => h) (Or.inl ⟨by kernel_rfl, ?hy9⟩) (by assumption) ?_
      case hy9 => intro w hSw; (try dsimp only at hSw); first | (go_simp; done) | (go_simp; with_reducible rfl)
      (try simp only [Act.put, List.setIfInBounds_toArray, List.set_cons_zero, List.set_cons_succ])
      refine wpAnyH_take (i := 10) (oi := { dst := some 26, op := Go.Op.fieldAddr 24 (Go.Operand.tmp 25) 1, type := 0, pos := _, after := #[{ on := 9, ground := Go.Ground.data }], guard := none }) (v := ?v10) rfl (by kernel_rfl) (by kernel_rfl) (by kernel_rfl) (fun _ _ _ h => h) (Or.inl ⟨by kernel_rfl, ?hy10⟩) (by assumption) ?_
      case hy10 => intro w hSw; (try dsimp only at hSw); first | (go_simp; done) | (go_simp; with_reducible rfl)
      (try simp only [Act.put, List.setIfInBounds_toArray, List.set_cons_zero, List.set_cons_succ])
      refine wpAnyH_take (i := 11) (oi := { dst := some 27, op := Go.Op.load 22 (Go.Operand.tmp 26), type := 22, pos := _, after := #[{ on := 10, ground := Go.Ground.data }], guard := none }) (v := ?v11) rfl (by kernel_rfl) (by kernel_rfl) (by kernel_rfl) (fun _ _ _ h => h) (Or.inl ⟨by kernel_rfl, ?hy11⟩) (by assumption) ?_
      case hy11 => intro w hSw; (try dsimp only at hSw); first | (go_simp; done) | (go_simp; with_reducible rfl)
      (try simp only [Act.put, List.setIfInBounds_toArray, List.set_cons_zero, List.set_cons_succ])
      refine wpAnyH_ready (rs := [6]) (by kernel_rfl) (by simp) ?_
      refine AllReadyH.cons (o := { dst := some 22, op := Go.Op.call { callee := Go.Callee.builtin Go.Builtin.append, args := #[Go.Operand.tmp 16, Go.Operand.tmp 21], argTypes := #[22, 22] }, type := 22, pos := _, after := #[{ on := 0, ground := Go.Ground.data }, { on := 5, ground := Go.Ground.data }], guard := none }) rfl (fun K hK => ?_) AllReadyH.nil
      (refine step_append_rd rfl _ _ 22 rfl w.heap.size 2 i0 Tryd.underlying22 hi hz0 hz1 hz2 _ (t) (zs) rfl (own_grow HO.out (Grew.drew' (Grew.refl wr))) xa m1 xc ((ex es k).1) rfl (R1.out.grow (Grew.drew' HG.out)) HM1.out N1.out (by unfold maxLen; omega) (by omega) (Grew.drew' HG.out).size ?_; intro v5 w5 hown hgrow; have HG5 : Hid (Grew w w5) := Lib.hid (Below.grown (Grew.drew' HG.out) hgrow ((Grew.drew' HG.out)).size (fun x hx => (World.ownsRow.lt (own_grow HO.out (Grew.drew' (Grew.refl wr))) x hx).1)); have HO5 := Lib.hid hown; clear hown hgrow)
      (try go_wp2_with fail)
      refine hK.out _ _ ?hS13 (fun hHeld => ?_)
      case hS13 => (try dsimp only); exact (kw3 HG5.out hb hb C0.out C1.out)
      clear hK K
      (try simp only [Act.put, List.setIfInBounds_toArray, List.set_cons_zero, List.set_cons_succ])
      refine wpAnyH_ready (rs := [12]) (by kernel_rfl) (by simp) ?_
      refine AllReadyH.cons (o := { dst := some 28, op := Go.Op.call { callee := Go.Callee.builtin Go.Builtin.append, args := #[Go.Operand.tmp 22, Go.Operand.tmp 27], argTypes := #[22, 22] }, type := 22, pos := _, after := #[{ on := 6, ground := Go.Ground.data }, { on := 11, ground := Go.Ground.data }, { on := 6, ground := Go.Ground.chain }], guard := none }) rfl (fun K hK => ?_) AllReadyH.nil
      (refine step_append_rd rfl _ _ 22 rfl w.heap.size 2 i0 Tryd.underlying22 hi hz0 hz1 hz2 _ (t + m1) (zs ++ (ex es k).1) rfl HO5.out ya m2 yc ((ex es k).2) rfl (R2.out.grow HG5.out) HM2.out N2.out (by unfold maxLen; omega) (by omega) HG5.out.size ?_; intro v8 w8 hown hgrow; have HG8 : Hid (Grew w w8) := Lib.hid (Below.grown HG5.out hgrow (HG5.out).size (fun x hx => (World.ownsRow.lt HO5.out x hx).1)); have HO8 := Lib.hid hown; clear hown hgrow)
      (try go_wp2_with fail)
      refine hK.out _ _ ?hS15 (fun hHeld => ?_)
      case hS15 => (try dsimp only); exact (kw3 HG8.out hb hb C0.out C1.out)
      clear hK K
      (try simp only [Act.put, List.setIfInBounds_toArray, List.set_cons_zero, List.set_cons_succ])
      refine wpAnyH_take (i := 13) (oi := { dst := some 5, op := Go.Op.assign (Go.Operand.tmp 28), type := 22, pos := _, after := #[{ on := 12, ground := Go.Ground.data }, { on := 12, ground := Go.Ground.chain }, { on := 0, ground := Go.Ground.phase }, { on := 1, ground := Go.Ground.phase }, { on := 2, ground := Go.Ground.phase }, { on := 3, ground := Go.Ground.phase }, { on := 4, ground := Go.Ground.phase }, { on := 5, ground := Go.Ground.phase }, { on := 6, ground := Go.Ground.phase }, { on := 7, ground := Go.Ground.phase }, { on := 8, ground := Go.Ground.phase }, { on := 9, ground := Go.Ground.phase }, { on := 10, ground := Go.Ground.phase }, { on := 11, ground := Go.Ground.phase }, { on := 12, ground := Go.Ground.phase }], guard := none }) (v := ?v16) rfl (by kernel_rfl) (by kernel_rfl) (by kernel_rfl) (fun _ _ _ h => h) (Or.inl ⟨by kernel_rfl, ?hy16⟩) (by assumption) ?_
      case hy16 => intro w hSw; (try dsimp only at hSw); first | (go_simp; done) | (go_simp; with_reducible rfl)
      (try simp only [Act.put, List.setIfInBounds_toArray, List.set_cons_zero, List.set_cons_succ])
      refine wpAnyH_done (by kernel_rfl) ?_ _
      have HT8 : Hid ((zs ++ (ex es k).1 ++ (ex es k).2).length = t + m1 + m2) := Lib.hid (by rw [List.length_append, List.length_append, HT.out, HM1.out, HM2.out])
      go_wp2
      go_roundw
      case rel => exact ⟨k + 1, t + m1 + m2, _, by omega, by go_num, by omega, HZ2, HT8, HO8, HG8⟩
      case measure => simp [intOf]; omega
    · have HZE : Hid (zs = allN es) := Lib.hid (by rw [HZ.out, List.take_of_length_le (by rw [HN.out]; omega)])
      have HLA : Hid ((allN es).length = t) := Lib.hid (by rw [← HZE.out]; exact HT.out)
      have HBK : Hid (BufK .i64 2 w.heap.size wr va t vc zs) := Lib.hid HO.out
      by_cases h0 : t = 0
      · subst h0
        have HE1 : Hid (loK (allN es) (allN es).length = 0 ∧ hiK (allN es) (allN es).length = 0 ∧ decide (0 < (allN es).length) = false) := Lib.hid (by rw [HLA.out]; exact ⟨rfl, rfl, rfl⟩)
        clear HO
        go_wp2
        go_ret3
        exact ⟨by simp [HE1.out.1, HE1.out.2.1, HE1.out.2.2], HG.out⟩
      · have hpos : 0 < t := by omega
        obtain ⟨g, hva, _, hgl, hc0, _⟩ := HBK.out.at (k := 0) hpos
        subst hva
        have e0b : ((t : Int) == 0) = false := by rw [beq_eq_false_iff_ne]; omega
        have e0c : ¬ (t : Int) = 0 := by omega
        have HR0 : Hid (loR zs 0 = el zs 0 ∧ hiR zs 0 = el zs 0) := Lib.hid ⟨rfl, rfl⟩
        have HE1 : Hid (loR zs t = loK (allN es) (allN es).length ∧ hiR zs t = hiK (allN es) (allN es).length ∧ decide (0 < (allN es).length) = true) := Lib.hid (by
          obtain ⟨j, rfl⟩ : ∃ j, t = j + 1 := ⟨t - 1, by omega⟩
          rw [HLA.out, ← HZE.out]
          exact ⟨lo_same zs j, hi_same zs j, by simp⟩)
        have HW : Hid (wr = wr) := Lib.hid rfl
        clear HO h0
        go_wp2
        have HC0 := Lib.hid hc0
        clear hc0
        rename World => W1
        go_loopw [7, 8, 9] (fun lo hi i wx => ∃ j : Nat, j ≤ t ∧ i = .int .i64 j ∧ lo = .int .i64 (loR zs j) ∧ hi = .int .i64 (hiR zs j) ∧ wx = W1) (fun _ _ i _ => t - (intOf i).toNat)
        case atStart => exact ⟨0, Nat.zero_le _, rfl, by rw [HR0.out.1], by rw [HR0.out.2], rfl⟩
        case round =>
          obtain ⟨j, hj, rfl, rfl, rfl, hwx⟩ := hrel
          subst hwx
          by_cases hjl : j < t
          · obtain ⟨g', hg', _, _, hcj, _⟩ := HBK.out.at (k := j) hjl
            obtain rfl : g = g' := by injection hg' with hg'; injection hg'
            have HL1 : Hid (loR zs (j + 1) = min (loR zs j) (el zs j)) := Lib.hid rfl
            have HH1 : Hid (hiR zs (j + 1) = max (hiR zs j) (el zs j)) := Lib.hid rfl
            clear hg'
            generalize el zs j = x at *
            generalize loR zs j = lo at *
            generalize hiR zs j = hi at *
            go_wp2
            go_roundw
            case rel => exact ⟨j + 1, by omega, by go_num, by rw [HL1.out], by rw [HH1.out], by first | trivial | rfl⟩
            case measure => simp [intOf]; omega
          · obtain rfl : j = t := by omega
            go_wp2
            go_ret3
            exact ⟨by simp [HE1.out.1, HE1.out.2.1, HE1.out.2.2], HG.out⟩
end Go.Proofs.YthdkanmpapioeaaDoor
