/- Clone of the reference and of package data: copies of examples in memory of their own. Condition: at most 100 examples, each list of at most 1000 numbers. -/
import Derived.Test.YthdkanmpapioeaaDoorEn
namespace Go.Proofs.YthdkanmpapioeaaDoor
open Go.RowKit
attribute [local go_sem] Oper.semAt_some

/-- A row of the call's own is left where a row of another element type is written. -/
theorem own_els {w w' : World} {B B' n n' size size' : Nat} {e e' : TypeId} {v v' : Value} {xs ys : List Value} (h : w.ownsRow B e size v n xs) (h' : w.ownsRow B' e' size' v' n' ys) (hne : e ≠ e') (hg : w.grownBy w' v'.ownBlock) : w'.ownsRow B e size v n xs := by
  refine own_left h hg (fun g hv hq => ?_)
  rcases h.2 with ⟨rfl, _⟩ | ⟨g1, c1, cur1, rfl, _, hc1, _⟩
  · cases hv
  · rcases h'.2 with ⟨rfl, _⟩ | ⟨g2, c2, cur2, rfl, _, hc2, _⟩
    · cases hq
    · have e1 : g1 = g := by injection hv
      have e2 : g = g2 := by injection hq
      subst e1
      subst e2
      rw [hc1] at hc2
      injection hc2 with hc2
      injection hc2 with _ h2
      exact hne h2
theorem OwnL.mono {D D' : Nat} {W : World} {rs : List (Pl × Ex)} (h : OwnL D W rs) (hD : D' ≤ D) : OwnL D' W rs := fun j r hj => ⟨(h j r hj).1.mono hD, (h j r hj).2.mono hD⟩
/-- The lists are left where the row of examples is written. -/
theorem OwnL.store {D D' : Nat} {W W' : World} {v : Value} {rs rs' : List (Pl × Ex)} (h : OwnL D W rs) (hl : LotE D' W v rs') (g : W.grownBy W' v.ownBlock) : OwnL D W' rs := fun j r hj => ⟨own_els (h j r hj).1 hl (by decide) g, own_els (h j r hj).2 hl (by decide) g⟩
theorem OwnL.set {D k : Nat} {W : World} {rs : List (Pl × Ex)} (h : OwnL D W rs) {r : Pl × Ex} (h1 : BufK .i64 2 D W r.1.xa r.2.1.length r.1.xc r.2.1) (h2 : BufK .i64 2 D W r.1.ya r.2.2.length r.1.yc r.2.2) : OwnL D W (rs.set k r) := fun j s hj => by
  by_cases e : k = j
  · subst e
    have hk : k < rs.length := by
      have := (List.getElem?_eq_some_iff.1 hj).1
      rwa [List.length_set] at this
    rw [List.getElem?_set_self hk] at hj
    obtain rfl := Option.some.inj hj
    exact ⟨h1, h2⟩
  · rw [List.getElem?_set_ne e] at hj
    exact h j s hj
theorem info_ex : (Tryd.prog.info? 24).map (fun i => (i.zero, i.size, i.bytes)) = some (some (.agg #[.slice none 0 0, .slice none 0 0]), 2, 48) := by kernel_rfl
theorem one_two {x y : Option Addr} {n m c d : Nat} : ∀ u ∈ ([.slice x n c, .slice y m d] : List Value), u.oneCell' = true := by
  intro u hu
  simp only [List.mem_cons, List.not_mem_nil, or_false] at hu
  rcases hu with rfl | rfl <;> rfl
theorem cells_two (W : World) (u v : Value) (t : TypeId) (j : Nat) (x : Value) (h : [u, v][j]? = some x) : (W.alloc (.cells #[u, v] t)).cell? (Addr.add ⟨W.heap.size, 0, none⟩ j) = some x := by
  rw [Addr.add_lit, World.cell?_alloc_new, Nat.zero_add]
  match j, h with
  | 0, h => exact h
  | 1, h => exact h
  | j + 2, h => simp at h
theorem rclone_n {n : Nat} (a : Option Addr) (cap : Nat) (zs : List Int) (w : World) (hn : zs.length = n) (hl : n ≤ 1099511627776) (ha : a = none → cap = 0) (h : RdK .i64 w.heap.size w a zs) :
    Calls Tryd.prog 33 #[.slice a n cap] w fun e w' => (∃ a' cap', e = .returned (.slice a' n cap') ∧ BufK .i64 2 w.heap.size w' a' n cap' zs) ∧ Grew w w' := by
  subst hn; exact rclone_any a cap zs w hl ha h
theorem kw2 {w W' : World} {a b : Addr} {x y : Value} (g : Grew w W') (ha : a.block < w.heap.size) (hb : b.block < w.heap.size) (h : w.cell? a = some x) (k : w.cell? b = some y) : Grew w W' ∧ W'.cell? a = some x ∧ W'.cell? b = some y :=
  ⟨g, (Below.cell g (p := a) ha).trans h, (Below.cell g (p := b) hb).trans k⟩
theorem snd_take {rs : List (Pl × Ex)} {es : List Ex} {k : Nat} (h : rs.map Prod.snd = es.take k) (hk : k < es.length) (p : Pl) : (rs ++ [(p, ex es k)]).map Prod.snd = es.take (k + 1) := by
  rw [List.map_append, h, List.take_add_one, ex_lt hk]; rfl

set_option maxRecDepth 100000 in
set_option maxHeartbeats 4000000 in
theorem rcloneE_any {n : Nat} (a : Option Addr) (c : Nat) (es : List Ex) (w : World) (hn : es.length = n) (hs : SmE es) (hr : RdE w.heap.size w a es) :
    Calls Tryd.prog 18 #[.slice a n c] w fun e w' => (∃ v rs, e = .returned v ∧ rs.map Prod.snd = es ∧ LotE w.heap.size w' v rs ∧ OwnL w.heap.size w' rs) ∧ Grew w w' := by
  obtain ⟨i0, hi, hz0, hz1, hz2⟩ := info_parts info_ex
  have hn1 := hs.1
  rw [hn] at hn1
  have HN := Lib.hid hn
  have HS := Lib.hid hs
  have HX := Lib.hid hr
  clear hn hs hr
  go_enter Tryd.func18, Tryd.ntmps18
  go_wp2
  go_loopw [3, 4] (fun v i wr => ∃ (k : Nat) (rs : List (Pl × Ex)), k ≤ n ∧ rs.length = k ∧ i = .int .i64 k ∧ Hid (rs.map Prod.snd = es.take k) ∧ Hid (LotE w.heap.size wr v rs) ∧ Hid (OwnL w.heap.size wr rs) ∧ Hid (Grew w wr)) (fun _ i _ => n - (intOf i).toNat)
  case atStart => exact ⟨0, [], Nat.zero_le _, rfl, rfl, Lib.hid rfl, Lib.hid (World.ownsRow_nil _ _ _ _), Lib.hid (fun j r h => by simp at h), Lib.hid (Grew.refl _)⟩
  case round =>
    obtain ⟨k, rs, hk, hrl, rfl, HM, HL, HO, HG⟩ := hrel
    obtain ⟨va, vc, rfl, _, _⟩ := HL.out.form
    subst hrl
    by_cases hlt : rs.length < n
    · obtain ⟨b, off, xa, xc, ya, yc, rfl, hb, c0w, c1w, r1, r2, n1, n2⟩ := HX.out.at (k := rs.length) (by rw [HN.out]; exact hlt)
      obtain ⟨s1, s2⟩ := HS.out.2 rs.length (by rw [HN.out]; exact hlt)
      have R1 := Lib.hid r1
      have R2 := Lib.hid r2
      have N1 := Lib.hid n1
      have N2 := Lib.hid n2
      have HM2 := Lib.hid (fun p => snd_take (p := p) HM.out (by rw [HN.out]; exact hlt))
      have C0 := Lib.hid c0w
      have C1 := Lib.hid c1w
      have c0 : wr.cell? ⟨b, off + rs.length * 2, none⟩ = some (.slice xa (lx es rs.length) xc) := (Below.cell HG.out (p := ⟨b, off + rs.length * 2, none⟩) hb).trans c0w
      have c1 : wr.cell? ⟨b, off + rs.length * 2 + 1, none⟩ = some (.slice ya (ly es rs.length) yc) := (Below.cell HG.out (p := ⟨b, off + rs.length * 2 + 1, none⟩) hb).trans c1w
      have hsw := HG.out.size
      have HNX : Hid ((ex es rs.length).1.length = lx es rs.length) := Lib.hid rfl
      have HNY : Hid ((ex es rs.length).2.length = ly es rs.length) := Lib.hid rfl
      clear r1 r2 n1 n2 c0w c1w
      generalize lx es rs.length = m1 at *
      generalize ly es rs.length = m2 at *
      go_wp2_with fail
      refine wp_region_held_drew (S := (fun W' => Grew w W' ∧ W'.cell? ⟨b, off + rs.length * 2, none⟩ = some (.slice xa m1 xc) ∧ W'.cell? ⟨b, off + rs.length * 2 + 1, none⟩ = some (.slice ya m2 yc))) (by kernel_rfl) ⟨Grew.drew' HG.out, c0, c1⟩ (fun hHeld => ?_)
      refine wpAnyH_take (i := 0) (oi := { dst := some 11, op := Go.Op.move (Go.Operand.tmp 3), type := 26, pos := _, after := #[], guard := none }) (v := ?v1) rfl (by kernel_rfl) (by kernel_rfl) (by kernel_rfl) (fun _ _ _ h => h) (Or.inl ⟨by kernel_rfl, ?hy1⟩) (by assumption) ?_
      case hy1 => intro w hSw; (try dsimp only at hSw); first | (go_simp; done) | (go_simp; with_reducible rfl)
      (try simp only [Act.put, List.setIfInBounds_toArray, List.set_cons_zero, List.set_cons_succ])
      refine wpAnyH_take (i := 1) (oi := { dst := some 12, op := Go.Op.move (Go.Operand.tmp 0), type := 26, pos := _, after := #[], guard := none }) (v := ?v2) rfl (by kernel_rfl) (by kernel_rfl) (by kernel_rfl) (fun _ _ _ h => h) (Or.inl ⟨by kernel_rfl, ?hy2⟩) (by assumption) ?_
      case hy2 => intro w hSw; (try dsimp only at hSw); first | (go_simp; done) | (go_simp; with_reducible rfl)
      (try simp only [Act.put, List.setIfInBounds_toArray, List.set_cons_zero, List.set_cons_succ])
      refine wpAnyH_take (i := 2) (oi := { dst := some 13, op := Go.Op.move (Go.Operand.tmp 4), type := 3, pos := _, after := #[], guard := none }) (v := ?v3) rfl (by kernel_rfl) (by kernel_rfl) (by kernel_rfl) (fun _ _ _ h => h) (Or.inl ⟨by kernel_rfl, ?hy3⟩) (by assumption) ?_
      case hy3 => intro w hSw; (try dsimp only at hSw); first | (go_simp; done) | (go_simp; with_reducible rfl)
      (try simp only [Act.put, List.setIfInBounds_toArray, List.set_cons_zero, List.set_cons_succ])
      refine wpAnyH_take (i := 3) (oi := { dst := some 14, op := Go.Op.indexAddr 26 (Go.Operand.tmp 12) (Go.Operand.tmp 13), type := 0, pos := _, after := #[{ on := 1, ground := Go.Ground.data }, { on := 2, ground := Go.Ground.data }], guard := none }) (v := ?v4) rfl (by kernel_rfl) (by kernel_rfl) (by kernel_rfl) (fun _ _ _ h => h) (Or.inl ⟨by kernel_rfl, ?hy4⟩) (by assumption) ?_
      case hy4 => intro w hSw; (try dsimp only at hSw); first | (go_simp; done) | (go_simp; with_reducible rfl)
      (try simp only [Act.put, List.setIfInBounds_toArray, List.set_cons_zero, List.set_cons_succ])
      refine wpAnyH_take (i := 4) (oi := { dst := some 15, op := Go.Op.fieldAddr 24 (Go.Operand.tmp 14) 0, type := 0, pos := _, after := #[{ on := 3, ground := Go.Ground.data }], guard := none }) (v := ?v5) rfl (by kernel_rfl) (by kernel_rfl) (by kernel_rfl) (fun _ _ _ h => h) (Or.inl ⟨by kernel_rfl, ?hy5⟩) (by assumption) ?_
      case hy5 => intro w hSw; (try dsimp only at hSw); first | (go_simp; done) | (go_simp; with_reducible rfl)
      (try simp only [Act.put, List.setIfInBounds_toArray, List.set_cons_zero, List.set_cons_succ])
      refine wpAnyH_take (i := 5) (oi := { dst := some 16, op := Go.Op.load 22 (Go.Operand.tmp 15), type := 22, pos := _, after := #[{ on := 4, ground := Go.Ground.data }], guard := none }) (v := ?v6) rfl (by kernel_rfl) (by kernel_rfl) (by kernel_rfl) (fun _ _ _ h => h) (Or.inl ⟨by kernel_rfl, ?hy6⟩) (by assumption) ?_
      case hy6 => intro w hSw; (try dsimp only at hSw); first | (go_simp; done) | (go_simp; with_reducible rfl)
      (try simp only [Act.put, List.setIfInBounds_toArray, List.set_cons_zero, List.set_cons_succ])
      refine wpAnyH_take (i := 7) (oi := { dst := some 18, op := Go.Op.move (Go.Operand.tmp 0), type := 26, pos := _, after := #[], guard := none }) (v := ?v7) rfl (by kernel_rfl) (by kernel_rfl) (by kernel_rfl) (fun _ _ _ h => h) (Or.inl ⟨by kernel_rfl, ?hy7⟩) (by assumption) ?_
      case hy7 => intro w hSw; (try dsimp only at hSw); first | (go_simp; done) | (go_simp; with_reducible rfl)
      (try simp only [Act.put, List.setIfInBounds_toArray, List.set_cons_zero, List.set_cons_succ])
      refine wpAnyH_take (i := 8) (oi := { dst := some 19, op := Go.Op.move (Go.Operand.tmp 4), type := 3, pos := _, after := #[], guard := none }) (v := ?v8) rfl (by kernel_rfl) (by kernel_rfl) (by kernel_rfl) (fun _ _ _ h => h) (Or.inl ⟨by kernel_rfl, ?hy8⟩) (by assumption) ?_
      case hy8 => intro w hSw; (try dsimp only at hSw); first | (go_simp; done) | (go_simp; with_reducible rfl)
      (try simp only [Act.put, List.setIfInBounds_toArray, List.set_cons_zero, List.set_cons_succ])
      refine wpAnyH_take (i := 9) (oi := { dst := some 20, op := Go.Op.indexAddr 26 (Go.Operand.tmp 18) (Go.Operand.tmp 19), type := 0, pos := _, after := #[{ on := 7, ground := Go.Ground.data }, { on := 8, ground := Go.Ground.data }], guard := none }) (v := ?v9) rfl (by kernel_rfl) (by kernel_rfl) (by kernel_rfl) (fun _ _ _ h => h) (Or.inl ⟨by kernel_rfl, ?hy9⟩) (by assumption) ?_
      case hy9 => intro w hSw; (try dsimp only at hSw); first | (go_simp; done) | (go_simp; with_reducible rfl)
      (try simp only [Act.put, List.setIfInBounds_toArray, List.set_cons_zero, List.set_cons_succ])
      refine wpAnyH_take (i := 10) (oi := { dst := some 21, op := Go.Op.fieldAddr 24 (Go.Operand.tmp 20) 1, type := 0, pos := _, after := #[{ on := 9, ground := Go.Ground.data }], guard := none }) (v := ?v10) rfl (by kernel_rfl) (by kernel_rfl) (by kernel_rfl) (fun _ _ _ h => h) (Or.inl ⟨by kernel_rfl, ?hy10⟩) (by assumption) ?_
      case hy10 => intro w hSw; (try dsimp only at hSw); first | (go_simp; done) | (go_simp; with_reducible rfl)
      (try simp only [Act.put, List.setIfInBounds_toArray, List.set_cons_zero, List.set_cons_succ])
      refine wpAnyH_take (i := 11) (oi := { dst := some 22, op := Go.Op.load 22 (Go.Operand.tmp 21), type := 22, pos := _, after := #[{ on := 10, ground := Go.Ground.data }], guard := none }) (v := ?v11) rfl (by kernel_rfl) (by kernel_rfl) (by kernel_rfl) (fun _ _ _ h => h) (Or.inl ⟨by kernel_rfl, ?hy11⟩) (by assumption) ?_
      case hy11 => intro w hSw; (try dsimp only at hSw); first | (go_simp; done) | (go_simp; with_reducible rfl)
      (try simp only [Act.put, List.setIfInBounds_toArray, List.set_cons_zero, List.set_cons_succ])
      refine wpAnyH_ready (rs := [6]) (by kernel_rfl) (by simp) ?_
      refine AllReadyH.cons (o := { dst := some 17, op := Go.Op.call { callee := Go.Callee.value (Go.Operand.func 33), args := #[Go.Operand.tmp 16], argTypes := #[22] }, type := 22, pos := _, after := #[{ on := 5, ground := Go.Ground.data }], guard := none }) rfl (fun K hK => ?_) AllReadyH.nil
      go_simp
      (go_at_call 33; refine (rclone_n xa xc (ex es rs.length).1 _ HNX.out (by omega) N1.out ((R1.out.grow HG.out).grow (Grew.drew' (Grew.refl wr)))).mono ?_; rintro u w5 ⟨⟨x', c5, rfl, hbx⟩, g5⟩; have gt5 := (Grew.drew' (Grew.refl wr)).trans g5; have HL5 := Lib.hid (HL.out.grow gt5); have HO5 := Lib.hid (HO.out.grow gt5); have HG5 := Lib.hid (HG.out.trans gt5); have HX5 := Lib.hid hbx; clear hbx gt5)
      (try go_wp2_with fail)
      refine hK.out _ _ ?hS13 (fun hHeld => ?_)
      case hS13 => (try dsimp only); exact (kw2 HG5.out hb hb C0.out C1.out)
      clear hK K
      (try simp only [Act.put, List.setIfInBounds_toArray, List.set_cons_zero, List.set_cons_succ])
      refine wpAnyH_ready (rs := [12]) (by kernel_rfl) (by simp) ?_
      refine AllReadyH.cons (o := { dst := some 23, op := Go.Op.call { callee := Go.Callee.value (Go.Operand.func 33), args := #[Go.Operand.tmp 22], argTypes := #[22] }, type := 22, pos := _, after := #[{ on := 11, ground := Go.Ground.data }, { on := 6, ground := Go.Ground.chain }], guard := none }) rfl (fun K hK => ?_) AllReadyH.nil
      go_simp
      (go_at_call 33; refine (rclone_n ya yc (ex es rs.length).2 _ HNY.out (by omega) N2.out (R2.out.grow HG5.out)).mono ?_; rintro u w6 ⟨⟨y', c6, rfl, hby⟩, g6⟩; have HL6 := Lib.hid (HL5.out.grow g6); have HO6 := Lib.hid (HO5.out.grow g6); have HG6 := Lib.hid (HG5.out.trans g6); have HX6 := Lib.hid (BufK.mono (B' := w.heap.size) (HX5.out.grow g6) hsw); have HY6 := Lib.hid (BufK.mono (B' := w.heap.size) hby HG5.out.size); have hs6 := HG6.out.size; clear hby)
      (try go_wp2_with fail)
      refine hK.out _ _ ?hS15 (fun hHeld => ?_)
      case hS15 => (try dsimp only); exact (kw2 HG6.out hb hb C0.out C1.out)
      clear hK K
      (try simp only [Act.put, List.setIfInBounds_toArray, List.set_cons_zero, List.set_cons_succ])
      refine wpAnyH_take (i := 13) (oi := { dst := some 24, op := Go.Op.build 24 #[(0, Go.Operand.tmp 17), (1, Go.Operand.tmp 23)], type := 24, pos := _, after := #[{ on := 6, ground := Go.Ground.data }, { on := 12, ground := Go.Ground.data }], guard := none }) (v := ?v16) rfl (by kernel_rfl) (by kernel_rfl) (by kernel_rfl) (fun _ _ _ h => h) (Or.inl ⟨by kernel_rfl, ?hy16⟩) (by assumption) ?_
      case hy16 => intro w hSw; (try dsimp only at hSw); first | (go_simp; done) | (go_simp; with_reducible rfl)
      (try simp only [Act.put, List.setIfInBounds_toArray, List.set_cons_zero, List.set_cons_succ])
      refine wpAnyH_ready (rs := [14]) (by kernel_rfl) (by simp) ?_
      refine AllReadyH.cons (o := { dst := some 25, op := Go.Op.buildSlice 26 1 #[(0, Go.Operand.tmp 24)], type := 26, pos := _, after := #[{ on := 13, ground := Go.Ground.data }], guard := none }) rfl (fun K hK => ?_) AllReadyH.nil
      go_simp
      skip
      (try go_wp2_with fail)
      refine hK.out _ _ ?hS18 (fun hHeld => ?_)
      case hS18 => (try dsimp only); exact (kw2 (HG6.out.alloc _) hb hb C0.out C1.out)
      clear hK K
      (try simp only [Act.put, List.setIfInBounds_toArray, List.set_cons_zero, List.set_cons_succ])
      refine wpAnyH_ready (rs := [15]) (by kernel_rfl) (by simp) ?_
      refine AllReadyH.cons (o := { dst := some 26, op := Go.Op.call { callee := Go.Callee.builtin Go.Builtin.append, args := #[Go.Operand.tmp 11, Go.Operand.tmp 25], argTypes := #[26, 26] }, type := 26, pos := _, after := #[{ on := 0, ground := Go.Ground.data }, { on := 14, ground := Go.Ground.data }, { on := 12, ground := Go.Ground.chain }], guard := none }) rfl (fun K hK => ?_) AllReadyH.nil
      (refine step_append_lies _ rfl _ _ 26 rfl w.heap.size 24 i0 (.agg #[.slice none 0 0, .slice none 0 0]) 2 48 Tryd.underlying26 hi hz0 hz1 hz2 rfl (by decide) (.slice va rs.length vc) rs.length _ rfl (World.ownsRow.alloc HL6.out _) ⟨w6.heap.size, 0, none⟩ 1 1 [.slice x' m1 c5, .slice y' m2 c6] rfl rfl (cells_two _ _ _ _) one_two (by decide) (by unfold maxLen; omega) (by omega) (by simp; omega) _ rfl ?_; intro g' c7 w7 hown hgrow hat hlt'; have HOW := Lib.hid hown; have HO7 := Lib.hid (OwnL.store (OwnL.snoc (r := (⟨x', c5, y', c6⟩, ex es rs.length)) (HO6.out.grow ((Grew.refl w6).alloc (.cells #[.slice x' m1 c5, .slice y' m2 c6] 24))) (BufK.grow (by rw [HNX.out]; exact HX6.out) ((Grew.refl w6).alloc (.cells #[.slice x' m1 c5, .slice y' m2 c6] 24))) (BufK.grow (by rw [HNY.out]; exact HY6.out) ((Grew.refl w6).alloc (.cells #[.slice x' m1 c5, .slice y' m2 c6] 24)))) (LotE.grow HL6.out ((Grew.refl w6).alloc (.cells #[.slice x' m1 c5, .slice y' m2 c6] 24))) hgrow); have HG7 : Hid (Grew w w7) := Lib.hid (Below.grown (HG6.out.alloc (.cells #[.slice x' m1 c5, .slice y' m2 c6] 24)) hgrow (by simp; omega) (fun x hx => (World.ownsRow.lt HL6.out x hx).1)); clear hown hgrow hat hlt')
      (try go_wp2_with fail)
      refine hK.out _ _ ?hS20 (fun hHeld => ?_)
      case hS20 => (try dsimp only); exact (kw2 HG7.out hb hb C0.out C1.out)
      clear hK K
      (try simp only [Act.put, List.setIfInBounds_toArray, List.set_cons_zero, List.set_cons_succ])
      refine wpAnyH_take (i := 16) (oi := { dst := some 3, op := Go.Op.assign (Go.Operand.tmp 26), type := 26, pos := _, after := #[{ on := 15, ground := Go.Ground.data }, { on := 15, ground := Go.Ground.chain }, { on := 0, ground := Go.Ground.phase }, { on := 1, ground := Go.Ground.phase }, { on := 2, ground := Go.Ground.phase }, { on := 3, ground := Go.Ground.phase }, { on := 4, ground := Go.Ground.phase }, { on := 5, ground := Go.Ground.phase }, { on := 6, ground := Go.Ground.phase }, { on := 7, ground := Go.Ground.phase }, { on := 8, ground := Go.Ground.phase }, { on := 9, ground := Go.Ground.phase }, { on := 10, ground := Go.Ground.phase }, { on := 11, ground := Go.Ground.phase }, { on := 12, ground := Go.Ground.phase }, { on := 13, ground := Go.Ground.phase }, { on := 14, ground := Go.Ground.phase }, { on := 15, ground := Go.Ground.phase }], guard := none }) (v := ?v21) rfl (by kernel_rfl) (by kernel_rfl) (by kernel_rfl) (fun _ _ _ h => h) (Or.inl ⟨by kernel_rfl, ?hy21⟩) (by assumption) ?_
      case hy21 => intro w hSw; (try dsimp only at hSw); first | (go_simp; done) | (go_simp; with_reducible rfl)
      (try simp only [Act.put, List.setIfInBounds_toArray, List.set_cons_zero, List.set_cons_succ])
      refine wpAnyH_done (by kernel_rfl) ?_ _
      have HL7 : Hid (LotE w.heap.size w7 (.slice (some ⟨g', 0, none⟩) (rs.length + 1) c7) (rs ++ [(⟨x', c5, y', c6⟩, ex es rs.length)])) := Lib.hid (by
        unfold LotE
        rw [ecells_append, List.length_append]
        show w7.ownsRow _ _ _ _ (rs.length + 1) (ecells rs ++ [.slice x' (ex es rs.length).1.length c5, .slice y' (ex es rs.length).2.length c6])
        rw [HNX.out, HNY.out]
        exact HOW.out)
      go_wp2
      go_roundw
      case rel => exact ⟨rs.length + 1, _, by omega, by rw [List.length_append]; rfl, by go_num, Lib.hid (HM2.out ⟨x', c5, y', c6⟩), HL7, HO7, HG7⟩
      case measure => simp [intOf]; omega
    · have HF : Hid (rs.map Prod.snd = es) := Lib.hid (by rw [HM.out, List.take_of_length_le (by rw [HN.out]; omega)])
      go_wp2
      go_ret
      exact ⟨⟨_, rs, rfl, HF.out, HL.out, HO.out⟩, HG.out⟩

/-- Rows of examples that make has made. -/
def nilR : Pl × Ex := (⟨none, 0, none, 0⟩, ([], []))
theorem ecells_zero (n : Nat) : (madeCells #[.slice none 0 0, .slice none 0 0] (n * 2)).toList = ecells (List.replicate n nilR) := by
  have h1 : ecells (List.replicate n nilR) = List.replicate (n * 2) (.slice none 0 0) := by
    induction n with
    | zero => rfl
    | succ n ih =>
      rw [show (n + 1) * 2 = n * 2 + 1 + 1 from by omega, List.replicate_succ, List.replicate_succ, List.replicate_succ, ← ih]
      rfl
  rw [h1]
  apply List.ext_getElem?
  intro j
  by_cases hj : j < n * 2
  · rcases Nat.mod_two_eq_zero_or_one j with h | h <;> simp [madeCells, hj, h]
  · simp [madeCells, hj]
theorem LotE.made (w : World) (n : Nat) (h : n ≤ 35184372088832) : LotE w.heap.size (w.alloc (.cells (madeCells #[.slice none 0 0, .slice none 0 0] (n * 2)) 24)) (.slice (some ⟨w.heap.size, 0, none⟩) n n) (List.replicate n nilR) := by
  have h1 := World.ownsRow_lit (e := 24) (size := 2) (base := w.heap.size) w (madeCells #[.slice none 0 0, .slice none 0 0] (n * 2)) n (Nat.le_refl _) (by unfold maxLen; omega) (by simp [size_madeCells])
  unfold LotE
  rw [ecells_zero] at h1
  rw [List.length_replicate]
  exact h1
theorem run_make_ex (n : Nat) (h : n ≤ 1073741824) (w : World) : (Instr.makeSlice 26 (.int .i64 (n : Int)) (.int .i64 (n : Int))).run Tryd.prog w = .ok (.slice (some ⟨w.heap.size, 0, none⟩) n n) (w.alloc (.cells (madeCells #[.slice none 0 0, .slice none 0 0] (n * 2)) 24)) := by
  obtain ⟨i, hi, hz0, hz1, hz2⟩ := info_parts info_ex
  have hr := run_make (P := Tryd.prog) w 26 24 i _ Tryd.underlying26 hi hz0 .i64 .i64 n n (by omega) (Int.le_refl _) (by rw [hz2]; omega) (by omega)
  simp only [Int.toNat_natCast, hz1] at hr
  exact hr
theorem nil_own (D : Nat) (W : World) (n : Nat) : OwnL D W (List.replicate n nilR) := fun j r hj => by
  have hj' : j < n := by have := (List.getElem?_eq_some_iff.1 hj).1; simpa using this
  rw [List.getElem?_replicate, if_pos hj'] at hj
  obtain rfl := Option.some.inj hj
  exact ⟨World.ownsRow_nil _ _ _ _, World.ownsRow_nil _ _ _ _⟩

set_option maxRecDepth 100000 in
set_option maxHeartbeats 4000000 in
theorem dcloneE_any {n : Nat} (a : Option Addr) (c : Nat) (es : List Ex) (w : World) (hn : es.length = n) (hs : SmE es) (hr : RdE w.heap.size w a es) :
    Calls Tryd.prog 24 #[.slice a n c] w fun e w' => (∃ v rs, e = .returned v ∧ rs.map Prod.snd = es ∧ LotE w.heap.size w' v rs ∧ OwnL w.heap.size w' rs) ∧ Grew w w' := by
  have hn1 := hs.1
  rw [hn] at hn1
  have hmk := run_make_ex n (by omega)
  have HN := Lib.hid hn
  have HS := Lib.hid hs
  have HX := Lib.hid hr
  have HL0 := Lib.hid (LotE.made w n (by omega))
  have HG0 : Hid (Grew w (w.alloc (.cells (madeCells #[.slice none 0 0, .slice none 0 0] (n * 2)) 24))) := Lib.hid ((Grew.refl w).alloc _)
  clear hn hs hr
  go_enter Tryd.func24, Tryd.ntmps24
  go_wp2
  clear hmk
  go_loopw [11] (fun i wr => ∃ (k : Nat) (rs : List (Pl × Ex)), k ≤ n ∧ i = .int .i64 k ∧ Hid (rs.length = n) ∧ Hid (∀ j, j < k → ∃ p, rs[j]? = some (p, ex es j)) ∧ Hid (LotE w.heap.size wr (.slice (some ⟨w.heap.size, 0, none⟩) n n) rs) ∧ Hid (OwnL w.heap.size wr rs) ∧ Hid (Grew w wr)) (fun i _ => n - (intOf i).toNat)
  case atStart => exact ⟨0, _, Nat.zero_le _, rfl, Lib.hid List.length_replicate, Lib.hid (fun j hj => absurd hj (Nat.not_lt_zero _)), HL0, Lib.hid (nil_own _ _ _), HG0⟩
  case round =>
    obtain ⟨k, rs, hk, rfl, HRL, HM, HL, HO, HG⟩ := hrel
    by_cases hlt : k < n
    · obtain ⟨b, off, xa, xc, ya, yc, rfl, hb, c0w, c1w, r1, r2, n1, n2⟩ := HX.out.at (k := k) (by rw [HN.out]; exact hlt)
      obtain ⟨s1, s2⟩ := HS.out.2 k (by rw [HN.out]; exact hlt)
      have c0 : wr.cell? ⟨b, off + k * 2, none⟩ = some (.slice xa (lx es k) xc) := (Below.cell HG.out (p := ⟨b, off + k * 2, none⟩) hb).trans c0w
      have c1 : wr.cell? ⟨b, off + k * 2 + 1, none⟩ = some (.slice ya (ly es k) yc) := (Below.cell HG.out (p := ⟨b, off + k * 2 + 1, none⟩) hb).trans c1w
      have hsw := HG.out.size
      have HNX : Hid ((ex es k).1.length = lx es k) := Lib.hid rfl
      have HNY : Hid ((ex es k).2.length = ly es k) := Lib.hid rfl
      generalize lx es k = m1 at *
      generalize ly es k = m2 at *
      have gA : Grew wr (wr.alloc (.cells #[.slice xa m1 xc, .slice ya m2 yc] 24)) := (Grew.refl _).alloc _
      have HE := Lib.hid (Two.new wr 24 (.slice xa m1 xc) (.slice ya m2 yc))
      have HGV := Lib.hid (HG.out.trans gA)
      have HLV := Lib.hid (HL.out.grow gA)
      have HOV := Lib.hid (HO.out.grow gA)
      have R1 := Lib.hid (RdK.grow (r1.grow HG.out) gA)
      have R2 := Lib.hid (RdK.grow (r2.grow HG.out) gA)
      have hGB : w.heap.size < wr.heap.size := by
        obtain ⟨r0, hr0⟩ : ∃ r, rs[k]? = some r := ⟨_, List.getElem?_eq_getElem (by rw [HRL.out]; exact hlt)⟩
        obtain ⟨g, cap, e, _, hg, _⟩ := HL.out.at hr0
        injection e with e1 _ _
        obtain rfl : w.heap.size = g := by injection e1 with e1; injection e1
        exact hg
      clear r1 r2 n1 n2 c0w c1w gA
      go_wp2_with fail
      generalize wr.alloc (.cells #[.slice xa m1 xc, .slice ya m2 yc] 24) = wv at *
      generalize wr.heap.size = B at *
      have e0 := HE.out.c0
      have e1 := HE.out.c1
      clear c0 c1
      refine wp_region_held_drew (S := (fun W' => Grew w W' ∧ W'.cell? ⟨B, 0, none⟩ = some (.slice xa m1 xc) ∧ W'.cell? ⟨B, 1, none⟩ = some (.slice ya m2 yc))) (by kernel_rfl) ⟨Grew.drew' HGV.out, e0, e1⟩ (fun hHeld => ?_)
      refine wpAnyH_take (i := 0) (oi := { dst := some 16, op := Go.Op.move (Go.Operand.tmp 3), type := 26, pos := _, after := #[], guard := none }) (v := ?v22) rfl (by kernel_rfl) (by kernel_rfl) (by kernel_rfl) (fun _ _ _ h => h) (Or.inl ⟨by kernel_rfl, ?hy22⟩) (by assumption) ?_
      case hy22 => intro w hSw; (try dsimp only at hSw); first | (go_simp; done) | (go_simp; with_reducible rfl)
      (try simp only [Act.put, List.setIfInBounds_toArray, List.set_cons_zero, List.set_cons_succ])
      refine wpAnyH_take (i := 1) (oi := { dst := some 17, op := Go.Op.move (Go.Operand.tmp 4), type := 3, pos := _, after := #[], guard := none }) (v := ?v23) rfl (by kernel_rfl) (by kernel_rfl) (by kernel_rfl) (fun _ _ _ h => h) (Or.inl ⟨by kernel_rfl, ?hy23⟩) (by assumption) ?_
      case hy23 => intro w hSw; (try dsimp only at hSw); first | (go_simp; done) | (go_simp; with_reducible rfl)
      (try simp only [Act.put, List.setIfInBounds_toArray, List.set_cons_zero, List.set_cons_succ])
      refine wpAnyH_take (i := 2) (oi := { dst := some 18, op := Go.Op.fieldAddr 24 (Go.Operand.tmp 5) 0, type := 0, pos := _, after := #[], guard := none }) (v := ?v24) rfl (by kernel_rfl) (by kernel_rfl) (by kernel_rfl) (fun _ _ _ h => h) (Or.inl ⟨by kernel_rfl, ?hy24⟩) (by assumption) ?_
      case hy24 => intro w hSw; (try dsimp only at hSw); first | (go_simp; done) | (go_simp; with_reducible rfl)
      (try simp only [Act.put, List.setIfInBounds_toArray, List.set_cons_zero, List.set_cons_succ])
      refine wpAnyH_take (i := 3) (oi := { dst := some 19, op := Go.Op.load 22 (Go.Operand.tmp 18), type := 22, pos := _, after := #[{ on := 2, ground := Go.Ground.data }], guard := none }) (v := ?v25) rfl (by kernel_rfl) (by kernel_rfl) (by kernel_rfl) (fun _ _ _ h => h) (Or.inl ⟨by kernel_rfl, ?hy25⟩) (by assumption) ?_
      case hy25 => intro w hSw; (try dsimp only at hSw); first | (go_simp; done) | (go_simp; with_reducible rfl)
      (try simp only [Act.put, List.setIfInBounds_toArray, List.set_cons_zero, List.set_cons_succ])
      refine wpAnyH_take (i := 5) (oi := { dst := some 21, op := Go.Op.fieldAddr 24 (Go.Operand.tmp 5) 1, type := 0, pos := _, after := #[], guard := none }) (v := ?v26) rfl (by kernel_rfl) (by kernel_rfl) (by kernel_rfl) (fun _ _ _ h => h) (Or.inl ⟨by kernel_rfl, ?hy26⟩) (by assumption) ?_
      case hy26 => intro w hSw; (try dsimp only at hSw); first | (go_simp; done) | (go_simp; with_reducible rfl)
      (try simp only [Act.put, List.setIfInBounds_toArray, List.set_cons_zero, List.set_cons_succ])
      refine wpAnyH_take (i := 6) (oi := { dst := some 22, op := Go.Op.load 22 (Go.Operand.tmp 21), type := 22, pos := _, after := #[{ on := 5, ground := Go.Ground.data }], guard := none }) (v := ?v27) rfl (by kernel_rfl) (by kernel_rfl) (by kernel_rfl) (fun _ _ _ h => h) (Or.inl ⟨by kernel_rfl, ?hy27⟩) (by assumption) ?_
      case hy27 => intro w hSw; (try dsimp only at hSw); first | (go_simp; done) | (go_simp; with_reducible rfl)
      (try simp only [Act.put, List.setIfInBounds_toArray, List.set_cons_zero, List.set_cons_succ])
      refine wpAnyH_ready (rs := [4]) (by kernel_rfl) (by simp) ?_
      refine AllReadyH.cons (o := { dst := some 20, op := Go.Op.call { callee := Go.Callee.value (Go.Operand.func 38), args := #[Go.Operand.tmp 19], argTypes := #[22] }, type := 22, pos := _, after := #[{ on := 3, ground := Go.Ground.data }], guard := none }) rfl (fun K hK => ?_) AllReadyH.nil
      go_simp
      (go_at_call 38; refine (jclone_n xa xc (ex es k).1 _ HNX.out (by omega) (R1.out.grow (Grew.drew' (Grew.refl wv)))).mono ?_; rintro u w5 ⟨⟨x', c5, rfl, hbx⟩, g5⟩; have gt5 := (Grew.drew' (Grew.refl wv)).trans g5; have HL5 := Lib.hid (HLV.out.grow gt5); have HO5 := Lib.hid (HOV.out.grow gt5); have HG5 := Lib.hid (HGV.out.trans gt5); have HX5 := Lib.hid hbx; have R25 := Lib.hid (R2.out.grow gt5); have HE5 := Lib.hid (HE.out.grow gt5); have hs5 : w.heap.size ≤ wv.drew.heap.size := HGV.out.size; clear hbx gt5)
      (try go_wp2_with fail)
      refine hK.out _ _ ?hS29 (fun hHeld => ?_)
      case hS29 => (try dsimp only); exact ⟨HG5.out, HE5.out.c0, HE5.out.c1⟩
      clear hK K
      (try simp only [Act.put, List.setIfInBounds_toArray, List.set_cons_zero, List.set_cons_succ])
      refine wpAnyH_ready (rs := [7]) (by kernel_rfl) (by simp) ?_
      refine AllReadyH.cons (o := { dst := some 23, op := Go.Op.call { callee := Go.Callee.value (Go.Operand.func 38), args := #[Go.Operand.tmp 22], argTypes := #[22] }, type := 22, pos := _, after := #[{ on := 6, ground := Go.Ground.data }, { on := 4, ground := Go.Ground.chain }], guard := none }) rfl (fun K hK => ?_) AllReadyH.nil
      go_simp
      (go_at_call 38; refine (jclone_n ya yc (ex es k).2 _ HNY.out (by omega) R25.out).mono ?_; rintro u w6 ⟨⟨y', c6, rfl, hby⟩, g6⟩; have HL6 := Lib.hid (HL5.out.grow g6); have HO6 := Lib.hid (HO5.out.grow g6); have HG6 := Lib.hid (HG5.out.trans g6); have HX6 := Lib.hid (BufK.mono (B' := w.heap.size) (HX5.out.grow g6) hs5); have HY6 := Lib.hid (BufK.mono (B' := w.heap.size) hby HG5.out.size); have HE6 := Lib.hid (HE5.out.grow g6); obtain ⟨r0, hr0⟩ : ∃ r, rs[k]? = some r := ⟨_, List.getElem?_eq_getElem (by rw [HRL.out]; exact hlt)⟩; obtain ⟨g, cap, eg, _, hgl, _, k0, k1, f0, f1⟩ := HL6.out.at hr0; obtain rfl : w.heap.size = g := (by injection eg with eg _ _; injection eg with eg; injection eg); clear hby eg hr0)
      (try go_wp2_with fail)
      refine hK.out _ _ ?hS31 (fun hHeld => ?_)
      case hS31 => (try dsimp only); exact ⟨HG6.out, HE6.out.c0, HE6.out.c1⟩
      clear hK K
      (try simp only [Act.put, List.setIfInBounds_toArray, List.set_cons_zero, List.set_cons_succ])
      refine wpAnyH_take (i := 8) (oi := { dst := some 24, op := Go.Op.build 24 #[(0, Go.Operand.tmp 20), (1, Go.Operand.tmp 23)], type := 24, pos := _, after := #[{ on := 4, ground := Go.Ground.data }, { on := 7, ground := Go.Ground.data }], guard := none }) (v := ?v32) rfl (by kernel_rfl) (by kernel_rfl) (by kernel_rfl) (fun _ _ _ h => h) (Or.inl ⟨by kernel_rfl, ?hy32⟩) (by assumption) ?_
      case hy32 => intro w hSw; (try dsimp only at hSw); first | (go_simp; done) | (go_simp; with_reducible rfl)
      (try simp only [Act.put, List.setIfInBounds_toArray, List.set_cons_zero, List.set_cons_succ])
      refine wpAnyH_take (i := 9) (oi := { dst := some 25, op := Go.Op.indexAddr 26 (Go.Operand.tmp 16) (Go.Operand.tmp 17), type := 0, pos := _, after := #[{ on := 0, ground := Go.Ground.data }, { on := 1, ground := Go.Ground.data }, { on := 0, ground := Go.Ground.phase }, { on := 1, ground := Go.Ground.phase }, { on := 2, ground := Go.Ground.phase }, { on := 3, ground := Go.Ground.phase }, { on := 4, ground := Go.Ground.phase }, { on := 5, ground := Go.Ground.phase }, { on := 6, ground := Go.Ground.phase }, { on := 7, ground := Go.Ground.phase }, { on := 8, ground := Go.Ground.phase }], guard := none }) (v := ?v33) rfl (by kernel_rfl) (by kernel_rfl) (by kernel_rfl) (fun _ _ _ h => h) (Or.inl ⟨by kernel_rfl, ?hy33⟩) (by assumption) ?_
      case hy33 => intro w hSw; (try dsimp only at hSw); first | (go_simp; done) | (go_simp; with_reducible rfl)
      (try simp only [Act.put, List.setIfInBounds_toArray, List.set_cons_zero, List.set_cons_succ])
      refine wpAnyH_ready (rs := [10]) (by kernel_rfl) (by simp) ?_
      refine AllReadyH.cons (o := { dst := none, op := Go.Op.store 24 (Go.Operand.tmp 25) (Go.Operand.tmp 24), type := 0, pos := _, after := #[{ on := 9, ground := Go.Ground.data }, { on := 8, ground := Go.Ground.data }, { on := 7, ground := Go.Ground.chain }, { on := 0, ground := Go.Ground.phase }, { on := 1, ground := Go.Ground.phase }, { on := 2, ground := Go.Ground.phase }, { on := 3, ground := Go.Ground.phase }, { on := 4, ground := Go.Ground.phase }, { on := 5, ground := Go.Ground.phase }, { on := 6, ground := Go.Ground.phase }, { on := 7, ground := Go.Ground.phase }, { on := 8, ground := Go.Ground.phase }], guard := none }) rfl (fun K hK => ?_) AllReadyH.nil
      go_simp
      skip
      (try go_wp2_with fail)
      refine hK.out _ _ ?hS35 (fun hHeld => ?_)
      case hS35 => (try dsimp only); exact ⟨Below.setCell (p := ⟨w.heap.size, k * 2 + 1, none⟩) (Below.setCell (p := ⟨w.heap.size, k * 2, none⟩) HG6.out (Nat.le_refl _) _) (Nat.le_refl _) _, Two.c0 ((HE6.out.other ⟨w.heap.size, k * 2, none⟩ _ (by show B ≠ w.heap.size; omega)).other ⟨w.heap.size, k * 2 + 1, none⟩ _ (by show B ≠ w.heap.size; omega)), Two.c1 ((HE6.out.other ⟨w.heap.size, k * 2, none⟩ _ (by show B ≠ w.heap.size; omega)).other ⟨w.heap.size, k * 2 + 1, none⟩ _ (by show B ≠ w.heap.size; omega))⟩
      clear hK K
      (try simp only [Act.put, List.setIfInBounds_toArray, List.set_cons_zero, List.set_cons_succ])
      refine wpAnyH_done (by kernel_rfl) ?_ _
      have gS : w6.grownBy ((w6.setCell ⟨w.heap.size, k * 2, none⟩ (.slice x' m1 c5)).setCell ⟨w.heap.size, k * 2 + 1, none⟩ (.slice y' m2 c6)) (some w.heap.size) := grownBy_trans (grownBy_setCell1 w6 ⟨w.heap.size, k * 2, none⟩ _) (grownBy_setCell1 _ ⟨w.heap.size, k * 2 + 1, none⟩ _)
      have HG8 : Hid (Grew w ((w6.setCell ⟨w.heap.size, k * 2, none⟩ (.slice x' m1 c5)).setCell ⟨w.heap.size, k * 2 + 1, none⟩ (.slice y' m2 c6))) := Lib.hid (Below.setCell (p := ⟨w.heap.size, k * 2 + 1, none⟩) (Below.setCell (p := ⟨w.heap.size, k * 2, none⟩) HG6.out (Nat.le_refl _) _) (Nat.le_refl _) _)
      have HO8 : Hid (OwnL w.heap.size ((w6.setCell ⟨w.heap.size, k * 2, none⟩ (.slice x' m1 c5)).setCell ⟨w.heap.size, k * 2 + 1, none⟩ (.slice y' m2 c6)) (rs.set k (⟨x', c5, y', c6⟩, ex es k))) := Lib.hid (OwnL.store (OwnL.set (r := (⟨x', c5, y', c6⟩, ex es k)) HO6.out (by rw [HNX.out]; exact HX6.out) (by rw [HNY.out]; exact HY6.out)) HL6.out gS)
      have HL8 : Hid (LotE w.heap.size ((w6.setCell ⟨w.heap.size, k * 2, none⟩ (.slice x' m1 c5)).setCell ⟨w.heap.size, k * 2 + 1, none⟩ (.slice y' m2 c6)) (.slice (some ⟨w.heap.size, 0, none⟩) n n) (rs.set k (⟨x', c5, y', c6⟩, ex es k))) := Lib.hid (by have h := HL6.out; rw [show (Value.slice (some ⟨w.heap.size, 0, none⟩) n n) = .slice (some ⟨w.heap.size, 0, none⟩) rs.length n by rw [HRL.out]] at h; have h2 := LotE.set (k := k) h (⟨x', c5, y', c6⟩, ex es k); simp only [Pl.x, Pl.y] at h2; rw [HNX.out, HNY.out, HRL.out] at h2; exact h2)
      have HRL8 : Hid ((rs.set k (⟨x', c5, y', c6⟩, ex es k)).length = n) := Lib.hid (by rw [List.length_set]; exact HRL.out)
      have HM8 : Hid (∀ j, j < k + 1 → ∃ p, (rs.set k (⟨x', c5, y', c6⟩, ex es k))[j]? = some (p, ex es j)) := Lib.hid (fun j hj => by by_cases e : k = j; exact ⟨⟨x', c5, y', c6⟩, by rw [← e, List.getElem?_set_self (by rw [HRL.out]; exact hlt)]⟩; rw [List.getElem?_set_ne e]; exact HM.out j (by omega))
      clear gS
      go_wp2
      go_roundw
      case rel => exact ⟨k + 1, _, by omega, by go_num, HRL8, HM8, HL8, HO8, HG8⟩
      case measure => simp [intOf]; omega
    · have HF : Hid (rs.map Prod.snd = es) := Lib.hid (by
        apply List.ext_getElem?
        intro j
        rw [List.getElem?_map]
        by_cases hj : j < n
        · obtain ⟨p, hp⟩ := HM.out j (by omega)
          rw [hp, ex_lt (by rw [HN.out]; exact hj)]; rfl
        · rw [List.getElem?_eq_none (by rw [HRL.out]; omega), List.getElem?_eq_none (by rw [HN.out]; omega)]; rfl)
      go_wp2
      go_ret
      exact ⟨⟨_, rs, rfl, HF.out, HL.out, HO.out⟩, HG.out⟩
end Go.Proofs.YthdkanmpapioeaaDoor
