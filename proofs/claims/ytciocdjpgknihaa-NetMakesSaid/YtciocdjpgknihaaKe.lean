/- New of package net: a network, or none; forward: it calls a function with the values of each layer. Conditions: the parameters are within the bounds of int64; forward's function leaves all but vectors and slices of vectors. -/
import Derived.Test.YtciocdjpgknihaaKd
namespace Go.Proofs.Ytciocdjpgknihaa
open Go.RowKit Go.Shelf
attribute [local go_sem] Oper.semAt_some

theorem nnew_nil (a : Option Addr) (n c : Nat) (q : Int) (w : World) : Calls Try.prog 25 #[.pointer none, .slice a n c, .int .i64 q] w fun e w' => e = .returned (.tuple #[.pointer none, .bool false]) ∧ w = w' := by
  go_enter Try.func25, Try.ntmps25
  go_wp2
  go_ret2
  exact ⟨rfl, rfl⟩
theorem nnew_q {b : Nat} (a : Option Addr) (n c : Nat) (q : Int) (w : World) (h : q < 0 ∨ 62 < q) : Calls Try.prog 25 #[.pointer (some ⟨b, 0, none⟩), .slice a n c, .int .i64 q] w fun e w' => e = .returned (.tuple #[.pointer none, .bool false]) ∧ w = w' := by
  by_cases h0 : q < 0
  · clear h
    go_enter Try.func25, Try.ntmps25
    go_wp2
    go_ret2
    exact ⟨rfl, rfl⟩
  · have h1 : 62 < q := by omega
    clear h
    go_enter Try.func25, Try.ntmps25
    go_wp2
    go_ret2
    exact ⟨rfl, rfl⟩
theorem nnew_len {D b : Nat} {zs : List Int} (a : Option Addr) (n c : Nat) (q : Int) (w : World) (hR : Right zs) (hS : Shp D w b zs) (hq0 : 0 ≤ q) (hq1 : q ≤ 62) (hn : n ≠ nP zs) :
    Calls Try.prog 25 #[.pointer (some ⟨b, 0, none⟩), .slice a n c, .int .i64 q] w fun e w' => e = .returned (.tuple #[.pointer none, .bool false]) ∧ Grew w w' := by
  have HR := Lib.hid hR
  have HS := Lib.hid hS
  have HV := Lib.hid (nP_eq hR.2.2.1)
  have hne : ((n : Int) != (nP zs : Int)) = true := bne_iff_ne.2 (by omega)
  clear hR hS hn
  generalize nP zs = m at *
  go_enter Try.func25, Try.ntmps25
  go_wp2_with fail
  refine (count_any HR.out HS.out).mono ?_
  rintro e w1 ⟨rfl, g1⟩
  rw [← HV.out]
  go_wp2
  go_ret2
  exact ⟨rfl, g1⟩
set_option maxHeartbeats 1000000 in
theorem nnew_yes {D b n c : Nat} {zs ps : List Int} {a : Option Addr} {q : Int} (w : World) (hP : NetP zs ps q) (hn : n = nP zs) (hD : D ≤ w.heap.size) (hS : Shp D w b zs) (hps : Rd w.heap.size w a ps) :
    Calls Try.prog 25 #[.pointer (some ⟨b, 0, none⟩), .slice a n c, .int .i64 q] w fun e w' => (∃ nb, e = .returned (.tuple #[.pointer (some ⟨nb, 0, none⟩), .bool true]) ∧ NetM D w' nb zs ps q) ∧ Grew w w' := by
  subst hn
  have HR := Lib.hid hP.right
  have HS := Lib.hid hS
  have HV := Lib.hid (nP_eq hP.right.2.2.1)
  have hN := nP_in hP.right
  have HPS := Lib.hid hps
  have HLN := Lib.hid hP.len
  have hq0 := hP.q0
  have hq1 := hP.q1
  have hne : ((nP zs : Int) != (nP zs : Int)) = false := bne_self_eq_false _
  have HD := Lib.hid hD
  have HCL : Hid (∀ W, Rd W.heap.size W a ps → Calls Try.prog 28 #[.slice a (nP zs) c] W fun e w' => e = .returned (.slice (some ⟨W.heap.size, 0, none⟩) (nP zs) (nP zs)) ∧ Buf W.heap.size w' (some ⟨W.heap.size, 0, none⟩) (nP zs) (nP zs) ps ∧ Grew W w') := Lib.hid (fun W h => by
    have := vclone_any a c ps W (by rw [hP.len]; omega) h
    rw [hP.len] at this
    exact this)
  clear hP hS hps hD
  go_enter Try.func25, Try.ntmps25
  go_wp2_with fail
  refine (count_any HR.out HS.out).mono ?_
  rintro e w1 ⟨rfl, g1⟩
  rw [← HV.out]
  have HG1 := Lib.hid g1
  clear g1
  go_wp2_with fail
  refine (HCL.out _ (HPS.out.grow HG1.out)).mono ?_
  rintro e w2 ⟨rfl, hb, g2⟩
  have HB2 := Lib.hid hb
  have HG2 := Lib.hid (HG1.out.trans g2)
  have HS2 := Lib.hid (HS.out.grow HG2.out)
  obtain ⟨L, hL⟩ : ∃ L, w1.heap.size = L := ⟨_, rfl⟩
  have HDL : Hid (D ≤ L) := Lib.hid (by have := HD.out; have := HG1.out.size; omega)
  rw [hL] at HB2 ⊢
  clear hb g2 hL
  go_wp2_with fail
  refine (split_any HR.out HS2.out).mono ?_
  rintro e w3 ⟨⟨la, lc, rfl, hown⟩, g3⟩
  have HG3 := Lib.hid (HG2.out.trans g3)
  have hg4 : Grew w3 (w3.alloc (.cells #[.pointer (some ⟨b, 0, none⟩), .slice (some ⟨L, 0, none⟩) (nP zs) (nP zs), .slice la (lnk zs) lc, .int .i64 q] 58)) := (Grew.refl _).alloc _
  have hmono : D ≤ w2.heap.size := Nat.le_trans HD.out HG2.out.size
  have hn3 : D ≤ w3.heap.size := Nat.le_trans HD.out HG3.out.size
  have hown' : w3.ownsRow D 70 4 (.slice la (lnk zs) lc) (lnk zs) (lcells L zs (lnk zs)) := ⟨hown.1, by
    rcases hown.2 with e | ⟨g, c, cur, e, hb, rest⟩
    · exact .inl e
    · exact .inr ⟨g, c, cur, e, Nat.le_trans hmono hb, rest⟩⟩
  have HE : Hid (NetM D (w3.alloc (.cells #[.pointer (some ⟨b, 0, none⟩), .slice (some ⟨L, 0, none⟩) (nP zs) (nP zs), .slice la (lnk zs) lc, .int .i64 q] 58)) w3.heap.size zs ps q) :=
    Lib.hid ⟨hn3, b, L, la, lc, Four.new _ _ _ _ _ _, (HS2.out.grow g3).grow hg4, ((HB2.out.mono HDL.out).grow g3).grow hg4, own_grow hown' hg4⟩
  have HGE := Lib.hid (HG3.out.trans hg4)
  clear hown hown' hg4 g3 hmono hn3
  go_wp2
  go_ret2
  exact ⟨⟨_, rfl, HE.out⟩, HGE.out⟩

/-- A network with all that its cells name. -/
def NetX (D : Nat) (W : World) (b sb P : Nat) (la : Option Addr) (lc : Nat) (zs ps : List Int) (q : Int) : Prop :=
  Four W b 58 (.pointer (some ⟨sb, 0, none⟩)) (.slice (some ⟨P, 0, none⟩) (nP zs) (nP zs)) (.slice la (lnk zs) lc) (.int .i64 q) ∧ Shp D W sb zs ∧
    Buf D W (some ⟨P, 0, none⟩) (nP zs) (nP zs) ps ∧ W.ownsRow D 70 4 (.slice la (lnk zs) lc) (lnk zs) (lcells P zs (lnk zs))
section
variable {D b sb P lc : Nat} {la : Option Addr} {W W' : World} {zs ps : List Int} {q : Int}
theorem NetM.x (h : NetM D W b zs ps q) : ∃ sb P la lc, NetX D W b sb P la lc zs ps q := by
  obtain ⟨h0, sb, P, la, lc, h⟩ := h
  exact ⟨sb, P, la, lc, h⟩
theorem NetX.grow (h : NetX D W b sb P la lc zs ps q) (g : Grew W W') : NetX D W' b sb P la lc zs ps q := ⟨h.1.grow g, h.2.1.grow g, h.2.2.1.grow g, own_grow h.2.2.2 g⟩
theorem NetX.kp (h : NetX D W b sb P la lc zs ps q) (k : KpV W W') : NetX D W' b sb P la lc zs ps q := by
  obtain ⟨h1, ⟨s0, sa, cs, aw, cw, ab, cb, s1, s2, s3, s4⟩, h3, h4⟩ := h
  exact ⟨k.2 _ _ _ _ h1 (by decide) (by decide), ⟨s0, sa, cs, aw, cw, ab, cb, k.2 _ _ _ _ s1 (by decide) (by decide), own_kp s2 k (by decide) (by decide), own_kp s3 k (by decide) (by decide), own_kp s4 k (by decide) (by decide)⟩, own_kp h3 k (by decide) (by decide), own_kp h4 k (by decide) (by decide)⟩
end

theorem kG5 {V W W' : World} {a b c d f : Addr} {x y z u v : Value} (k : Grew W W') (h : Grew V W ∧ W.cell? a = some x ∧ W.cell? b = some y ∧ W.cell? c = some z ∧ W.cell? d = some u ∧ W.cell? f = some v) :
    Grew V W' ∧ W'.cell? a = some x ∧ W'.cell? b = some y ∧ W'.cell? c = some z ∧ W'.cell? d = some u ∧ W'.cell? f = some v :=
  have cell : ∀ (p : Addr) (v : Value), W.cell? p = some v → W'.cell? p = some v := fun p v h => kcG (k.by' none) h (fun e => by cases e)
  ⟨h.1.trans k, cell _ _ h.2.1, cell _ _ h.2.2.1, cell _ _ h.2.2.2.1, cell _ _ h.2.2.2.2.1, cell _ _ h.2.2.2.2.2⟩
theorem forward_nil (a : Option Addr) (n c : Nat) (f : Value) (w : World) : Calls Try.prog 30 #[.pointer none, .slice a n c, f] w fun e w' => e = .returned (.bool false) ∧ w = w' := by
  go_enter Try.func30, Try.ntmps30
  go_wp2
  go_ret
  exact ⟨rfl, rfl⟩
theorem forward_no {D b : Nat} {zs ps : List Int} {q : Int} (a : Option Addr) (n c : Nat) (f : Value) (w : World) (hP : NetP zs ps q) (hN : NetM D w b zs ps q) (hn : n ≠ sz zs 0) :
    Calls Try.prog 30 #[.pointer (some ⟨b, 0, none⟩), .slice a n c, f] w fun e w' => e = .returned (.bool false) ∧ w = w' := by
  obtain ⟨sb, P, la, lc, h1, h2, h3, h4⟩ := hN.x
  have hl := lnk_in hP.right
  obtain ⟨lg, rfl, _, hgl, hlc, _, k0, k1, k2, k3⟩ := link_at h4 rfl (k := 0) (by omega)
  have c2 := h1.c2
  have hne : ((n : Int) != (sz zs 0 : Int)) = true := bne_iff_ne.2 (by omega)
  clear h1 h2 h3 h4 hP hN hn k0 k2 k3
  generalize sz zs 0 = m at *
  generalize lnk zs = l at *
  go_enter Try.func30, Try.ntmps30
  go_wp2
  go_ret
  exact ⟨rfl, rfl⟩

set_option maxRecDepth 100000 in
set_option maxHeartbeats 4000000 in
theorem forward_yes {gs : Nat} {caps : Array Value} (heg : ∀ args w, (callFunc gs args).run Try.prog w = .ok (.enter gs args) w) {D b n c : Nat} {a : Option Addr} {zs ps xs : List Int} {q : Int} (J : Nat → World → Prop) (w : World)
    (hP : NetP zs ps q) (hN : NetM D w b zs ps q) (hx : xs.length = n) (hn : n = sz zs 0) (hxr : Rd w.heap.size w a xs) (hxf : Fit xs)
    (hJ : ∀ k W W', J k W → Grew W W' → J k W')
    (hsee : ∀ k W g c, k ≤ lnk zs → J k W → Buf 0 W (some ⟨g, 0, none⟩) (sz zs k) c (trV zs ps q xs k) → Calls Try.prog gs (#[.slice (some ⟨g, 0, none⟩) (sz zs k) c] ++ caps) W fun e W' => (∃ v, e = .returned v) ∧ J (k + 1) W' ∧ KpV W W')
    (h0 : J 0 w) :
    Calls Try.prog 30 #[.pointer (some ⟨b, 0, none⟩), .slice a n c, .func (.func gs) #[] caps] w fun e w' => e = .returned (.bool true) ∧ J (lnk zs + 1) w' := by
  subst hn
  obtain ⟨sb, P, la, lc, hX⟩ := hN.x
  have hl := lnk_in hP.right
  obtain ⟨lg, rfl, _, hgl, hlc, hlm, k0, k1, k2, k3⟩ := link_at hX.2.2.2 rfl (k := 0) (by omega)
  have c2 := hX.1.c2
  have HX0 := Lib.hid hX
  have HP := Lib.hid hP
  have HJ := Lib.hid hJ
  have HSee := Lib.hid hsee
  have HJ0 := Lib.hid h0
  have hs0 := sz_in hP.right.2.2.1 (k := 0) (by omega)
  have hne : ((sz zs 0 : Int) != (sz zs 0 : Int)) = false := bne_self_eq_false _
  have hcl := vclone_any a c xs w (by rw [hx]; omega) hxr
  rw [hx] at hcl
  have HCL := Lib.hid hcl
  have HXL := Lib.hid hx
  have HXF := Lib.hid hxf
  obtain ⟨m, hm⟩ : ∃ m, lnk zs = m := ⟨_, rfl⟩
  have HM := Lib.hid hm
  rw [hm] at c2 hlc ⊢
  have hm1 : 1 ≤ m := by omega
  have hm15 : m ≤ 15 := by omega
  clear hX hP hJ hsee h0 hx hxr hxf hcl hl hN hm k0 k2 k3
  go_enter Try.func30, Try.ntmps30
  go_wp2_with fail
  refine HCL.out.mono ?_
  rintro e w1 ⟨rfl, hb, g1⟩
  have HX1 := Lib.hid (HX0.out.grow g1)
  have HS := Lib.hid (HSee.out 0 w1 _ _ (Nat.zero_le _) (HJ.out 0 _ _ HJ0.out g1) (hb.mono (Nat.zero_le _)))
  have HB1 : Hid (Buf 0 w1 (some ⟨w.heap.size, 0, none⟩) (sz zs 0) (sz zs 0) (trV zs ps q xs 0)) := Lib.hid (hb.mono (Nat.zero_le _))
  have hbl : w.heap.size < w1.heap.size := by
    obtain ⟨g, e, _, hlt, _⟩ := hb.at (k := 0) (by omega)
    obtain rfl : w.heap.size = g := by injection e with e; injection e
    exact hlt
  generalize w.heap.size = L at *
  clear hb g1 c2 k1 HX0 HJ0
  go_wp2_with fail
  refine HS.out.mono ?_
  rintro e w2 ⟨⟨v, rfl⟩, hj2, hk2⟩
  have HX2 := Lib.hid (HX1.out.kp hk2)
  have HB2 : Hid (Buf 0 w2 (some ⟨L, 0, none⟩) (sz zs 0) (sz zs 0) (trV zs ps q xs 0)) := Lib.hid (own_kp HB1.out hk2 (by decide) (by decide))
  have HJ2 := Lib.hid hj2
  have c2 := HX2.out.1.c2
  rw [HM.out] at c2
  clear hj2 hk2 HS HX1 HB1
  go_wp2
  rename World => W2
  go_loopw [7, 35] (fun v x wr => ∃ k g c : Nat, k ≤ m ∧ x = .int .i64 k ∧ v = .slice (some ⟨g, 0, none⟩) (sz zs k) c ∧ Hid (NetX D wr b sb P (some ⟨lg, 0, none⟩) lc zs ps q) ∧ Hid (Buf 0 wr (some ⟨g, 0, none⟩) (sz zs k) c (trV zs ps q xs k)) ∧ Hid (J (k + 1) wr)) (fun _ x _ => m - (intOf x).toNat)
  case atStart => exact ⟨0, L, _, by omega, rfl, rfl, HX2, HB2, HJ2⟩
  case round =>
    obtain ⟨k, g, c, hk, rfl, rfl, HX, HB, HJk⟩ := hrel
    clear c2
    by_cases hlt : k < m
    · have hkl : k < lnk zs := by rw [HM.out]; exact hlt
      obtain ⟨lg', e', _, hgl', _, _, k0, k1, k2, k3⟩ := link_at HX.out.2.2.2 rfl hkl
      obtain rfl : lg = lg' := by injection e' with e'; injection e'
      have n3 := HX.out.1.c3
      have hbl' := HX.out.1.lt
      have gV : Grew wr (wr.alloc (.cells #[.int .i64 (sz zs (k + 1)), .int .i64 (sz zs k), .slice (some ⟨P, oW zs k, none⟩) (sz zs (k + 1) * sz zs k : Nat) (nP zs - oW zs k : Nat), .slice (some ⟨P, oB zs k, none⟩) (sz zs (k + 1)) (nP zs - oB zs k : Nat)] 70)) := (Grew.refl _).alloc _
      have HF : Hid (Four (wr.alloc (.cells #[.int .i64 (sz zs (k + 1)), .int .i64 (sz zs k), .slice (some ⟨P, oW zs k, none⟩) (sz zs (k + 1) * sz zs k : Nat) (nP zs - oW zs k : Nat), .slice (some ⟨P, oB zs k, none⟩) (sz zs (k + 1)) (nP zs - oB zs k : Nat)] 70)) wr.heap.size 70 (.int .i64 (sz zs (k + 1))) (.int .i64 (sz zs k)) (.slice (some ⟨P, oW zs k, none⟩) (sz zs (k + 1) * sz zs k : Nat) (nP zs - oW zs k : Nat)) (.slice (some ⟨P, oB zs k, none⟩) (sz zs (k + 1)) (nP zs - oB zs k : Nat))) := Lib.hid (Four.new _ _ _ _ _ _)
      have HXV := Lib.hid (HX.out.grow gV)
      have HBV := Lib.hid (HB.out.grow gV)
      have HJV := Lib.hid (HJ.out (k + 1) _ _ HJk.out gV)
      have HTL := Lib.hid (trV_len (zs := zs) (ps := ps) (q := q) HXL.out k)
      have HTF := Lib.hid (trV_fit (zs := zs) (ps := ps) (q := q) HXF.out k)
      have hs1 := sz_in HP.out.right.2.2.1 (k := k + 1) (by have := (lnk_in HP.out.right).2.2; omega)
      clear e' gV hgl'
      go_wp2_with fail
      generalize wr.alloc (.cells #[.int .i64 (sz zs (k + 1)), .int .i64 (sz zs k), .slice (some ⟨P, oW zs k, none⟩) (sz zs (k + 1) * sz zs k : Nat) (nP zs - oW zs k : Nat), .slice (some ⟨P, oB zs k, none⟩) (sz zs (k + 1)) (nP zs - oB zs k : Nat)] 70) = wv at *
      generalize wr.heap.size = L9 at *
      clear k0 k1 k2 k3 n3
      have f0 := HF.out.c0
      have f1 := HF.out.c1
      have f2 := HF.out.c2
      have f3 := HF.out.c3
      have n3 := HXV.out.1.c3
      have hbv := HXV.out.1.lt
      refine wp_region_held_drew (S := (fun W' => Grew wv W' ∧ W'.cell? ⟨L9, 0, none⟩ = some (.int .i64 (sz zs (k + 1))) ∧ W'.cell? ⟨L9, 1, none⟩ = some (.int .i64 (sz zs k)) ∧ W'.cell? ⟨L9, 2, none⟩ = some (.slice (some ⟨P, oW zs k, none⟩) (sz zs (k + 1) * sz zs k : Nat) (nP zs - oW zs k : Nat)) ∧ W'.cell? ⟨L9, 3, none⟩ = some (.slice (some ⟨P, oB zs k, none⟩) (sz zs (k + 1)) (nP zs - oB zs k : Nat)) ∧ W'.cell? ⟨b, 3, none⟩ = some (.int .i64 q))) (by kernel_rfl) ⟨Grew.drew' (Grew.refl _), f0, f1, f2, f3, n3⟩ (fun hHeld => ?_)
      refine wpAnyH_take (i := 0) (oi := { dst := some 40, op := Go.Op.load 70 (Go.Operand.tmp 9), type := 70, pos := _, after := #[], guard := none }) (v := ?v1) rfl (by kernel_rfl) (by kernel_rfl) (by kernel_rfl) (fun _ _ _ h => h) (Or.inl ⟨by kernel_rfl, ?hy1⟩) (by assumption) ?_
      case hy1 => intro w hSw; (try dsimp only at hSw); first | (go_simp; done) | (go_simp; with_reducible rfl)
      (try simp only [Act.put, List.setIfInBounds_toArray, List.set_cons_zero, List.set_cons_succ])
      refine wpAnyH_take (i := 1) (oi := { dst := some 41, op := Go.Op.move (Go.Operand.tmp 7), type := 32, pos := _, after := #[], guard := none }) (v := ?v2) rfl (by kernel_rfl) (by kernel_rfl) (by kernel_rfl) (fun _ _ _ h => h) (Or.inl ⟨by kernel_rfl, ?hy2⟩) (by assumption) ?_
      case hy2 => intro w hSw; (try dsimp only at hSw); first | (go_simp; done) | (go_simp; with_reducible rfl)
      (try simp only [Act.put, List.setIfInBounds_toArray, List.set_cons_zero, List.set_cons_succ])
      refine wpAnyH_take (i := 2) (oi := { dst := some 42, op := Go.Op.move (Go.Operand.tmp 0), type := 29, pos := _, after := #[], guard := none }) (v := ?v3) rfl (by kernel_rfl) (by kernel_rfl) (by kernel_rfl) (fun _ _ _ h => h) (Or.inl ⟨by kernel_rfl, ?hy3⟩) (by assumption) ?_
      case hy3 => intro w hSw; (try dsimp only at hSw); first | (go_simp; done) | (go_simp; with_reducible rfl)
      (try simp only [Act.put, List.setIfInBounds_toArray, List.set_cons_zero, List.set_cons_succ])
      refine wpAnyH_take (i := 3) (oi := { dst := some 43, op := Go.Op.nilCheck (Go.Operand.tmp 42), type := 0, pos := _, after := #[{ on := 2, ground := Go.Ground.data }], guard := none }) (v := ?v4) rfl (by kernel_rfl) (by kernel_rfl) (by kernel_rfl) (fun _ _ _ h => h) (Or.inl ⟨by kernel_rfl, ?hy4⟩) (by assumption) ?_
      case hy4 => intro w hSw; (try dsimp only at hSw); first | (go_simp; done) | (go_simp; with_reducible rfl)
      (try simp only [Act.put, List.setIfInBounds_toArray, List.set_cons_zero, List.set_cons_succ])
      refine wpAnyH_take (i := 4) (oi := { dst := some 44, op := Go.Op.fieldAddr 58 (Go.Operand.tmp 43) 3, type := 0, pos := _, after := #[{ on := 3, ground := Go.Ground.data }], guard := none }) (v := ?v5) rfl (by kernel_rfl) (by kernel_rfl) (by kernel_rfl) (fun _ _ _ h => h) (Or.inl ⟨by kernel_rfl, ?hy5⟩) (by assumption) ?_
      case hy5 => intro w hSw; (try dsimp only at hSw); first | (go_simp; done) | (go_simp; with_reducible rfl)
      (try simp only [Act.put, List.setIfInBounds_toArray, List.set_cons_zero, List.set_cons_succ])
      refine wpAnyH_take (i := 5) (oi := { dst := some 45, op := Go.Op.load 3 (Go.Operand.tmp 44), type := 3, pos := _, after := #[{ on := 4, ground := Go.Ground.data }], guard := none }) (v := ?v6) rfl (by kernel_rfl) (by kernel_rfl) (by kernel_rfl) (fun _ _ _ h => h) (Or.inl ⟨by kernel_rfl, ?hy6⟩) (by assumption) ?_
      case hy6 => intro w hSw; (try dsimp only at hSw); first | (go_simp; done) | (go_simp; with_reducible rfl)
      (try simp only [Act.put, List.setIfInBounds_toArray, List.set_cons_zero, List.set_cons_succ])
      refine wpAnyH_ready (rs := [6]) (by kernel_rfl) (by simp) ?_
      refine AllReadyH.cons (o := { dst := some 46, op := Go.Op.call { callee := Go.Callee.value (Go.Operand.func 50), args := #[Go.Operand.tmp 40, Go.Operand.tmp 41, Go.Operand.tmp 45], argTypes := #[70, 32, 3] }, type := 32, pos := _, after := #[{ on := 0, ground := Go.Ground.data }, { on := 1, ground := Go.Ground.data }, { on := 5, ground := Go.Ground.data }], guard := none }) rfl (fun K hK => ?_) AllReadyH.nil
      go_simp
      (go_at_call 50; refine (sums_any HP.out.right hkl HP.out.len HP.out.fit (HXV.out.2.2.1.rd.grow (Grew.drew' (Grew.refl wv))) HTL.out (HBV.out.rd.grow (Grew.drew' (Grew.refl wv))) HTF.out).mono ?_; rintro e w5 ⟨⟨g5, c5, rfl, hb5⟩, g5'⟩; have HG5 := Lib.hid ((Grew.drew' (Grew.refl wv)).trans g5'); have HX5 := Lib.hid (HXV.out.grow HG5.out); have HB5 := Lib.hid hb5; have HLE : Hid (wv.heap.size ≤ g5) := Lib.hid (by obtain ⟨gx, ex, hle, _⟩ := hb5.at (k := 0) (by omega); obtain rfl : g5 = gx := (by injection ex with ex; injection ex); exact hle); clear hb5)
      (try go_wp2_with fail)
      refine hK.out _ _ ?hS8 (fun hHeld => ?_)
      case hS8 => (try dsimp only); exact kG5 g5' (by assumption)
      clear hK K
      (try simp only [Act.put, List.setIfInBounds_toArray, List.set_cons_zero, List.set_cons_succ])
      refine wpAnyH_take (i := 7) (oi := { dst := some 7, op := Go.Op.assign (Go.Operand.tmp 46), type := 32, pos := _, after := #[{ on := 6, ground := Go.Ground.data }, { on := 6, ground := Go.Ground.chain }, { on := 0, ground := Go.Ground.phase }, { on := 1, ground := Go.Ground.phase }, { on := 2, ground := Go.Ground.phase }, { on := 3, ground := Go.Ground.phase }, { on := 4, ground := Go.Ground.phase }, { on := 5, ground := Go.Ground.phase }, { on := 6, ground := Go.Ground.phase }], guard := none }) (v := ?v9) rfl (by kernel_rfl) (by kernel_rfl) (by kernel_rfl) (fun _ _ _ h => h) (Or.inl ⟨by kernel_rfl, ?hy9⟩) (by assumption) ?_
      case hy9 => intro w hSw; (try dsimp only at hSw); first | (go_simp; done) | (go_simp; with_reducible rfl)
      (try simp only [Act.put, List.setIfInBounds_toArray, List.set_cons_zero, List.set_cons_succ])
      refine wpAnyH_done (by kernel_rfl) ?_ _
      have c2 := HX5.out.1.c2
      have hb5l := HX5.out.1.lt
      rw [HM.out] at c2
      clear f0 f1 f2 f3 n3 hHeld
      by_cases hin : k + 1 < m
      · have HAct := Lib.hid (act_yes (zs := zs) (ps := ps) (q := q) (x := xs) (k := k) (by rw [HM.out]; exact hin))
        go_wp2_with fail
        refine (rectify_any _ hs1.2 HB5.out).mono ?_
        rintro e w6 ⟨⟨v6, rfl⟩, hb6, g6⟩
        rw [HAct.out] at hb6
        have gr6 : Grew wv w6 := Grew.trans_below HG5.out (grownBy_below g6 HLE.out (by have := HG5.out.size; omega)) (Nat.le_refl _)
        have HX6 := Lib.hid (HXV.out.grow gr6)
        have HB6 : Hid (Buf 0 w6 (some ⟨g5, 0, none⟩) (sz zs (k + 1)) c5 (trV zs ps q xs (k + 1))) := Lib.hid (hb6.mono (Nat.zero_le _))
        have HS6 := Lib.hid (HSee.out (k + 1) w6 g5 c5 (by omega) (HJ.out (k + 1) _ _ HJV.out gr6) HB6.out)
        clear hb6 g6 gr6 c2
        go_wp2_with fail
        refine HS6.out.mono ?_
        rintro e w7 ⟨⟨v7, rfl⟩, hj7, hk7⟩
        have HX7 := Lib.hid (HX6.out.kp hk7)
        have HB7 : Hid (Buf 0 w7 (some ⟨g5, 0, none⟩) (sz zs (k + 1)) c5 (trV zs ps q xs (k + 1))) := Lib.hid (own_kp HB6.out hk7 (by decide) (by decide))
        have HJ7 := Lib.hid hj7
        clear hj7 hk7 HS6
        go_wp2
        go_roundw
        case rel => exact ⟨k + 1, g5, c5, by omega, by go_num, rfl, HX7, HB7, HJ7⟩
        case measure => simp [intOf]; omega
      · have HAct := Lib.hid (act_no (zs := zs) (ps := ps) (q := q) (x := xs) (k := k) (by rw [HM.out]; exact hin))
        have HB6 : Hid (Buf 0 w5 (some ⟨g5, 0, none⟩) (sz zs (k + 1)) c5 (trV zs ps q xs (k + 1))) := Lib.hid (by rw [← HAct.out]; exact HB5.out.mono (Nat.zero_le _))
        have HS6 := Lib.hid (HSee.out (k + 1) w5 g5 c5 (by omega) (HJ.out (k + 1) _ _ HJV.out HG5.out) HB6.out)
        go_wp2_with fail
        refine HS6.out.mono ?_
        rintro e w7 ⟨⟨v7, rfl⟩, hj7, hk7⟩
        have HX7 := Lib.hid (HX5.out.kp hk7)
        have HB7 : Hid (Buf 0 w7 (some ⟨g5, 0, none⟩) (sz zs (k + 1)) c5 (trV zs ps q xs (k + 1))) := Lib.hid (own_kp HB6.out hk7 (by decide) (by decide))
        have HJ7 := Lib.hid hj7
        clear hj7 hk7 HS6 c2
        go_wp2
        go_roundw
        case rel => exact ⟨k + 1, g5, c5, by omega, by go_num, rfl, HX7, HB7, HJ7⟩
        case measure => simp [intOf]; omega
    · obtain rfl : k = m := by omega
      go_wp2
      go_ret
      exact ⟨rfl, HJk.out⟩
end Go.Proofs.Ytciocdjpgknihaa
