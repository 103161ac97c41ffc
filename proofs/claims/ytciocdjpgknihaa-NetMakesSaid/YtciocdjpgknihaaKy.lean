/- The reference of layer 9, second part: sum and Trace. Conditions: the network is right; the inputs can be read, within the bounds of int64.
   The reference of layer 9, third part: Trace. Conditions: the network is right; the inputs can be read, within the bounds of int64.
   The reference of layer 9, fourth part: errors. Conditions: the network is right; the values and the wanted outputs can be read, within the bounds of int64.
   The reference of layer 9, fifth part: Loss. Conditions: the network is right; the example fits and can be read, within the bounds of int64.
   The reference of layer 9, sixth part: Gradient. Conditions: the network is right; the example fits and can be read, within the bounds of int64.
   The statements' own New and alive; a network of the reference that came in. Condition: sizes and parameters can be read, within the bounds of int64. -/
import Derived.Test.YtciocdjpgknihaaKx
import Derived.Test.YtciocdjpgknihaaHn
namespace Go.Proofs.Ytciocdjpgknihaa
open Go.RowKit Go.Shelf

theorem wrapEq9 (x : Int) : IntKind.i64.wrap x = wrap64 x := by rw [IntKind.wrap_i64]; unfold wrap64; omega
section
variable {sa pa : Option Addr} {sc pc : Nat} {zs ps : List Int} {q : Int} {w : World}

set_option linter.unusedSimpArgs false in
set_option maxRecDepth 100000 in
set_option maxHeartbeats 4000000 in
theorem sum9_any {k r vc : Nat} {v : Option Addr} {vs : List Int} (hP : NetP zs ps q) (h : RN w sa sc pa pc zs ps) (hk : k < lnk zs) (hr : r < sz zs (k + 1)) (hv : vs.length = sz zs k) (hvr : Rd w.heap.size w v vs) (hvf : Fit vs) :
    Calls Try.prog 34 #[.agg #[.slice sa zs.length sc, .slice pa ps.length pc, .int .i64 q], .int .i64 k, .int .i64 r, .slice v (sz zs k) vc] w fun e w' => e = .returned (.int .i64 (zV zs ps q k vs r)) ∧ Grew w w' := by
  have gA : Grew w (w.alloc (.cells #[.slice sa zs.length sc, .slice pa ps.length pc, .int .i64 q] 25)) := (Grew.refl w).alloc _
  have HT := Lib.hid (Three.new w 25 (.slice sa zs.length sc) (.slice pa ps.length pc) (.int .i64 q))
  have HR := Lib.hid (h.grow gA)
  have HG := Lib.hid gA
  have HVR := Lib.hid (hvr.grow gA)
  have HVL := Lib.hid hv
  have HVF := Lib.hid hvf
  have HP := Lib.hid hP
  have HFP := Lib.hid hP.fit
  have hz1 : 1 ≤ zs.length := by have := (lnk_in hP.right).2.2; omega
  have hz16 := hP.right.2.1
  have hs0 := sz_in hP.right.2.2.1 (k := k) (by have := (lnk_in hP.right).2.2; omega)
  have b0 := HT.out.c0
  have b1 := HT.out.c1
  have b2 := HT.out.c2
  have hlt := HT.out.lt
  clear h gA hP hv hvr hvf
  obtain ⟨n, hn⟩ : ∃ n, sz zs k = n := ⟨_, rfl⟩
  have HN := Lib.hid hn
  rw [hn] at HVL hs0 ⊢
  clear hn
  go_enter Try.func34, Try.ntmps34
  go_wp2_with fail
  generalize w.alloc (.cells #[.slice sa zs.length sc, .slice pa ps.length pc, .int .i64 q] 25) = wv at *
  generalize w.heap.size = L at *
  refine (bias9_any HP.out HR.out hk hr).mono ?_
  rintro e w1 ⟨rfl, g1⟩
  have HG1 := Lib.hid g1
  have HZ0 : Hid (zK zs ps q k vs r 0 = el ps (oB zs k + r)) := Lib.hid rfl
  rw [← HZ0.out]
  clear g1 b0 b1 b2
  go_wp2
  go_loopw [9, 10] (fun sv cv wr => ∃ c : Nat, c ≤ n ∧ cv = .int .i64 c ∧ sv = .int .i64 (zK zs ps q k vs r c) ∧ Hid (Grew wv wr)) (fun _ cv _ => n - (intOf cv).toNat)
  case atStart => exact ⟨0, Nat.zero_le _, rfl, rfl, HG1⟩
  case round =>
    obtain ⟨c, hc, rfl, rfl, HGr⟩ := hrel
    by_cases hlc : c < n
    · obtain ⟨vb, vo, rfl, hvb, hvc⟩ := (HVR.out.grow HGr.out).at (k := c) (by rw [HVL.out]; exact hlc)
      have HFV := Lib.hid (HVF.out c (by rw [HVL.out]; exact hlc))
      have HS : Hid (zK zs ps q k vs r (c + 1) = wrap64 (zK zs ps q k vs r c + mulV (el ps (oW zs k + (r * sz zs k + c))) (el vs c) q)) := Lib.hid rfl
      have HWt := Lib.hid (el_in HFP.out (oW zs k + (r * sz zs k + c)))
      have hcs : c < sz zs k := by rw [HN.out]; exact hlc
      have HWC := Lib.hid (fun (W : World) (g : Grew wv W) => weight9_any (q := q) (w := W) HP.out (HR.out.grow g) hk hr hcs)
      have ht := HT.out.grow HGr.out
      have b0 := ht.c0
      have b1 := ht.c1
      have b2 := ht.c2
      have hlt2 := ht.lt
      clear ht hcs
      generalize el ps (oW zs k + (r * sz zs k + c)) = x at *
      generalize el vs c = y at *
      generalize zK zs ps q k vs r c = Z at *
      go_wp2
      refine wp_region_held_drew (S := (fun W' => Grew wr W' ∧ W'.cell? ⟨L, 0, none⟩ = some (.slice sa zs.length sc) ∧ W'.cell? ⟨L, 1, none⟩ = some (.slice pa ps.length pc) ∧ W'.cell? ⟨L, 2, none⟩ = some (.int .i64 q) ∧ W'.cell? ⟨vb, vo + c, none⟩ = some (.int .i64 y))) (by kernel_rfl) ⟨Grew.drew' (Grew.refl _), b0, b1, b2, hvc⟩ (fun hHeld => ?_)
      refine wpAnyH_take (i := 0) (oi := { dst := some 21, op := Go.Op.move (Go.Operand.tmp 9), type := 2, pos := _, after := #[], guard := none }) (v := ?v1) rfl (by kernel_rfl) (by kernel_rfl) (by kernel_rfl) (fun _ _ _ h => h) (Or.inl ⟨by kernel_rfl, ?hy1⟩) (by assumption) ?_
      case hy1 => intro w hSw; (try dsimp only at hSw); first | (go_simp; done) | (go_simp; with_reducible rfl)
      (try simp only [Act.put, List.setIfInBounds_toArray, List.set_cons_zero, List.set_cons_succ])
      refine wpAnyH_take (i := 1) (oi := { dst := some 22, op := Go.Op.load 25 (Go.Operand.tmp 4), type := 25, pos := _, after := #[], guard := none }) (v := ?v2) rfl (by kernel_rfl) (by kernel_rfl) (by kernel_rfl) (fun _ _ _ h => h) (Or.inl ⟨by kernel_rfl, ?hy2⟩) (by assumption) ?_
      case hy2 => intro w hSw; (try dsimp only at hSw); first | (go_simp; done) | (go_simp; with_reducible rfl)
      (try simp only [Act.put, List.setIfInBounds_toArray, List.set_cons_zero, List.set_cons_succ])
      refine wpAnyH_take (i := 2) (oi := { dst := some 23, op := Go.Op.move (Go.Operand.tmp 1), type := 3, pos := _, after := #[], guard := none }) (v := ?v3) rfl (by kernel_rfl) (by kernel_rfl) (by kernel_rfl) (fun _ _ _ h => h) (Or.inl ⟨by kernel_rfl, ?hy3⟩) (by assumption) ?_
      case hy3 => intro w hSw; (try dsimp only at hSw); first | (go_simp; done) | (go_simp; with_reducible rfl)
      (try simp only [Act.put, List.setIfInBounds_toArray, List.set_cons_zero, List.set_cons_succ])
      refine wpAnyH_take (i := 3) (oi := { dst := some 24, op := Go.Op.move (Go.Operand.tmp 2), type := 3, pos := _, after := #[], guard := none }) (v := ?v4) rfl (by kernel_rfl) (by kernel_rfl) (by kernel_rfl) (fun _ _ _ h => h) (Or.inl ⟨by kernel_rfl, ?hy4⟩) (by assumption) ?_
      case hy4 => intro w hSw; (try dsimp only at hSw); first | (go_simp; done) | (go_simp; with_reducible rfl)
      (try simp only [Act.put, List.setIfInBounds_toArray, List.set_cons_zero, List.set_cons_succ])
      refine wpAnyH_take (i := 4) (oi := { dst := some 25, op := Go.Op.move (Go.Operand.tmp 10), type := 3, pos := _, after := #[], guard := none }) (v := ?v5) rfl (by kernel_rfl) (by kernel_rfl) (by kernel_rfl) (fun _ _ _ h => h) (Or.inl ⟨by kernel_rfl, ?hy5⟩) (by assumption) ?_
      case hy5 => intro w hSw; (try dsimp only at hSw); first | (go_simp; done) | (go_simp; with_reducible rfl)
      (try simp only [Act.put, List.setIfInBounds_toArray, List.set_cons_zero, List.set_cons_succ])
      refine wpAnyH_take (i := 6) (oi := { dst := some 27, op := Go.Op.move (Go.Operand.tmp 3), type := 23, pos := _, after := #[], guard := none }) (v := ?v6) rfl (by kernel_rfl) (by kernel_rfl) (by kernel_rfl) (fun _ _ _ h => h) (Or.inl ⟨by kernel_rfl, ?hy6⟩) (by assumption) ?_
      case hy6 => intro w hSw; (try dsimp only at hSw); first | (go_simp; done) | (go_simp; with_reducible rfl)
      (try simp only [Act.put, List.setIfInBounds_toArray, List.set_cons_zero, List.set_cons_succ])
      refine wpAnyH_take (i := 7) (oi := { dst := some 28, op := Go.Op.move (Go.Operand.tmp 10), type := 3, pos := _, after := #[], guard := none }) (v := ?v7) rfl (by kernel_rfl) (by kernel_rfl) (by kernel_rfl) (fun _ _ _ h => h) (Or.inl ⟨by kernel_rfl, ?hy7⟩) (by assumption) ?_
      case hy7 => intro w hSw; (try dsimp only at hSw); first | (go_simp; done) | (go_simp; with_reducible rfl)
      (try simp only [Act.put, List.setIfInBounds_toArray, List.set_cons_zero, List.set_cons_succ])
      refine wpAnyH_take (i := 8) (oi := { dst := some 29, op := Go.Op.indexAddr 23 (Go.Operand.tmp 27) (Go.Operand.tmp 28), type := 0, pos := _, after := #[{ on := 6, ground := Go.Ground.data }, { on := 7, ground := Go.Ground.data }], guard := none }) (v := ?v8) rfl (by kernel_rfl) (by kernel_rfl) (by kernel_rfl) (fun _ _ _ h => h) (Or.inl ⟨by kernel_rfl, ?hy8⟩) (by assumption) ?_
      case hy8 => intro w hSw; (try dsimp only at hSw); first | (go_simp; done) | (go_simp; with_reducible rfl)
      (try simp only [Act.put, List.setIfInBounds_toArray, List.set_cons_zero, List.set_cons_succ])
      refine wpAnyH_take (i := 9) (oi := { dst := some 30, op := Go.Op.load 2 (Go.Operand.tmp 29), type := 2, pos := _, after := #[{ on := 8, ground := Go.Ground.data }], guard := none }) (v := ?v9) rfl (by kernel_rfl) (by kernel_rfl) (by kernel_rfl) (fun _ _ _ h => h) (Or.inl ⟨by kernel_rfl, ?hy9⟩) (by assumption) ?_
      case hy9 => intro w hSw; (try dsimp only at hSw); first | (go_simp; done) | (go_simp; with_reducible rfl)
      (try simp only [Act.put, List.setIfInBounds_toArray, List.set_cons_zero, List.set_cons_succ])
      refine wpAnyH_take (i := 10) (oi := { dst := some 31, op := Go.Op.fieldAddr 25 (Go.Operand.tmp 4) 2, type := 0, pos := _, after := #[], guard := none }) (v := ?v10) rfl (by kernel_rfl) (by kernel_rfl) (by kernel_rfl) (fun _ _ _ h => h) (Or.inl ⟨by kernel_rfl, ?hy10⟩) (by assumption) ?_
      case hy10 => intro w hSw; (try dsimp only at hSw); first | (go_simp; done) | (go_simp; with_reducible rfl)
      (try simp only [Act.put, List.setIfInBounds_toArray, List.set_cons_zero, List.set_cons_succ])
      refine wpAnyH_take (i := 11) (oi := { dst := some 32, op := Go.Op.load 3 (Go.Operand.tmp 31), type := 3, pos := _, after := #[{ on := 10, ground := Go.Ground.data }], guard := none }) (v := ?v11) rfl (by kernel_rfl) (by kernel_rfl) (by kernel_rfl) (fun _ _ _ h => h) (Or.inl ⟨by kernel_rfl, ?hy11⟩) (by assumption) ?_
      case hy11 => intro w hSw; (try dsimp only at hSw); first | (go_simp; done) | (go_simp; with_reducible rfl)
      (try simp only [Act.put, List.setIfInBounds_toArray, List.set_cons_zero, List.set_cons_succ])
      refine wpAnyH_ready (rs := [5]) (by kernel_rfl) (by simp) ?_
      refine AllReadyH.cons (o := { dst := some 26, op := Go.Op.call { callee := Go.Callee.value (Go.Operand.func 53), args := #[Go.Operand.tmp 22, Go.Operand.tmp 23, Go.Operand.tmp 24, Go.Operand.tmp 25], argTypes := #[25, 3, 3, 3] }, type := 2, pos := _, after := #[{ on := 1, ground := Go.Ground.data }, { on := 2, ground := Go.Ground.data }, { on := 3, ground := Go.Ground.data }, { on := 4, ground := Go.Ground.data }], guard := none }) rfl (fun K hK => ?_) AllReadyH.nil
      go_simp
      (go_at_call 53; refine (HWC.out _ (HGr.out.trans (Grew.drew' (Grew.refl wr)))).mono ?_; rintro e w5 ⟨rfl, g5⟩; have HG5 := Lib.hid ((HGr.out.trans (Grew.drew' (Grew.refl wr))).trans g5))
      (try go_wp2_with fail)
      refine hK.out _ _ ?hS13 (fun hHeld => ?_)
      case hS13 => (try dsimp only); (obtain ⟨s0, s1, s2, s3, s4⟩ := hHeld; exact ⟨s0.trans g5, kcG (g5.by' none) s1 (fun e => by cases e), kcG (g5.by' none) s2 (fun e => by cases e), kcG (g5.by' none) s3 (fun e => by cases e), kcG (g5.by' none) s4 (fun e => by cases e)⟩)
      clear hK K
      (try simp only [Act.put, List.setIfInBounds_toArray, List.set_cons_zero, List.set_cons_succ])
      refine wpAnyH_ready (rs := [12]) (by kernel_rfl) (by simp) ?_
      refine AllReadyH.cons (o := { dst := some 33, op := Go.Op.call { callee := Go.Callee.value (Go.Operand.func 41), args := #[Go.Operand.tmp 26, Go.Operand.tmp 30, Go.Operand.tmp 32], argTypes := #[2, 2, 3] }, type := 2, pos := _, after := #[{ on := 5, ground := Go.Ground.data }, { on := 9, ground := Go.Ground.data }, { on := 11, ground := Go.Ground.data }, { on := 5, ground := Go.Ground.chain }], guard := none }) rfl (fun K hK => ?_) AllReadyH.nil
      go_simp
      (go_at_call 41; refine (rmul_any x y q _ HWt.out.1 HWt.out.2 HFV.out.1 HFV.out.2).mono ?_; rintro e w6 ⟨rfl, rfl⟩; generalize mulV x y q = M at *)
      (try go_wp2_with fail)
      refine hK.out _ _ ?hS15 (fun hHeld => ?_)
      case hS15 => (try dsimp only); exact hHeld
      clear hK K
      (try simp only [Act.put, List.setIfInBounds_toArray, List.set_cons_zero, List.set_cons_succ])
      refine wpAnyH_take (i := 13) (oi := { dst := some 34, op := Go.Op.binOp Go.BinOp.add 2 (Go.Operand.tmp 21) (Go.Operand.tmp 33) 2, type := 2, pos := _, after := #[{ on := 0, ground := Go.Ground.data }, { on := 12, ground := Go.Ground.data }], guard := none }) (v := ?v16) rfl (by kernel_rfl) (by kernel_rfl) (by kernel_rfl) (fun _ _ _ h => h) (Or.inl ⟨by kernel_rfl, ?hy16⟩) (by assumption) ?_
      case hy16 => intro w hSw; (try dsimp only at hSw); first | (go_simp; done) | (go_simp; with_reducible rfl)
      (try simp only [Act.put, List.setIfInBounds_toArray, List.set_cons_zero, List.set_cons_succ])
      refine wpAnyH_take (i := 14) (oi := { dst := some 9, op := Go.Op.assign (Go.Operand.tmp 34), type := 2, pos := _, after := #[{ on := 13, ground := Go.Ground.data }, { on := 12, ground := Go.Ground.chain }, { on := 0, ground := Go.Ground.phase }, { on := 1, ground := Go.Ground.phase }, { on := 2, ground := Go.Ground.phase }, { on := 3, ground := Go.Ground.phase }, { on := 4, ground := Go.Ground.phase }, { on := 5, ground := Go.Ground.phase }, { on := 6, ground := Go.Ground.phase }, { on := 7, ground := Go.Ground.phase }, { on := 8, ground := Go.Ground.phase }, { on := 9, ground := Go.Ground.phase }, { on := 10, ground := Go.Ground.phase }, { on := 11, ground := Go.Ground.phase }, { on := 12, ground := Go.Ground.phase }, { on := 13, ground := Go.Ground.phase }], guard := none }) (v := ?v17) rfl (by kernel_rfl) (by kernel_rfl) (by kernel_rfl) (fun _ _ _ h => h) (Or.inl ⟨by kernel_rfl, ?hy17⟩) (by assumption) ?_
      case hy17 => intro w hSw; (try dsimp only at hSw); first | (go_simp; done) | (go_simp; with_reducible rfl)
      (try simp only [Act.put, List.setIfInBounds_toArray, List.set_cons_zero, List.set_cons_succ])
      refine wpAnyH_done (by kernel_rfl) ?_ _
      clear hHeld b0 b1 b2 hvc
      go_wp2
      go_roundw
      case rel => exact ⟨c + 1, by omega, by go_num, by rw [HS.out, wrapEq9], HG5⟩
      case measure => simp [intOf]; omega
    · obtain rfl : c = n := by omega
      have HE : Hid (zK zs ps q k vs r c = zV zs ps q k vs r) := Lib.hid (by have := zK_all (zs := zs) HFP.out q k vs r; rw [HN.out] at this; exact this)
      have HGE := Lib.hid (HG.out.trans HGr.out)
      go_wp2
      go_ret
      exact ⟨by rw [← HE.out]; rfl, HGE.out⟩
end
end Go.Proofs.Ytciocdjpgknihaa

namespace Go.Proofs.Ytciocdjpgknihaa
open Go.RowKit Go.Shelf

theorem info_row9 : (Try.prog.info? 23).map (fun i => (i.zero, i.size, i.bytes)) = some (some (.slice none 0 0), 1, 24) := by kernel_rfl
/-- A list of one slice in a new block. -/
theorem Pile.one (w : World) {B : Nat} (u : Vec) (hB : B ≤ w.heap.size) (hu : Body B w u) : Pile 23 B (w.alloc (.cells #[slV u] 23)) (.slice (some ⟨w.heap.size, 0, none⟩) 1 1) [u] := by
  refine ⟨by simp; omega, ⟨rfl, .inr ⟨w.heap.size, 1, #[slV u], rfl, hB, (MapKept.heap_alloc w _).1, Nat.le_refl _, by unfold maxLen; omega, rfl, rfl⟩⟩, fun j hj => ?_⟩
  obtain rfl : j = 0 := by simp at hj; omega
  exact hu.kept (((Grew.refl w).alloc _).by' none) (fun g e => by cases e) hB
/-- The values of the first layers. -/
def ValA (vs : List Vec) (zs ps xs : List Int) (q : Int) (k : Nat) : Prop := vs.length = k + 1 ∧ ∀ j, j ≤ k → (va vs j).zs = trV zs ps q xs j
theorem ValA.next {vs : List Vec} {zs ps xs : List Int} {q : Int} {k : Nat} {u : Vec} (h : ValA vs zs ps xs q k) (hu : u.zs = trV zs ps q xs (k + 1)) : ValA (vs ++ [u]) zs ps xs q (k + 1) := by
  refine ⟨by simp [h.1], fun j hj => ?_⟩
  by_cases e : j < vs.length
  · rw [va_left e]
    exact h.2 j (by have := h.1; omega)
  · obtain rfl : j = vs.length := by have := h.1; omega
    rw [va_here, hu, h.1]
theorem tr_part {zs ps xs : List Int} {q : Int} {k r : Nat} : (List.range (r + 1)).map (valV zs ps q k (trV zs ps q xs k)) = (List.range r).map (valV zs ps q k (trV zs ps q xs k)) ++ [valV zs ps q k (trV zs ps q xs k) r] := by
  rw [List.range_succ, List.map_append]
  rfl

section
variable {sa pa : Option Addr} {sc pc : Nat} {zs ps : List Int} {q : Int} {w : World}

set_option linter.unusedSimpArgs false in
set_option maxRecDepth 100000 in
set_option maxHeartbeats 8000000 in
theorem trace9_any {xc : Nat} {x : Option Addr} {xs : List Int} (hP : NetP zs ps q) (h : RN w sa sc pa pc zs ps) (hx : xs.length = sz zs 0) (hxc : sz zs 0 ≤ xc) (hxm : xc ≤ 9223372036854775807) (hxr : Rd w.heap.size w x xs) (hxf : Fit xs) :
    Calls Try.prog 18 #[.agg #[.slice sa zs.length sc, .slice pa ps.length pc, .int .i64 q], .slice x (sz zs 0) xc] w fun e w' => (∃ l cap vs, e = .returned (.slice l (lnk zs + 1 : Nat) cap) ∧ Vals w' l cap vs zs ps xs q) ∧ Grew w w' := by
  obtain ⟨i0, hi, hz0, hz1, hz2⟩ := info_parts info_row9
  obtain ⟨i1, hi1, hy0, hy1, hy2⟩ := info_parts info_int
  have gA : Grew w (w.alloc (.cells #[.slice sa zs.length sc, .slice pa ps.length pc, .int .i64 q] 25)) := (Grew.refl w).alloc _
  have gB : Grew w ((w.alloc (.cells #[.slice sa zs.length sc, .slice pa ps.length pc, .int .i64 q] 25)).alloc (.cells #[.slice x (sz zs 0) xc] 23)) := gA.alloc _
  have HT := Lib.hid ((Three.new w 25 (.slice sa zs.length sc) (.slice pa ps.length pc) (.int .i64 q)).alloc (.cells #[.slice x (sz zs 0) xc] 23))
  have hp1 := Pile.one (w.alloc (.cells #[.slice sa zs.length sc, .slice pa ps.length pc, .int .i64 q] 25)) (B := w.heap.size) ⟨x, xc, xs⟩ gA.size ⟨by show xs.length ≤ xc; omega, hxm, .inl (hxr.below gA)⟩
  unfold slV at hp1
  rw [show (Vec.mk x xc xs).zs.length = sz zs 0 from hx, World.size_alloc] at hp1
  have HP1 := Lib.hid hp1
  have HR := Lib.hid h
  have HG := Lib.hid gB
  have HP := Lib.hid hP
  have HXL := Lib.hid hx
  have HXF := Lib.hid hxf
  have hl := lnk_in hP.right
  have hz16 := hP.right.2.1
  have HZ := Lib.hid hl.2.2
  have hzl : 1 ≤ zs.length := by omega
  have HS : Hid (∀ j, j ≤ lnk zs → 1 ≤ sz zs j ∧ sz zs j ≤ 1048576) := Lib.hid (fun j hj => sz_in hP.right.2.2.1 (by omega))
  have HE : Hid (∀ j, j ≤ lnk zs → el zs j = (sz zs j : Int)) := Lib.hid (fun j hj => (sz_eq hP.right.2.2.1 (by omega)).symm)
  obtain ⟨sb, so, rfl, _, _⟩ := h.sr.at (k := 0) (by omega)
  have hLA : Hid (∀ W, Calls Try.prog 33 #[.agg #[.slice (some ⟨sb, so, none⟩) zs.length sc, .slice pa ps.length pc, .int .i64 q]] W fun e w' => e = .returned (.int .i64 (lnk zs : Nat)) ∧ Grew W w') := Lib.hid (fun W => last9_any (pa := pa) (ps := ps) (pc := pc) (q := q) hzl (by omega) W)
  have HV0 : Hid (ValA [⟨x, xc, xs⟩] zs ps xs q 0) := Lib.hid ⟨rfl, fun j hj => (by cases Nat.le_zero.1 hj; rfl)⟩
  obtain ⟨m, hm⟩ : ∃ m, lnk zs = m := ⟨_, rfl⟩
  have HM := Lib.hid hm
  rw [hm] at hl hLA HS HE HZ ⊢
  have hm1 := hl.1
  have hm15 := hl.2.1
  clear h gA gB hp1 hP hx hxc hxm hxr hxf hl hm
  go_enter Try.func18, Try.ntmps18
  go_wp2
  generalize (w.alloc (.cells #[.slice (some ⟨sb, so, none⟩) zs.length sc, .slice pa ps.length pc, .int .i64 q] 25)).alloc (.cells #[.slice x (sz zs 0) xc] 23) = W0 at *
  go_loopw [5, 6] (fun ov kv wr => ∃ (k : Nat) (vs : List Vec), k ≤ m ∧ kv = .int .i64 k ∧ Hid (Pile 23 w.heap.size wr ov vs) ∧ Hid (ValA vs zs ps xs q k) ∧ Hid (Box9 wr w.heap.size (some ⟨sb, so, none⟩) sc pa pc zs ps q) ∧ Hid (Grew w wr)) (fun _ kv _ => m - (intOf kv).toNat)
  case atStart => exact ⟨0, _, by omega, rfl, HP1, HV0, HT, HG⟩
  case round =>
    clear HP1 HT HG HV0
    obtain ⟨k, vs, hk, rfl, HPl, HVA, HT, HGr⟩ := hrel
    have ht := HT.out
    have b0 := ht.c0
    have b1 := ht.c1
    have b2 := ht.c2
    have hlt := ht.lt
    clear ht
    by_cases hkm : k < m
    · have hkl : k < lnk zs := by rw [HM.out]; exact hkm
      obtain ⟨oa, ocap, rfl, _, _⟩ := HPl.out.slice
      rw [HVA.out.1] at HPl ⊢
      obtain ⟨og, ho, _, hogl, hoc, _, hocap⟩ := HPl.out.at (j := k) (by rw [HVA.out.1]; omega)
      subst ho
      have HUR := Lib.hid ((HPl.out.2.2 k (by rw [HVA.out.1]; omega)).rd HPl.out.1)
      have HTL := Lib.hid (trV_len (zs := zs) (ps := ps) (q := q) HXL.out k)
      have HTF := Lib.hid (trV_fit (zs := zs) (ps := ps) (q := q) HXF.out k)
      unfold slV at hoc
      rw [HVA.out.2 k (Nat.le_refl _)] at hoc HUR
      rw [HTL.out] at hoc
      have hs1 := HS.out (k + 1) (by omega)
      have HOC := Lib.hid hoc
      rw [HVA.out.1] at hocap
      generalize (va vs k).a = ua at *
      generalize (va vs k).cap = uc at *
      clear hoc
      go_wp2_with fail
      refine (hLA.out _).mono ?_
      rintro e w1 ⟨rfl, g1⟩
      have HG1 := Lib.hid (HGr.out.trans g1)
      have HT1 := Lib.hid (HT.out.grow g1)
      have HP1' := Lib.hid (HPl.out.grow g1)
      have HUR1 := Lib.hid (HUR.out.grow g1)
      have HOC1 : Hid (w1.cell? ⟨og, k, none⟩ = some (.slice ua (sz zs k) uc)) := Lib.hid (kcG (g1.by' none) HOC.out (fun e => by cases e))
      have hog1 : og < w1.heap.size := Nat.lt_of_lt_of_le hogl g1.size
      clear g1 b0 b1 b2 hlt HPl HUR HOC hogl
      go_wp2
      rename World => W1
      go_loopw [7, 8] (fun lv rv wr => ∃ r : Nat, r ≤ sz zs (k + 1) ∧ rv = .int .i64 r ∧ Hid (wr.ownsRow W1.heap.size 2 1 lv r (((List.range r).map (valV zs ps q k (trV zs ps q xs k))).map (Value.int .i64))) ∧ Hid (Grew W1 wr)) (fun _ rv _ => sz zs (k + 1) - (intOf rv).toNat)
      case atStart => exact ⟨0, Nat.zero_le _, rfl, Lib.hid (World.ownsRow_nil _ _ _ _), Lib.hid (Grew.refl _)⟩
      case round =>
        obtain ⟨r, hr, rfl, HL, HGw⟩ := hrel
        have ht := HT1.out.grow HGw.out
        have b0 := ht.c0
        have b1 := ht.c1
        have b2 := ht.c2
        have hlt := ht.lt
        obtain ⟨sb', so', es, hsb, hsk⟩ := (HR.out.grow (HG1.out.trans HGw.out)).sr.at (k := k + 1) (by rw [HZ.out]; omega)
        obtain ⟨rfl, rfl⟩ : sb = sb' ∧ so = so' := by injection es with es; injection es with e1 e2; exact ⟨e1, e2⟩
        rw [HE.out (k + 1) (by omega)] at hsk
        have hkz : k + 1 < zs.length := by rw [HZ.out]; omega
        clear ht es
        by_cases hrs : r < sz zs (k + 1)
        · have hoc := kcG (HGw.out.by' none) HOC1.out (fun e => by cases e)
          have hogw : og < wr.heap.size := Nat.lt_of_lt_of_le hog1 HGw.out.size
          have HSC := Lib.hid (fun (W : World) (g : Grew wr W) => sum9_any (q := q) (w := W) (vc := uc) (k := k) (r := r) HP.out (HR.out.grow ((HG1.out.trans HGw.out).trans g)) hkl hrs HTL.out ((HUR1.out.grow HGw.out).grow g) HTF.out)
          have HVE : Hid (valV zs ps q k (trV zs ps q xs k) r = if k + 1 < m then gateV (zV zs ps q k (trV zs ps q xs k) r) (zV zs ps q k (trV zs ps q xs k) r) else zV zs ps q k (trV zs ps q xs k) r) := Lib.hid (by unfold valV actV; rw [HM.out])
          have HTP := Lib.hid (tr_part (zs := zs) (ps := ps) (xs := xs) (q := q) (k := k) (r := r))
          have hr20 : r ≤ 1048576 := by omega
          have hkk1 : (k : Int) < (k : Int) + 1 := by omega
          generalize zV zs ps q k (trV zs ps q xs k) r = Z at *
          go_wp2_with fail
          refine wp_region_held_drew (S := (fun W' => Grew wr W' ∧ W'.cell? ⟨w.heap.size, 0, none⟩ = some (.slice (some ⟨sb, so, none⟩) zs.length sc) ∧ W'.cell? ⟨w.heap.size, 1, none⟩ = some (.slice pa ps.length pc) ∧ W'.cell? ⟨w.heap.size, 2, none⟩ = some (.int .i64 q) ∧ W'.cell? ⟨og, k, none⟩ = some (.slice ua (sz zs k) uc))) (by kernel_rfl) ⟨Grew.drew' (Grew.refl _), b0, b1, b2, hoc⟩ (fun hHeld => ?_)
          refine wpAnyH_take (i := 0) (oi := { dst := some 28, op := Go.Op.load 25 (Go.Operand.tmp 2), type := 25, pos := _, after := #[], guard := none }) (v := ?v1) rfl (by kernel_rfl) (by kernel_rfl) (by kernel_rfl) (fun _ _ _ h => h) (Or.inl ⟨by kernel_rfl, ?hy1⟩) (by assumption) ?_
          case hy1 => intro w hSw; (try dsimp only at hSw); first | (go_simp; done) | (go_simp; with_reducible rfl)
          (try simp only [Act.put, List.setIfInBounds_toArray, List.set_cons_zero, List.set_cons_succ])
          refine wpAnyH_take (i := 1) (oi := { dst := some 29, op := Go.Op.move (Go.Operand.tmp 6), type := 3, pos := _, after := #[], guard := none }) (v := ?v2) rfl (by kernel_rfl) (by kernel_rfl) (by kernel_rfl) (fun _ _ _ h => h) (Or.inl ⟨by kernel_rfl, ?hy2⟩) (by assumption) ?_
          case hy2 => intro w hSw; (try dsimp only at hSw); first | (go_simp; done) | (go_simp; with_reducible rfl)
          (try simp only [Act.put, List.setIfInBounds_toArray, List.set_cons_zero, List.set_cons_succ])
          refine wpAnyH_take (i := 2) (oi := { dst := some 30, op := Go.Op.move (Go.Operand.tmp 8), type := 3, pos := _, after := #[], guard := none }) (v := ?v3) rfl (by kernel_rfl) (by kernel_rfl) (by kernel_rfl) (fun _ _ _ h => h) (Or.inl ⟨by kernel_rfl, ?hy3⟩) (by assumption) ?_
          case hy3 => intro w hSw; (try dsimp only at hSw); first | (go_simp; done) | (go_simp; with_reducible rfl)
          (try simp only [Act.put, List.setIfInBounds_toArray, List.set_cons_zero, List.set_cons_succ])
          refine wpAnyH_take (i := 3) (oi := { dst := some 31, op := Go.Op.move (Go.Operand.tmp 5), type := 40, pos := _, after := #[], guard := none }) (v := ?v4) rfl (by kernel_rfl) (by kernel_rfl) (by kernel_rfl) (fun _ _ _ h => h) (Or.inl ⟨by kernel_rfl, ?hy4⟩) (by assumption) ?_
          case hy4 => intro w hSw; (try dsimp only at hSw); first | (go_simp; done) | (go_simp; with_reducible rfl)
          (try simp only [Act.put, List.setIfInBounds_toArray, List.set_cons_zero, List.set_cons_succ])
          refine wpAnyH_take (i := 4) (oi := { dst := some 32, op := Go.Op.move (Go.Operand.tmp 6), type := 3, pos := _, after := #[], guard := none }) (v := ?v5) rfl (by kernel_rfl) (by kernel_rfl) (by kernel_rfl) (fun _ _ _ h => h) (Or.inl ⟨by kernel_rfl, ?hy5⟩) (by assumption) ?_
          case hy5 => intro w hSw; (try dsimp only at hSw); first | (go_simp; done) | (go_simp; with_reducible rfl)
          (try simp only [Act.put, List.setIfInBounds_toArray, List.set_cons_zero, List.set_cons_succ])
          refine wpAnyH_take (i := 5) (oi := { dst := some 33, op := Go.Op.indexAddr 40 (Go.Operand.tmp 31) (Go.Operand.tmp 32), type := 0, pos := _, after := #[{ on := 3, ground := Go.Ground.data }, { on := 4, ground := Go.Ground.data }], guard := none }) (v := ?v6) rfl (by kernel_rfl) (by kernel_rfl) (by kernel_rfl) (fun _ _ _ h => h) (Or.inl ⟨by kernel_rfl, ?hy6⟩) (by assumption) ?_
          case hy6 => intro w hSw; (try dsimp only at hSw); first | (go_simp; done) | (go_simp; with_reducible rfl)
          (try simp only [Act.put, List.setIfInBounds_toArray, List.set_cons_zero, List.set_cons_succ])
          refine wpAnyH_take (i := 6) (oi := { dst := some 34, op := Go.Op.load 23 (Go.Operand.tmp 33), type := 23, pos := _, after := #[{ on := 5, ground := Go.Ground.data }], guard := none }) (v := ?v7) rfl (by kernel_rfl) (by kernel_rfl) (by kernel_rfl) (fun _ _ _ h => h) (Or.inl ⟨by kernel_rfl, ?hy7⟩) (by assumption) ?_
          case hy7 => intro w hSw; (try dsimp only at hSw); first | (go_simp; done) | (go_simp; with_reducible rfl)
          (try simp only [Act.put, List.setIfInBounds_toArray, List.set_cons_zero, List.set_cons_succ])
          refine wpAnyH_ready (rs := [7]) (by kernel_rfl) (by simp) ?_
          refine AllReadyH.cons (o := { dst := some 35, op := Go.Op.call { callee := Go.Callee.value (Go.Operand.func 34), args := #[Go.Operand.tmp 28, Go.Operand.tmp 29, Go.Operand.tmp 30, Go.Operand.tmp 34], argTypes := #[25, 3, 3, 23] }, type := 2, pos := _, after := #[{ on := 0, ground := Go.Ground.data }, { on := 1, ground := Go.Ground.data }, { on := 2, ground := Go.Ground.data }, { on := 6, ground := Go.Ground.data }], guard := none }) rfl (fun K hK => ?_) AllReadyH.nil
          go_simp
          (go_at_call 34; refine (HSC.out _ (Grew.drew' (Grew.refl wr))).mono ?_; rintro e w5 ⟨rfl, g5⟩; have HG5 := Lib.hid ((Grew.drew' (Grew.refl wr)).trans g5))
          (try go_wp2_with fail)
          refine hK.out _ _ ?hS9 (fun hHeld => ?_)
          case hS9 => (try dsimp only); (obtain ⟨s0, s1, s2, s3, s4⟩ := hHeld; exact ⟨s0.trans g5, kcG (g5.by' none) s1 (fun e => by cases e), kcG (g5.by' none) s2 (fun e => by cases e), kcG (g5.by' none) s3 (fun e => by cases e), kcG (g5.by' none) s4 (fun e => by cases e)⟩)
          clear hK K
          (try simp only [Act.put, List.setIfInBounds_toArray, List.set_cons_zero, List.set_cons_succ])
          refine wpAnyH_take (i := 8) (oi := { dst := some 9, op := Go.Op.assign (Go.Operand.tmp 35), type := 2, pos := _, after := #[{ on := 7, ground := Go.Ground.data }, { on := 7, ground := Go.Ground.chain }, { on := 0, ground := Go.Ground.phase }, { on := 1, ground := Go.Ground.phase }, { on := 2, ground := Go.Ground.phase }, { on := 3, ground := Go.Ground.phase }, { on := 4, ground := Go.Ground.phase }, { on := 5, ground := Go.Ground.phase }, { on := 6, ground := Go.Ground.phase }, { on := 7, ground := Go.Ground.phase }], guard := none }) (v := ?v10) rfl (by kernel_rfl) (by kernel_rfl) (by kernel_rfl) (fun _ _ _ h => h) (Or.inl ⟨by kernel_rfl, ?hy10⟩) (by assumption) ?_
          case hy10 => intro w hSw; (try dsimp only at hSw); first | (go_simp; done) | (go_simp; with_reducible rfl)
          (try simp only [Act.put, List.setIfInBounds_toArray, List.set_cons_zero, List.set_cons_succ])
          refine wpAnyH_done (by kernel_rfl) ?_ _
          clear hHeld b0 b1 b2 hoc hsk
          have ht5 := (HT1.out.grow HGw.out).grow HG5.out
          have b0 := ht5.c0
          have b1 := ht5.c1
          have b2 := ht5.c2
          have hlt5 := ht5.lt
          clear ht5 hlt
          go_wp2_with fail
          refine (hLA.out _).mono ?_
          rintro e w6 ⟨rfl, g6⟩
          have HG6 := Lib.hid ((HGw.out.trans HG5.out).trans g6)
          have HL6 := Lib.hid (own_grow (own_grow HL.out HG5.out) g6)
          clear g6 b0 b1 b2 hlt5
          have hz6 : W1.heap.size ≤ w6.heap.size := HG6.out.size
          by_cases hin : k + 1 < m
          · rw [if_pos hin] at HVE
            go_wp2_with fail
            refine (rgate_any Z Z _).mono ?_
            rintro e w7 ⟨rfl, rfl⟩
            generalize gateV Z Z = Y at *
            go_wp2_with (at_builtin; refine wpList_append_own _ rfl _ _ 23 rfl W1.heap.size 2 i1 (.int .i64 0) 1 8 Try.underlying23 hi1 hy0 hy1 hy2 rfl (by decide) _ r _ rfl (HL6.out.alloc _) ⟨w6.heap.size, 0, none⟩ 1 1 [.int .i64 Y] rfl rfl ?qc21 ?qc31 ?qc41 ?qc51 ?qc61 ?_)
            case qc21 => exact cell_one_at w6 _ _
            case qc31 => intro u hu; simp only [List.mem_singleton] at hu; subst hu; rfl
            case qc41 => unfold maxLen; omega
            case qc51 => omega
            case qc61 => simp; omega
            intro v' w8 hown hgrow hnil
            have HL8 : Hid (w8.ownsRow W1.heap.size 2 1 v' (r + 1) (((List.range (r + 1)).map (valV zs ps q k (trV zs ps q xs k))).map (Value.int .i64))) := Lib.hid (by rw [HTP.out, List.map_append, HVE.out]; simpa using hown)
            have HG8 : Hid (Grew W1 w8) := Lib.hid (Below.grown (HG6.out.alloc _) hgrow (by simp; omega) (fun j hj => (World.ownsRow.lt HL6.out j hj).1))
            clear hown hgrow hnil
            go_wp2
            go_roundw
            case rel => exact ⟨r + 1, by omega, by go_num, HL8, HG8⟩
            case measure => simp [intOf]; omega
          · rw [if_neg hin] at HVE
            go_wp2_with (at_builtin; refine wpList_append_own _ rfl _ _ 23 rfl W1.heap.size 2 i1 (.int .i64 0) 1 8 Try.underlying23 hi1 hy0 hy1 hy2 rfl (by decide) _ r _ rfl (HL6.out.alloc _) ⟨w6.heap.size, 0, none⟩ 1 1 [.int .i64 Z] rfl rfl ?qc22 ?qc32 ?qc42 ?qc52 ?qc62 ?_)
            case qc22 => exact cell_one_at w6 _ _
            case qc32 => intro u hu; simp only [List.mem_singleton] at hu; subst hu; rfl
            case qc42 => unfold maxLen; omega
            case qc52 => omega
            case qc62 => simp; omega
            intro v' w8 hown hgrow hnil
            have HL8 : Hid (w8.ownsRow W1.heap.size 2 1 v' (r + 1) (((List.range (r + 1)).map (valV zs ps q k (trV zs ps q xs k))).map (Value.int .i64))) := Lib.hid (by rw [HTP.out, List.map_append, HVE.out]; simpa using hown)
            have HG8 : Hid (Grew W1 w8) := Lib.hid (Below.grown (HG6.out.alloc _) hgrow (by simp; omega) (fun j hj => (World.ownsRow.lt HL6.out j hj).1))
            clear hown hgrow hnil
            go_wp2
            go_roundw
            case rel => exact ⟨r + 1, by omega, by go_num, HL8, HG8⟩
            case measure => simp [intOf]; omega
        · obtain rfl : r = sz zs (k + 1) := by omega
          obtain ⟨la, lcap, rfl, hbuf⟩ := own_slice (zs := (List.range (sz zs (k + 1))).map (valV zs ps q k (trV zs ps q xs k))) HL.out
          have HBu : Hid (Buf W1.heap.size wr la (sz zs (k + 1)) lcap (trV zs ps q xs (k + 1))) := Lib.hid hbuf
          have HPW := Lib.hid (HP1'.out.grow HGw.out)
          have HGW := Lib.hid (HG1.out.trans HGw.out)
          clear hbuf
          have hlen : (trV zs ps q xs (k + 1)).length = sz zs (k + 1) := trV_len HXL.out _
          have HLEN := Lib.hid hlen
          have HBO : Hid (Body w.heap.size wr ⟨la, lcap, trV zs ps q xs (k + 1)⟩) := Lib.hid (Body.of_buf (D := W1.heap.size) (by show Buf _ wr la (trV zs ps q xs (k + 1)).length lcap _; rw [hlen]; exact HBu.out))
          have hwz : w.heap.size ≤ wr.heap.size := HGW.out.size
          have HTW := Lib.hid ((HT1.out.grow HGw.out).alloc (.cells #[.slice la (sz zs (k + 1)) lcap] 23))
          have HOWN : Hid ((wr.alloc (.cells #[.slice la (sz zs (k + 1)) lcap] 23)).ownsRow w.heap.size 23 1 (.slice (some ⟨og, 0, none⟩) (k + 1 : Nat) ocap) (k + 1) (vs.map slV)) := Lib.hid (by
            have h := own_grow HPW.out.2.1 ((Grew.refl wr).alloc (.cells #[.slice la (sz zs (k + 1)) lcap] 23))
            rw [HVA.out.1] at h
            exact h)
          have HVL := Lib.hid HVA.out.1
          clear hlen
          go_wp2_with (at_builtin; refine wpList_append_own _ rfl _ _ 40 rfl w.heap.size 23 i0 (.slice none 0 0) 1 24 Try.underlying40 hi hz0 hz1 hz2 rfl (by decide) (.slice (some ⟨og, 0, none⟩) (k + 1 : Nat) ocap) (k + 1) (vs.map slV) rfl HOWN.out ⟨wr.heap.size, 0, none⟩ 1 1 [.slice la (sz zs (k + 1)) lcap] rfl rfl ?qc2 ?qc3 ?qc4 ?qc5 ?qc6 ?_)
          case qc2 => exact cell_one_at wr _ _
          case qc3 => intro u hu; simp only [List.mem_singleton] at hu; subst hu; rfl
          case qc4 => unfold maxLen; omega
          case qc5 => omega
          case qc6 => simp; omega
          intro v' w2 hown hgrow hnil
          have hp2 := HPW.out.snoc HBO.out (by decide) ((Grew.refl wr).alloc _) hgrow (by
            rw [HVL.out]
            show w2.ownsRow _ _ 1 v' (k + 1 + 1) (vs.map slV ++ [.slice la (trV zs ps q xs (k + 1)).length lcap])
            rw [HLEN.out]
            exact hown)
          have HP2 := Lib.hid hp2
          have HVA2 := Lib.hid (HVA.out.next (u := ⟨la, lcap, trV zs ps q xs (k + 1)⟩) rfl)
          have HT2 := Lib.hid (HTW.out.grown hgrow (fun e => by
            obtain ⟨_, cur, hc⟩ := own_type HOWN.out e.symm
            rw [show _ = _ from HTW.out] at hc
            injection hc with hc
            injection hc with _ hc
            exact absurd hc (by decide)))
          have HG2 : Hid (Grew w w2) := Lib.hid (Below.grown (HGW.out.alloc _) hgrow (by simp; omega) (fun j hj => (own_type HOWN.out hj).1))
          clear hown hgrow hnil hp2
          go_wp2
          go_roundw
          case rel => exact ⟨k + 1, _, by omega, by go_num, HP2, HVA2, HT2, HG2⟩
          case measure => simp [intOf]; omega
    · obtain rfl : k = m := by omega
      obtain ⟨oa, ocap, rfl, _, _⟩ := HPl.out.slice
      rw [HVA.out.1] at HPl ⊢
      have HVE : Hid (Vals wr oa ocap vs zs ps xs q) := Lib.hid ⟨HPl.out.lot (by rw [HVA.out.1]; omega) (fun j hj => by
          rw [HVA.out.1] at hj
          rw [HVA.out.2 j (by omega), trV_len HXL.out]
          exact (HS.out j (by omega)).2) (fun j hj => by
          rw [HVA.out.1] at hj
          rw [HVA.out.2 j (by omega)]
          exact trV_fit HXF.out j), by rw [HM.out]; exact HVA.out.1, fun j hj => HVA.out.2 j (by rw [HM.out] at hj; exact hj)⟩
      clear HPl
      go_wp2_with fail
      refine (hLA.out _).mono ?_
      rintro e w1 ⟨rfl, g1⟩
      have HVE1 := Lib.hid (HVE.out.grow g1)
      have HG1 := Lib.hid (HGr.out.trans g1)
      clear g1 b0 b1 b2 hlt
      go_wp2
      go_ret
      exact ⟨⟨_, _, vs, rfl, HVE1.out⟩, HG1.out⟩
end
end Go.Proofs.Ytciocdjpgknihaa

namespace Go.Proofs.Ytciocdjpgknihaa
open Go.RowKit Go.Shelf

theorem map_part {f : Nat → Int} {r : Nat} : (List.range (r + 1)).map f = (List.range r).map f ++ [f r] := by
  rw [List.range_succ, List.map_append]
  rfl
theorem run_sub9 (x y : Int) : IntKind.i64.wrap (x - y) = wrap64 (x - y) := wrapEq9 _
section
variable {sa pa : Option Addr} {sc pc : Nat} {zs ps : List Int} {q : Int}

set_option linter.unusedSimpArgs false in
set_option maxRecDepth 100000 in
set_option maxHeartbeats 8000000 in
theorem errs9_any {xs ys : List Int} {ny : Nat} (hP : NetP zs ps q) (hx : xs.length = sz zs 0) (hxf : Fit xs) (hy : ys.length = ny) (hny : ny = sz zs (lnk zs)) : ∀ (d k : Nat), k + d = lnk zs →
    ∀ {cap yc : Nat} {l y : Option Addr} {vs : List Vec} (w : World), RN w sa sc pa pc zs ps → Vals w l cap vs zs ps xs q → Rd w.heap.size w y ys →
    Calls Try.prog 40 #[.agg #[.slice sa zs.length sc, .slice pa ps.length pc, .int .i64 q], .int .i64 k, .slice l (lnk zs + 1 : Nat) cap, .slice y ny yc] w fun e w' => (∃ a c, e = .returned (.slice a (sz zs k) c) ∧ Buf w.heap.size w' a (sz zs k) c (erV zs ps q xs ys k)) ∧ Grew w w' := by
  subst hny
  intro d
  induction d with
  | zero =>
    intro k hk cap yc l y vs w h hV hyr
    obtain rfl : k = lnk zs := by omega
    obtain ⟨i1, hi1, hy0, hy1, hy2⟩ := info_parts info_int
    have gA : Grew w (w.alloc (.cells #[.slice sa zs.length sc, .slice pa ps.length pc, .int .i64 q] 25)) := (Grew.refl w).alloc _
    have HT := Lib.hid (Three.new w 25 (.slice sa zs.length sc) (.slice pa ps.length pc) (.int .i64 q))
    have HG := Lib.hid gA
    have HVals := Lib.hid (hV.grow gA)
    have HYR := Lib.hid (hyr.grow gA)
    have HP := Lib.hid hP
    have HXL := Lib.hid hx
    have HXF := Lib.hid hxf
    have HYL := Lib.hid hy
    have hl := lnk_in hP.right
    have hzl : 1 ≤ zs.length := by omega
    have hz16 := hP.right.2.1
    have HLA : Hid (∀ W, Calls Try.prog 33 #[.agg #[.slice sa zs.length sc, .slice pa ps.length pc, .int .i64 q]] W fun e w' => e = .returned (.int .i64 (lnk zs : Nat)) ∧ Grew W w') := Lib.hid (fun W => last9_any (sa := sa) (sc := sc) (pa := pa) (ps := ps) (pc := pc) (q := q) hzl (by omega) W)
    have hs := sz_in hP.right.2.2.1 (k := lnk zs) (by omega)
    obtain ⟨N, hN⟩ : ∃ N, lnk zs + 1 = N := ⟨_, rfl⟩
    have hmN : lnk zs < N := by omega
    rw [hN]
    have HE : Hid (erV zs ps q xs ys (lnk zs) = (List.range (sz zs (lnk zs))).map fun i => wrap64 (el (trV zs ps q xs (lnk zs)) i - el ys i)) := Lib.hid (erV_last zs ps q xs ys)
    have HTL := Lib.hid (trV_len (zs := zs) (ps := ps) (q := q) hx (lnk zs))
    have HVA := Lib.hid (fun (W : World) (g : Grew (w.alloc (.cells #[.slice sa zs.length sc, .slice pa ps.length pc, .int .i64 q] 25)) W) => vals_at ((hV.grow gA).grow g) hx (Nat.le_refl (lnk zs)))
    have b0 := HT.out.c0
    have b1 := HT.out.c1
    have b2 := HT.out.c2
    have hlt := HT.out.lt
    clear h gA hV hyr hP hx hxf hy hk hl hN
    generalize lnk zs = m at *
    go_enter Try.func40, Try.ntmps40
    go_wp2_with fail
    generalize w.alloc (.cells #[.slice sa zs.length sc, .slice pa ps.length pc, .int .i64 q] 25) = wv at *
    generalize w.heap.size = L at *
    refine (HLA.out _).mono ?_
    rintro e w1 ⟨rfl, g1⟩
    have HG1 := Lib.hid g1
    clear g1 b0 b1 b2 hlt
    go_wp2
    rename World => W1
    go_loopw [9, 10] (fun ov iv wr => ∃ i : Nat, i ≤ sz zs m ∧ iv = .int .i64 i ∧ Hid (wr.ownsRow W1.heap.size 2 1 ov i (((List.range i).map fun i => wrap64 (el (trV zs ps q xs m) i - el ys i)).map (Value.int .i64))) ∧ Hid (Grew W1 wr)) (fun _ iv _ => sz zs m - (intOf iv).toNat)
    case atStart => exact ⟨0, Nat.zero_le _, rfl, Lib.hid (World.ownsRow_nil _ _ _ _), Lib.hid (Grew.refl _)⟩
    case round =>
      obtain ⟨i, hi, rfl, HL, HGr⟩ := hrel
      by_cases his : i < sz zs m
      · obtain ⟨hb, off, rfl, hhb, hcap, hc, hvr⟩ := HVA.out wr (HG1.out.trans HGr.out)
        have hhb1 : hb < W1.heap.size := by
          obtain ⟨hb', off', e', h', _⟩ := HVA.out W1 HG1.out
          obtain ⟨rfl, rfl⟩ : hb = hb' ∧ off = off' := by injection e' with e'; injection e' with e1 e2; exact ⟨e1, e2⟩
          exact h'
        have HVR1 := Lib.hid (by
          obtain ⟨_, _, _, _, _, _, h'⟩ := HVA.out W1 HG1.out
          exact h')
        obtain ⟨vb, vo, hva, hvb, hvc⟩ := (HVR1.out).at (k := i) (by rw [HTL.out]; exact his)
        have hvc' := kcG (HGr.out.by' none) hvc (fun e => by cases e)
        obtain ⟨yb, yo, rfl, hyb, hyc⟩ := (HYR.out.grow HG1.out).at (k := i) (by rw [HYL.out]; exact his)
        have hyc' := kcG (HGr.out.by' none) hyc (fun e => by cases e)
        have HMP := Lib.hid (map_part (f := fun i => wrap64 (el (trV zs ps q xs m) i - el ys i)) (r := i))
        have hi20 : i ≤ 1048576 := by omega
        have hsz1 : W1.heap.size ≤ wr.heap.size := HGr.out.size
        rw [hva] at hc
        generalize (va vs m).cap = vc0 at *
        have HXY : Hid (∀ x y, x = el (trV zs ps q xs m) i → y = el ys i → (fun i => wrap64 (el (trV zs ps q xs m) i - el ys i)) i = wrap64 (x - y)) := Lib.hid (fun x y h1 h2 => by rw [h1, h2])
        have HX2 := Lib.hid (HXY.out _ _ rfl rfl)
        generalize el (trV zs ps q xs m) i = xe at hvc hvc' HX2
        generalize el ys i = ye at hyc hyc' HX2
        clear hvr hvc hyc hva HXY
        have hmNi : (m : Int) < (N : Int) := by omega
        have hisi : (i : Int) < (sz zs m : Int) := by omega
        go_wp2_with fail
        refine wp_region_held_drew (S := (fun W' => W'.cell? ⟨hb, off + m, none⟩ = some (.slice (some ⟨vb, vo, none⟩) (sz zs m) vc0) ∧ W'.cell? ⟨vb, vo + i, none⟩ = some (.int .i64 xe) ∧ W'.cell? ⟨yb, yo + i, none⟩ = some (.int .i64 ye))) (by kernel_rfl) ⟨hc, hvc', hyc'⟩ (fun hHeld => ?_)
        refine wpAnyH_take (i := 0) (oi := { dst := some 25, op := Go.Op.move (Go.Operand.tmp 9), type := 23, pos := _, after := #[], guard := none }) (v := ?v1) rfl (by kernel_rfl) (by kernel_rfl) (by kernel_rfl) (fun _ _ _ h => h) (Or.inl ⟨by kernel_rfl, ?hy1⟩) (by assumption) ?_
        case hy1 => intro w hSw; (try dsimp only at hSw); first | (go_simp; done) | (go_simp; with_reducible rfl)
        (try simp only [Act.put, List.setIfInBounds_toArray, List.set_cons_zero, List.set_cons_succ])
        refine wpAnyH_take (i := 1) (oi := { dst := some 26, op := Go.Op.move (Go.Operand.tmp 2), type := 40, pos := _, after := #[], guard := none }) (v := ?v2) rfl (by kernel_rfl) (by kernel_rfl) (by kernel_rfl) (fun _ _ _ h => h) (Or.inl ⟨by kernel_rfl, ?hy2⟩) (by assumption) ?_
        case hy2 => intro w hSw; (try dsimp only at hSw); first | (go_simp; done) | (go_simp; with_reducible rfl)
        (try simp only [Act.put, List.setIfInBounds_toArray, List.set_cons_zero, List.set_cons_succ])
        refine wpAnyH_take (i := 2) (oi := { dst := some 27, op := Go.Op.move (Go.Operand.tmp 1), type := 3, pos := _, after := #[], guard := none }) (v := ?v3) rfl (by kernel_rfl) (by kernel_rfl) (by kernel_rfl) (fun _ _ _ h => h) (Or.inl ⟨by kernel_rfl, ?hy3⟩) (by assumption) ?_
        case hy3 => intro w hSw; (try dsimp only at hSw); first | (go_simp; done) | (go_simp; with_reducible rfl)
        (try simp only [Act.put, List.setIfInBounds_toArray, List.set_cons_zero, List.set_cons_succ])
        refine wpAnyH_take (i := 3) (oi := { dst := some 28, op := Go.Op.indexAddr 40 (Go.Operand.tmp 26) (Go.Operand.tmp 27), type := 0, pos := _, after := #[{ on := 1, ground := Go.Ground.data }, { on := 2, ground := Go.Ground.data }], guard := none }) (v := ?v4) rfl (by kernel_rfl) (by kernel_rfl) (by kernel_rfl) (fun _ _ _ h => h) (Or.inl ⟨by kernel_rfl, ?hy4⟩) (by assumption) ?_
        case hy4 => intro w hSw; (try dsimp only at hSw); first | (go_simp; done) | (go_simp; with_reducible rfl)
        (try simp only [Act.put, List.setIfInBounds_toArray, List.set_cons_zero, List.set_cons_succ])
        refine wpAnyH_take (i := 4) (oi := { dst := some 29, op := Go.Op.load 23 (Go.Operand.tmp 28), type := 23, pos := _, after := #[{ on := 3, ground := Go.Ground.data }], guard := none }) (v := ?v5) rfl (by kernel_rfl) (by kernel_rfl) (by kernel_rfl) (fun _ _ _ h => h) (Or.inl ⟨by kernel_rfl, ?hy5⟩) (by assumption) ?_
        case hy5 => intro w hSw; (try dsimp only at hSw); first | (go_simp; done) | (go_simp; with_reducible rfl)
        (try simp only [Act.put, List.setIfInBounds_toArray, List.set_cons_zero, List.set_cons_succ])
        refine wpAnyH_take (i := 5) (oi := { dst := some 30, op := Go.Op.move (Go.Operand.tmp 10), type := 3, pos := _, after := #[], guard := none }) (v := ?v6) rfl (by kernel_rfl) (by kernel_rfl) (by kernel_rfl) (fun _ _ _ h => h) (Or.inl ⟨by kernel_rfl, ?hy6⟩) (by assumption) ?_
        case hy6 => intro w hSw; (try dsimp only at hSw); first | (go_simp; done) | (go_simp; with_reducible rfl)
        (try simp only [Act.put, List.setIfInBounds_toArray, List.set_cons_zero, List.set_cons_succ])
        refine wpAnyH_take (i := 6) (oi := { dst := some 31, op := Go.Op.indexAddr 23 (Go.Operand.tmp 29) (Go.Operand.tmp 30), type := 0, pos := _, after := #[{ on := 4, ground := Go.Ground.data }, { on := 5, ground := Go.Ground.data }], guard := none }) (v := ?v7) rfl (by kernel_rfl) (by kernel_rfl) (by kernel_rfl) (fun _ _ _ h => h) (Or.inl ⟨by kernel_rfl, ?hy7⟩) (by assumption) ?_
        case hy7 => intro w hSw; (try dsimp only at hSw); first | (go_simp; done) | (go_simp; with_reducible rfl)
        (try simp only [Act.put, List.setIfInBounds_toArray, List.set_cons_zero, List.set_cons_succ])
        refine wpAnyH_take (i := 7) (oi := { dst := some 32, op := Go.Op.load 2 (Go.Operand.tmp 31), type := 2, pos := _, after := #[{ on := 6, ground := Go.Ground.data }], guard := none }) (v := ?v8) rfl (by kernel_rfl) (by kernel_rfl) (by kernel_rfl) (fun _ _ _ h => h) (Or.inl ⟨by kernel_rfl, ?hy8⟩) (by assumption) ?_
        case hy8 => intro w hSw; (try dsimp only at hSw); first | (go_simp; done) | (go_simp; with_reducible rfl)
        (try simp only [Act.put, List.setIfInBounds_toArray, List.set_cons_zero, List.set_cons_succ])
        refine wpAnyH_take (i := 8) (oi := { dst := some 33, op := Go.Op.move (Go.Operand.tmp 3), type := 23, pos := _, after := #[], guard := none }) (v := ?v9) rfl (by kernel_rfl) (by kernel_rfl) (by kernel_rfl) (fun _ _ _ h => h) (Or.inl ⟨by kernel_rfl, ?hy9⟩) (by assumption) ?_
        case hy9 => intro w hSw; (try dsimp only at hSw); first | (go_simp; done) | (go_simp; with_reducible rfl)
        (try simp only [Act.put, List.setIfInBounds_toArray, List.set_cons_zero, List.set_cons_succ])
        refine wpAnyH_take (i := 9) (oi := { dst := some 34, op := Go.Op.move (Go.Operand.tmp 10), type := 3, pos := _, after := #[], guard := none }) (v := ?v10) rfl (by kernel_rfl) (by kernel_rfl) (by kernel_rfl) (fun _ _ _ h => h) (Or.inl ⟨by kernel_rfl, ?hy10⟩) (by assumption) ?_
        case hy10 => intro w hSw; (try dsimp only at hSw); first | (go_simp; done) | (go_simp; with_reducible rfl)
        (try simp only [Act.put, List.setIfInBounds_toArray, List.set_cons_zero, List.set_cons_succ])
        refine wpAnyH_take (i := 10) (oi := { dst := some 35, op := Go.Op.indexAddr 23 (Go.Operand.tmp 33) (Go.Operand.tmp 34), type := 0, pos := _, after := #[{ on := 8, ground := Go.Ground.data }, { on := 9, ground := Go.Ground.data }], guard := none }) (v := ?v11) rfl (by kernel_rfl) (by kernel_rfl) (by kernel_rfl) (fun _ _ _ h => h) (Or.inl ⟨by kernel_rfl, ?hy11⟩) (by assumption) ?_
        case hy11 => intro w hSw; (try dsimp only at hSw); first | (go_simp; done) | (go_simp; with_reducible rfl)
        (try simp only [Act.put, List.setIfInBounds_toArray, List.set_cons_zero, List.set_cons_succ])
        refine wpAnyH_take (i := 11) (oi := { dst := some 36, op := Go.Op.load 2 (Go.Operand.tmp 35), type := 2, pos := _, after := #[{ on := 10, ground := Go.Ground.data }], guard := none }) (v := ?v12) rfl (by kernel_rfl) (by kernel_rfl) (by kernel_rfl) (fun _ _ _ h => h) (Or.inl ⟨by kernel_rfl, ?hy12⟩) (by assumption) ?_
        case hy12 => intro w hSw; (try dsimp only at hSw); first | (go_simp; done) | (go_simp; with_reducible rfl)
        (try simp only [Act.put, List.setIfInBounds_toArray, List.set_cons_zero, List.set_cons_succ])
        refine wpAnyH_take (i := 12) (oi := { dst := some 37, op := Go.Op.binOp Go.BinOp.sub 2 (Go.Operand.tmp 32) (Go.Operand.tmp 36) 2, type := 2, pos := _, after := #[{ on := 7, ground := Go.Ground.data }, { on := 11, ground := Go.Ground.data }], guard := none }) (v := ?v13) rfl (by kernel_rfl) (by kernel_rfl) (by kernel_rfl) (fun _ _ _ h => h) (Or.inl ⟨by kernel_rfl, ?hy13⟩) (by assumption) ?_
        case hy13 => intro w hSw; (try dsimp only at hSw); first | (go_simp; done) | (go_simp; with_reducible rfl)
        (try simp only [Act.put, List.setIfInBounds_toArray, List.set_cons_zero, List.set_cons_succ])
        refine wpAnyH_ready (rs := [13]) (by kernel_rfl) (by simp) ?_
        refine AllReadyH.cons (o := { dst := some 38, op := Go.Op.buildSlice 23 1 #[(0, Go.Operand.tmp 37)], type := 23, pos := _, after := #[{ on := 12, ground := Go.Ground.data }], guard := none }) rfl (fun K hK => ?_) AllReadyH.nil
        go_simp
        skip
        (try go_wp2_with fail)
        refine hK.out _ _ ?hS15 (fun hHeld => ?_)
        case hS15 => (try dsimp only); (obtain ⟨s1, s2, s3⟩ := hHeld; exact ⟨kcA _ s1, kcA _ s2, kcA _ s3⟩)
        clear hK K
        (try simp only [Act.put, List.setIfInBounds_toArray, List.set_cons_zero, List.set_cons_succ])
        refine wpAnyH_ready (rs := [14]) (by kernel_rfl) (by simp) ?_
        refine AllReadyH.cons (o := { dst := some 39, op := Go.Op.call { callee := Go.Callee.builtin Go.Builtin.append, args := #[Go.Operand.tmp 25, Go.Operand.tmp 38], argTypes := #[23, 23] }, type := 23, pos := _, after := #[{ on := 0, ground := Go.Ground.data }, { on := 13, ground := Go.Ground.data }], guard := none }) rfl (fun K hK => ?_) AllReadyH.nil
        (refine step_append_lies _ rfl _ _ 23 rfl W1.heap.size 2 i1 (.int .i64 0) 1 8 Try.underlying23 hi1 hy0 hy1 hy2 rfl (by decide) _ i _ rfl (own_grow HL.out ((Grew.drew' (Grew.refl _)).alloc _)) ⟨wr.heap.size, 0, none⟩ 1 1 [.int .i64 (IntKind.i64.wrap (xe - ye))] rfl rfl (cell_one_at wr.drew _ _) (by intro u hu; simp only [List.mem_singleton] at hu; subst hu; rfl) (by decide) (by unfold maxLen; omega) (by omega) (by simp; omega) _ rfl ?_; intro g' c' w7 hown hgrow hat hlt')
        (try go_wp2_with fail)
        refine hK.out _ _ ?hS17 (fun hHeld => ?_)
        case hS17 => (try dsimp only); (obtain ⟨s1, s2, s3⟩ := hHeld; exact ⟨kcG hgrow s1 (fun e => by have h9 := (World.ownsRow.lt HL.out _ e.symm).1; dsimp only at h9; omega), kcG hgrow s2 (fun e => by have h9 := (World.ownsRow.lt HL.out _ e.symm).1; dsimp only at h9; omega), kcG hgrow s3 (fun e => by have h9 := (World.ownsRow.lt HL.out _ e.symm).1; dsimp only at h9; omega)⟩)
        clear hK K
        (try simp only [Act.put, List.setIfInBounds_toArray, List.set_cons_zero, List.set_cons_succ])
        refine wpAnyH_take (i := 15) (oi := { dst := some 9, op := Go.Op.assign (Go.Operand.tmp 39), type := 23, pos := _, after := #[{ on := 14, ground := Go.Ground.data }, { on := 14, ground := Go.Ground.chain }, { on := 0, ground := Go.Ground.phase }, { on := 1, ground := Go.Ground.phase }, { on := 2, ground := Go.Ground.phase }, { on := 3, ground := Go.Ground.phase }, { on := 4, ground := Go.Ground.phase }, { on := 5, ground := Go.Ground.phase }, { on := 6, ground := Go.Ground.phase }, { on := 7, ground := Go.Ground.phase }, { on := 8, ground := Go.Ground.phase }, { on := 9, ground := Go.Ground.phase }, { on := 10, ground := Go.Ground.phase }, { on := 11, ground := Go.Ground.phase }, { on := 12, ground := Go.Ground.phase }, { on := 13, ground := Go.Ground.phase }, { on := 14, ground := Go.Ground.phase }], guard := none }) (v := ?v18) rfl (by kernel_rfl) (by kernel_rfl) (by kernel_rfl) (fun _ _ _ h => h) (Or.inl ⟨by kernel_rfl, ?hy18⟩) (by assumption) ?_
        case hy18 => intro w hSw; (try dsimp only at hSw); first | (go_simp; done) | (go_simp; with_reducible rfl)
        (try simp only [Act.put, List.setIfInBounds_toArray, List.set_cons_zero, List.set_cons_succ])
        refine wpAnyH_done (by kernel_rfl) ?_ _
        have HL8 : Hid (w7.ownsRow W1.heap.size 2 1 (.slice (some ⟨g', 0, none⟩) (i + 1 : Nat) c') (i + 1) (((List.range (i + 1)).map fun i => wrap64 (el (trV zs ps q xs m) i - el ys i)).map (Value.int .i64))) := Lib.hid (by rw [HMP.out, List.map_append, HX2.out, ← run_sub9]; simpa using hown)
        have HG8 : Hid (Grew W1 w7) := Lib.hid (Below.grown ((Grew.drew' HGr.out).alloc _) hgrow (by simp; omega) (fun j hj => (World.ownsRow.lt HL.out j hj).1))
        clear hown hgrow hat hlt' hHeld
        go_wp2
        go_roundw
        case rel => exact ⟨i + 1, by omega, by go_num, HL8, HG8⟩
        case measure => simp [intOf]; omega
      · obtain rfl : i = sz zs m := by omega
        obtain ⟨la, lcap, rfl, hbuf⟩ := own_slice (zs := (List.range (sz zs m)).map fun i => wrap64 (el (trV zs ps q xs m) i - el ys i)) HL.out
        have HB : Hid (Buf w.heap.size wr la (sz zs m) lcap (erV zs ps q xs ys m)) := Lib.hid (by rw [HE.out]; exact hbuf.mono (HG.out.trans HG1.out).size)
        have HGE := Lib.hid ((HG.out.trans HG1.out).trans HGr.out)
        clear hbuf HL
        go_wp2
        go_ret
        exact ⟨⟨_, _, rfl, HB.out⟩, HGE.out⟩
  | succ d ih =>
    intro k hk cap yc l y vs w h hV hyr
    have hkl : k < lnk zs := by omega
    obtain ⟨i1, hi1, hy0, hy1, hy2⟩ := info_parts info_int
    have gA : Grew w (w.alloc (.cells #[.slice sa zs.length sc, .slice pa ps.length pc, .int .i64 q] 25)) := (Grew.refl w).alloc _
    have HT := Lib.hid (Three.new w 25 (.slice sa zs.length sc) (.slice pa ps.length pc) (.int .i64 q))
    have HG := Lib.hid gA
    have HR := Lib.hid (h.grow gA)
    have HP := Lib.hid hP
    have HXL := Lib.hid hx
    have HXF := Lib.hid hxf
    have hl := lnk_in hP.right
    have hok := hP.right.2.2.1
    have hzl : 1 ≤ zs.length := by omega
    have hz16 := hP.right.2.1
    have hkz : k < zs.length := by omega
    have hkzi : (k : Int) < (zs.length : Int) := by omega
    have HLA : Hid (∀ W, Calls Try.prog 33 #[.agg #[.slice sa zs.length sc, .slice pa ps.length pc, .int .i64 q]] W fun e w' => e = .returned (.int .i64 (lnk zs : Nat)) ∧ Grew W w') := Lib.hid (fun W => last9_any (sa := sa) (sc := sc) (pa := pa) (ps := ps) (pc := pc) (q := q) hzl (by omega) W)
    have hs0 := sz_in hok (k := k) (by omega)
    have hs1 := sz_in hok (k := k + 1) (by omega)
    have HSE := Lib.hid (sz_eq hok (k := k) (by omega))
    have e1 : ((k + 1 : Nat) : Int) = (k : Int) + 1 := by omega
    have HIH := Lib.hid (fun (W : World) (g : Grew (w.alloc (.cells #[.slice sa zs.length sc, .slice pa ps.length pc, .int .i64 q] 25)) W) => by
      have := ih (k + 1) (by omega) (cap := cap) (yc := yc) (l := l) (y := y) (vs := vs) W ((h.grow gA).grow g) ((hV.grow gA).grow g) ((hyr.grow gA).grow g)
      rw [e1] at this
      exact this)
    obtain ⟨N, hN⟩ : ∃ N, lnk zs + 1 = N := ⟨_, rfl⟩
    have hmN : lnk zs < N := by omega
    rw [hN] at HIH ⊢
    have HE := Lib.hid (erV_inner (zs := zs) (ps := ps) (q := q) (x := xs) (y := ys) hkl)
    have HEL : Hid ((erV zs ps q xs ys (k + 1)).length = sz zs (k + 1)) := Lib.hid (erV_len (by omega))
    have HEF : Hid (Fit (erV zs ps q xs ys (k + 1))) := Lib.hid (erV_fit (by omega))
    have HTL := Lib.hid (trV_len (zs := zs) (ps := ps) (q := q) hx k)
    have HVA := Lib.hid (fun (W : World) (g : Grew (w.alloc (.cells #[.slice sa zs.length sc, .slice pa ps.length pc, .int .i64 q] 25)) W) => vals_at (j := k) ((hV.grow gA).grow g) hx (by omega))
    obtain ⟨sb, so, rfl, _, _⟩ := h.sr.at (k := 0) (by omega)
    have b0 := HT.out.c0
    have b1 := HT.out.c1
    have b2 := HT.out.c2
    have hlt := HT.out.lt
    have hne : ((k : Int) == (lnk zs : Int)) = false := by rw [beq_eq_false_iff_ne]; omega
    have hne2 : decide ((k : Int) = (lnk zs : Int)) = false := decide_eq_false (by omega)
    have hne3 : ¬ k = lnk zs := by omega
    have HKL := Lib.hid hkl
    clear h gA hV hyr hP hx hxf hy hk hl hN ih e1 hok hkl
    generalize hm : lnk zs = m at *
    have HM := Lib.hid hm
    clear hm
    go_enter Try.func40, Try.ntmps40
    go_wp2_with fail
    generalize w.alloc (.cells #[.slice (some ⟨sb, so, none⟩) zs.length sc, .slice pa ps.length pc, .int .i64 q] 25) = wv at *
    generalize hL9 : w.heap.size = L at *
    have HL9 := Lib.hid hL9
    clear hL9
    refine (HLA.out _).mono ?_
    rintro e w1 ⟨rfl, g1⟩
    have HG1 := Lib.hid g1
    have ht := HT.out.grow g1
    clear b0 b1 b2 hlt
    have b0 := ht.c0
    have b1 := ht.c1
    have b2 := ht.c2
    have hlt := ht.lt
    clear g1 ht
    go_wp2_with fail
    refine (HIH.out _ HG1.out).mono ?_
    rintro e w2 ⟨⟨na, nc, rfl, hbn⟩, g2⟩
    have HBN := Lib.hid hbn.rd
    have HG2 := Lib.hid (HG1.out.trans g2)
    clear hbn g2 b0 b1 b2 hlt hne hne2 hne3
    go_wp2
    rename World => W1
    go_loopw [9, 12] (fun ov cv wr => ∃ c : Nat, c ≤ sz zs k ∧ cv = .int .i64 c ∧ Hid (wr.ownsRow W1.heap.size 2 1 ov c (((List.range c).map fun c => gateV (el (trV zs ps q xs k) c) (pS (fun r => el ps (oW zs k + (r * sz zs k + c))) (erV zs ps q xs ys (k + 1)) q (sz zs (k + 1)))).map (Value.int .i64))) ∧ Hid (Grew W1 wr)) (fun _ cv _ => sz zs k - (intOf cv).toNat)
    case atStart => exact ⟨0, Nat.zero_le _, rfl, Lib.hid (World.ownsRow_nil _ _ _ _), Lib.hid (Grew.refl _)⟩
    case round =>
      obtain ⟨c, hc, rfl, HL, HGr⟩ := hrel
      have HGW := Lib.hid (HG2.out.trans HGr.out)
      have ht := HT.out.grow HGW.out
      have b0 := ht.c0
      have b1 := ht.c1
      have b2 := ht.c2
      have hlt := ht.lt
      obtain ⟨sb', so', es, hsb, hsk⟩ := (HR.out.grow HGW.out).sr.at (k := k) hkz
      obtain ⟨rfl, rfl⟩ : sb = sb' ∧ so = so' := by injection es with es; injection es with e1 e2; exact ⟨e1, e2⟩
      rw [← HSE.out] at hsk
      clear ht es
      by_cases hcs : c < sz zs k
      · go_wp2
        clear b0 b1 b2 hlt hsk
        rename World => W2
        go_loopw [13, 14] (fun sv rv wr => ∃ r : Nat, r ≤ sz zs (k + 1) ∧ rv = .int .i64 r ∧ sv = .int .i64 (pS (fun r => el ps (oW zs k + (r * sz zs k + c))) (erV zs ps q xs ys (k + 1)) q r) ∧ Hid (Grew W2 wr)) (fun _ rv _ => sz zs (k + 1) - (intOf rv).toNat)
        case atStart => exact ⟨0, Nat.zero_le _, rfl, rfl, Lib.hid (Grew.refl _)⟩
        case round =>
          obtain ⟨r, hr, rfl, rfl, HGs⟩ := hrel
          by_cases hrs : r < sz zs (k + 1)
          · obtain ⟨nb, no, rfl, hnb, hnc⟩ := (HBN.out.grow (HGr.out.trans HGs.out)).at (k := r) (by rw [HEL.out]; exact hrs)
            have ht := HT.out.grow (HGW.out.trans HGs.out)
            have b0 := ht.c0
            have b1 := ht.c1
            have b2 := ht.c2
            have hlt := ht.lt
            have HWC := Lib.hid (fun (W : World) (g : Grew wr W) => weight9_any (q := q) (w := W) HP.out (HR.out.grow ((HGW.out.trans HGs.out).trans g)) (by rw [HM.out]; exact HKL.out) hrs hcs)
            have HFW := Lib.hid (el_in HP.out.fit (oW zs k + (r * sz zs k + c)))
            have HFE := Lib.hid (HEF.out r (by rw [HEL.out]; exact hrs))
            have HS : Hid (pS (fun r => el ps (oW zs k + (r * sz zs k + c))) (erV zs ps q xs ys (k + 1)) q (r + 1) = wrap64 (pS (fun r => el ps (oW zs k + (r * sz zs k + c))) (erV zs ps q xs ys (k + 1)) q r + mulV (el ps (oW zs k + (r * sz zs k + c))) (el (erV zs ps q xs ys (k + 1)) r) q)) := Lib.hid rfl
            clear ht
            generalize pS (fun r => el ps (oW zs k + (r * sz zs k + c))) (erV zs ps q xs ys (k + 1)) q r = Z at *
            generalize el ps (oW zs k + (r * sz zs k + c)) = x at *
            generalize el (erV zs ps q xs ys (k + 1)) r = y' at *
            go_wp2
            refine wp_region_held_drew (S := (fun W' => Grew wr W' ∧ W'.cell? ⟨L, 0, none⟩ = some (.slice (some ⟨sb, so, none⟩) zs.length sc) ∧ W'.cell? ⟨L, 1, none⟩ = some (.slice pa ps.length pc) ∧ W'.cell? ⟨L, 2, none⟩ = some (.int .i64 q) ∧ W'.cell? ⟨nb, no + r, none⟩ = some (.int .i64 y'))) (by kernel_rfl) ⟨Grew.drew' (Grew.refl _), b0, b1, b2, hnc⟩ (fun hHeld => ?_)
            refine wpAnyH_take (i := 0) (oi := { dst := some 62, op := Go.Op.move (Go.Operand.tmp 13), type := 2, pos := _, after := #[], guard := none }) (v := ?v19) rfl (by kernel_rfl) (by kernel_rfl) (by kernel_rfl) (fun _ _ _ h => h) (Or.inl ⟨by kernel_rfl, ?hy19⟩) (by assumption) ?_
            case hy19 => intro w hSw; (try dsimp only at hSw); first | (go_simp; done) | (go_simp; with_reducible rfl)
            (try simp only [Act.put, List.setIfInBounds_toArray, List.set_cons_zero, List.set_cons_succ])
            refine wpAnyH_take (i := 1) (oi := { dst := some 63, op := Go.Op.load 25 (Go.Operand.tmp 4), type := 25, pos := _, after := #[], guard := none }) (v := ?v20) rfl (by kernel_rfl) (by kernel_rfl) (by kernel_rfl) (fun _ _ _ h => h) (Or.inl ⟨by kernel_rfl, ?hy20⟩) (by assumption) ?_
            case hy20 => intro w hSw; (try dsimp only at hSw); first | (go_simp; done) | (go_simp; with_reducible rfl)
            (try simp only [Act.put, List.setIfInBounds_toArray, List.set_cons_zero, List.set_cons_succ])
            refine wpAnyH_take (i := 2) (oi := { dst := some 64, op := Go.Op.move (Go.Operand.tmp 1), type := 3, pos := _, after := #[], guard := none }) (v := ?v21) rfl (by kernel_rfl) (by kernel_rfl) (by kernel_rfl) (fun _ _ _ h => h) (Or.inl ⟨by kernel_rfl, ?hy21⟩) (by assumption) ?_
            case hy21 => intro w hSw; (try dsimp only at hSw); first | (go_simp; done) | (go_simp; with_reducible rfl)
            (try simp only [Act.put, List.setIfInBounds_toArray, List.set_cons_zero, List.set_cons_succ])
            refine wpAnyH_take (i := 3) (oi := { dst := some 65, op := Go.Op.move (Go.Operand.tmp 14), type := 3, pos := _, after := #[], guard := none }) (v := ?v22) rfl (by kernel_rfl) (by kernel_rfl) (by kernel_rfl) (fun _ _ _ h => h) (Or.inl ⟨by kernel_rfl, ?hy22⟩) (by assumption) ?_
            case hy22 => intro w hSw; (try dsimp only at hSw); first | (go_simp; done) | (go_simp; with_reducible rfl)
            (try simp only [Act.put, List.setIfInBounds_toArray, List.set_cons_zero, List.set_cons_succ])
            refine wpAnyH_take (i := 4) (oi := { dst := some 66, op := Go.Op.move (Go.Operand.tmp 12), type := 3, pos := _, after := #[], guard := none }) (v := ?v23) rfl (by kernel_rfl) (by kernel_rfl) (by kernel_rfl) (fun _ _ _ h => h) (Or.inl ⟨by kernel_rfl, ?hy23⟩) (by assumption) ?_
            case hy23 => intro w hSw; (try dsimp only at hSw); first | (go_simp; done) | (go_simp; with_reducible rfl)
            (try simp only [Act.put, List.setIfInBounds_toArray, List.set_cons_zero, List.set_cons_succ])
            refine wpAnyH_take (i := 6) (oi := { dst := some 68, op := Go.Op.move (Go.Operand.tmp 11), type := 23, pos := _, after := #[], guard := none }) (v := ?v24) rfl (by kernel_rfl) (by kernel_rfl) (by kernel_rfl) (fun _ _ _ h => h) (Or.inl ⟨by kernel_rfl, ?hy24⟩) (by assumption) ?_
            case hy24 => intro w hSw; (try dsimp only at hSw); first | (go_simp; done) | (go_simp; with_reducible rfl)
            (try simp only [Act.put, List.setIfInBounds_toArray, List.set_cons_zero, List.set_cons_succ])
            refine wpAnyH_take (i := 7) (oi := { dst := some 69, op := Go.Op.move (Go.Operand.tmp 14), type := 3, pos := _, after := #[], guard := none }) (v := ?v25) rfl (by kernel_rfl) (by kernel_rfl) (by kernel_rfl) (fun _ _ _ h => h) (Or.inl ⟨by kernel_rfl, ?hy25⟩) (by assumption) ?_
            case hy25 => intro w hSw; (try dsimp only at hSw); first | (go_simp; done) | (go_simp; with_reducible rfl)
            (try simp only [Act.put, List.setIfInBounds_toArray, List.set_cons_zero, List.set_cons_succ])
            refine wpAnyH_take (i := 8) (oi := { dst := some 70, op := Go.Op.indexAddr 23 (Go.Operand.tmp 68) (Go.Operand.tmp 69), type := 0, pos := _, after := #[{ on := 6, ground := Go.Ground.data }, { on := 7, ground := Go.Ground.data }], guard := none }) (v := ?v26) rfl (by kernel_rfl) (by kernel_rfl) (by kernel_rfl) (fun _ _ _ h => h) (Or.inl ⟨by kernel_rfl, ?hy26⟩) (by assumption) ?_
            case hy26 => intro w hSw; (try dsimp only at hSw); first | (go_simp; done) | (go_simp; with_reducible rfl)
            (try simp only [Act.put, List.setIfInBounds_toArray, List.set_cons_zero, List.set_cons_succ])
            refine wpAnyH_take (i := 9) (oi := { dst := some 71, op := Go.Op.load 2 (Go.Operand.tmp 70), type := 2, pos := _, after := #[{ on := 8, ground := Go.Ground.data }], guard := none }) (v := ?v27) rfl (by kernel_rfl) (by kernel_rfl) (by kernel_rfl) (fun _ _ _ h => h) (Or.inl ⟨by kernel_rfl, ?hy27⟩) (by assumption) ?_
            case hy27 => intro w hSw; (try dsimp only at hSw); first | (go_simp; done) | (go_simp; with_reducible rfl)
            (try simp only [Act.put, List.setIfInBounds_toArray, List.set_cons_zero, List.set_cons_succ])
            refine wpAnyH_take (i := 10) (oi := { dst := some 72, op := Go.Op.fieldAddr 25 (Go.Operand.tmp 4) 2, type := 0, pos := _, after := #[], guard := none }) (v := ?v28) rfl (by kernel_rfl) (by kernel_rfl) (by kernel_rfl) (fun _ _ _ h => h) (Or.inl ⟨by kernel_rfl, ?hy28⟩) (by assumption) ?_
            case hy28 => intro w hSw; (try dsimp only at hSw); first | (go_simp; done) | (go_simp; with_reducible rfl)
            (try simp only [Act.put, List.setIfInBounds_toArray, List.set_cons_zero, List.set_cons_succ])
            refine wpAnyH_take (i := 11) (oi := { dst := some 73, op := Go.Op.load 3 (Go.Operand.tmp 72), type := 3, pos := _, after := #[{ on := 10, ground := Go.Ground.data }], guard := none }) (v := ?v29) rfl (by kernel_rfl) (by kernel_rfl) (by kernel_rfl) (fun _ _ _ h => h) (Or.inl ⟨by kernel_rfl, ?hy29⟩) (by assumption) ?_
            case hy29 => intro w hSw; (try dsimp only at hSw); first | (go_simp; done) | (go_simp; with_reducible rfl)
            (try simp only [Act.put, List.setIfInBounds_toArray, List.set_cons_zero, List.set_cons_succ])
            refine wpAnyH_ready (rs := [5]) (by kernel_rfl) (by simp) ?_
            refine AllReadyH.cons (o := { dst := some 67, op := Go.Op.call { callee := Go.Callee.value (Go.Operand.func 53), args := #[Go.Operand.tmp 63, Go.Operand.tmp 64, Go.Operand.tmp 65, Go.Operand.tmp 66], argTypes := #[25, 3, 3, 3] }, type := 2, pos := _, after := #[{ on := 1, ground := Go.Ground.data }, { on := 2, ground := Go.Ground.data }, { on := 3, ground := Go.Ground.data }, { on := 4, ground := Go.Ground.data }], guard := none }) rfl (fun K hK => ?_) AllReadyH.nil
            go_simp
            (go_at_call 53; refine (HWC.out _ (Grew.drew' (Grew.refl wr))).mono ?_; rintro e w5 ⟨rfl, g5⟩; have HG5 := Lib.hid ((HGs.out.trans (Grew.drew' (Grew.refl wr))).trans g5))
            (try go_wp2_with fail)
            refine hK.out _ _ ?hS31 (fun hHeld => ?_)
            case hS31 => (try dsimp only); (obtain ⟨s0, s1, s2, s3, s4⟩ := hHeld; exact ⟨s0.trans g5, kcG (g5.by' none) s1 (fun e => by cases e), kcG (g5.by' none) s2 (fun e => by cases e), kcG (g5.by' none) s3 (fun e => by cases e), kcG (g5.by' none) s4 (fun e => by cases e)⟩)
            clear hK K
            (try simp only [Act.put, List.setIfInBounds_toArray, List.set_cons_zero, List.set_cons_succ])
            refine wpAnyH_ready (rs := [12]) (by kernel_rfl) (by simp) ?_
            refine AllReadyH.cons (o := { dst := some 74, op := Go.Op.call { callee := Go.Callee.value (Go.Operand.func 41), args := #[Go.Operand.tmp 67, Go.Operand.tmp 71, Go.Operand.tmp 73], argTypes := #[2, 2, 3] }, type := 2, pos := _, after := #[{ on := 5, ground := Go.Ground.data }, { on := 9, ground := Go.Ground.data }, { on := 11, ground := Go.Ground.data }, { on := 5, ground := Go.Ground.chain }], guard := none }) rfl (fun K hK => ?_) AllReadyH.nil
            go_simp
            (go_at_call 41; refine (rmul_any x y' q _ HFW.out.1 HFW.out.2 HFE.out.1 HFE.out.2).mono ?_; rintro e w6 ⟨rfl, rfl⟩; generalize mulV x y' q = M at *)
            (try go_wp2_with fail)
            refine hK.out _ _ ?hS33 (fun hHeld => ?_)
            case hS33 => (try dsimp only); exact hHeld
            clear hK K
            (try simp only [Act.put, List.setIfInBounds_toArray, List.set_cons_zero, List.set_cons_succ])
            refine wpAnyH_take (i := 13) (oi := { dst := some 75, op := Go.Op.binOp Go.BinOp.add 2 (Go.Operand.tmp 62) (Go.Operand.tmp 74) 2, type := 2, pos := _, after := #[{ on := 0, ground := Go.Ground.data }, { on := 12, ground := Go.Ground.data }], guard := none }) (v := ?v34) rfl (by kernel_rfl) (by kernel_rfl) (by kernel_rfl) (fun _ _ _ h => h) (Or.inl ⟨by kernel_rfl, ?hy34⟩) (by assumption) ?_
            case hy34 => intro w hSw; (try dsimp only at hSw); first | (go_simp; done) | (go_simp; with_reducible rfl)
            (try simp only [Act.put, List.setIfInBounds_toArray, List.set_cons_zero, List.set_cons_succ])
            refine wpAnyH_take (i := 14) (oi := { dst := some 13, op := Go.Op.assign (Go.Operand.tmp 75), type := 2, pos := _, after := #[{ on := 13, ground := Go.Ground.data }, { on := 12, ground := Go.Ground.chain }, { on := 0, ground := Go.Ground.phase }, { on := 1, ground := Go.Ground.phase }, { on := 2, ground := Go.Ground.phase }, { on := 3, ground := Go.Ground.phase }, { on := 4, ground := Go.Ground.phase }, { on := 5, ground := Go.Ground.phase }, { on := 6, ground := Go.Ground.phase }, { on := 7, ground := Go.Ground.phase }, { on := 8, ground := Go.Ground.phase }, { on := 9, ground := Go.Ground.phase }, { on := 10, ground := Go.Ground.phase }, { on := 11, ground := Go.Ground.phase }, { on := 12, ground := Go.Ground.phase }, { on := 13, ground := Go.Ground.phase }], guard := none }) (v := ?v35) rfl (by kernel_rfl) (by kernel_rfl) (by kernel_rfl) (fun _ _ _ h => h) (Or.inl ⟨by kernel_rfl, ?hy35⟩) (by assumption) ?_
            case hy35 => intro w hSw; (try dsimp only at hSw); first | (go_simp; done) | (go_simp; with_reducible rfl)
            (try simp only [Act.put, List.setIfInBounds_toArray, List.set_cons_zero, List.set_cons_succ])
            refine wpAnyH_done (by kernel_rfl) ?_ _
            clear hHeld b0 b1 b2 hnc
            go_wp2
            go_roundw
            case rel => exact ⟨r + 1, by omega, by go_num, by rw [HS.out, wrapEq9], HG5⟩
            case measure => simp [intOf]; omega
          · obtain rfl : r = sz zs (k + 1) := by omega
            have HGX := Lib.hid (HGr.out.trans HGs.out)
            obtain ⟨hb, off, rfl, hhb, hcap, hc', hvr⟩ := HVA.out wr (HG2.out.trans HGX.out)
            obtain ⟨vb, vo, hva, hvb, hvc⟩ := hvr.at (k := c) (by rw [HTL.out]; exact hcs)
            rw [hva] at hc'
            have HMP := Lib.hid (map_part (f := fun c => gateV (el (trV zs ps q xs k) c) (pS (fun r => el ps (oW zs k + (r * sz zs k + c))) (erV zs ps q xs ys (k + 1)) q (sz zs (k + 1)))) (r := c))
            have hmNi : (k : Int) < (N : Int) := by have := HKL.out; omega
            have hkN : k < N := by have := HKL.out; omega
            have hcsi : (c : Int) < (sz zs k : Int) := by omega
            have hc20 : c ≤ 1048576 := by omega
            have hsz1 : W1.heap.size ≤ wr.heap.size := HGX.out.size
            have HLX := Lib.hid (own_grow HL.out HGs.out)
            generalize (va vs k).cap = vc0 at *
            generalize pS (fun r => el ps (oW zs k + (r * sz zs k + c))) (erV zs ps q xs ys (k + 1)) q (sz zs (k + 1)) = Z at *
            generalize el (trV zs ps q xs k) c = xe at *
            clear hvr hva
            go_wp2_with fail
            refine (rgate_any xe Z _).mono ?_
            rintro e w7 ⟨rfl, rfl⟩
            generalize gateV xe Z = Y at *
            go_wp2_with (at_builtin; refine wpList_append_own _ rfl _ _ 23 rfl W1.heap.size 2 i1 (.int .i64 0) 1 8 Try.underlying23 hi1 hy0 hy1 hy2 rfl (by decide) _ c _ rfl (HLX.out.alloc _) ⟨wr.heap.size, 0, none⟩ 1 1 [.int .i64 Y] rfl rfl ?qc2 ?qc3 ?qc4 ?qc5 ?qc6 ?_)
            case qc2 => exact cell_one_at wr _ _
            case qc3 => intro u hu; simp only [List.mem_singleton] at hu; subst hu; rfl
            case qc4 => unfold maxLen; omega
            case qc5 => omega
            case qc6 => simp; omega
            intro v' w8 hown hgrow hnil
            have HL8 : Hid (w8.ownsRow W1.heap.size 2 1 v' (c + 1) (((List.range (c + 1)).map fun c => gateV (el (trV zs ps q xs k) c) (pS (fun r => el ps (oW zs k + (r * sz zs k + c))) (erV zs ps q xs ys (k + 1)) q (sz zs (k + 1)))).map (Value.int .i64))) := Lib.hid (by rw [HMP.out, List.map_append]; simpa using hown)
            have HG8 : Hid (Grew W1 w8) := Lib.hid (Below.grown (HGX.out.alloc _) hgrow (by simp; omega) (fun j hj => (World.ownsRow.lt HLX.out j hj).1))
            clear hown hgrow hnil
            go_wp2
            go_roundw
            case rel => exact ⟨c + 1, by omega, by go_num, HL8, HG8⟩
            case measure => simp [intOf]; omega
      · obtain rfl : c = sz zs k := by omega
        obtain ⟨la, lcap, rfl, hbuf⟩ := own_slice (zs := (List.range (sz zs k)).map fun c => gateV (el (trV zs ps q xs k) c) (pS (fun r => el ps (oW zs k + (r * sz zs k + c))) (erV zs ps q xs ys (k + 1)) q (sz zs (k + 1)))) HL.out
        have HB : Hid (Buf w.heap.size wr la (sz zs k) lcap (erV zs ps q xs ys k)) := Lib.hid (by rw [HE.out]; exact hbuf.mono (HG.out.trans HG2.out).size)
        have HGE := Lib.hid (HG.out.trans HGW.out)
        clear hbuf HL
        go_wp2
        go_ret
        exact ⟨⟨_, _, rfl, by first | exact HB.out | (rw [← HL9.out]; exact HB.out)⟩, HGE.out⟩
end
end Go.Proofs.Ytciocdjpgknihaa

namespace Go.Proofs.Ytciocdjpgknihaa
open Go.RowKit Go.Shelf

section
variable {sa pa : Option Addr} {sc pc : Nat} {zs ps : List Int} {q : Int} {w : World}

set_option linter.unusedSimpArgs false in
set_option maxRecDepth 100000 in
set_option maxHeartbeats 8000000 in
theorem loss9_any {xc yc ny : Nat} {x y : Option Addr} {xs ys : List Int} (hP : NetP zs ps q) (h : RN w sa sc pa pc zs ps) (hx : xs.length = sz zs 0) (hxc : sz zs 0 ≤ xc) (hxm : xc ≤ 9223372036854775807) (hxr : Rd w.heap.size w x xs) (hxf : Fit xs)
    (hy : ys.length = ny) (hny : ny = sz zs (lnk zs)) (hyr : Rd w.heap.size w y ys) :
    Calls Try.prog 22 #[.agg #[.slice sa zs.length sc, .slice pa ps.length pc, .int .i64 q], .slice x (sz zs 0) xc, .slice y ny yc] w fun e w' => e = .returned (.int .i64 (lossV zs ps q xs ys)) ∧ Grew w w' := by
  have gA : Grew w (w.alloc (.cells #[.slice sa zs.length sc, .slice pa ps.length pc, .int .i64 q] 25)) := (Grew.refl w).alloc _
  have HT := Lib.hid (Three.new w 25 (.slice sa zs.length sc) (.slice pa ps.length pc) (.int .i64 q))
  have HG := Lib.hid gA
  have hl := lnk_in hP.right
  have hzl : 1 ≤ zs.length := by omega
  have hz16 := hP.right.2.1
  have HLA : Hid (∀ W, Calls Try.prog 33 #[.agg #[.slice sa zs.length sc, .slice pa ps.length pc, .int .i64 q]] W fun e w' => e = .returned (.int .i64 (lnk zs : Nat)) ∧ Grew W w') := Lib.hid (fun W => last9_any (sa := sa) (sc := sc) (pa := pa) (ps := ps) (pc := pc) (q := q) hzl (by omega) W)
  have HTR := Lib.hid (fun (W : World) (g : Grew (w.alloc (.cells #[.slice sa zs.length sc, .slice pa ps.length pc, .int .i64 q] 25)) W) => trace9_any (w := W) hP ((h.grow gA).grow g) hx hxc hxm ((hxr.grow gA).grow g) hxf)
  have HER := Lib.hid (fun (W : World) (g : Grew (w.alloc (.cells #[.slice sa zs.length sc, .slice pa ps.length pc, .int .i64 q] 25)) W) {cap : Nat} {l : Option Addr} {vs : List Vec} (hV : Vals W l cap vs zs ps xs q) => errs9_any (yc := yc) (y := y) hP hx hxf hy hny 0 (lnk zs) (by omega) W ((h.grow gA).grow g) hV ((hyr.grow gA).grow g))
  have HEF : Hid (Fit (erV zs ps q xs ys (lnk zs))) := Lib.hid (erV_fit (Nat.le_refl _))
  have HEL : Hid ((erV zs ps q xs ys (lnk zs)).length = sz zs (lnk zs)) := Lib.hid (erV_len (Nat.le_refl _))
  have HLV : Hid (lossV zs ps q xs ys = pS (el (erV zs ps q xs ys (lnk zs))) (erV zs ps q xs ys (lnk zs)) q (sz zs (lnk zs))) := Lib.hid rfl
  have hs := sz_in hP.right.2.2.1 (k := lnk zs) (by omega)
  have b0 := HT.out.c0
  have b1 := HT.out.c1
  have b2 := HT.out.c2
  have hlt := HT.out.lt
  clear h gA hP hx hxc hxm hxr hxf hy hny hyr hl
  generalize lnk zs = m at *
  generalize erV zs ps q xs ys m = E at *
  go_enter Try.func22, Try.ntmps22
  go_wp2_with fail
  generalize w.alloc (.cells #[.slice sa zs.length sc, .slice pa ps.length pc, .int .i64 q] 25) = wv at *
  generalize w.heap.size = L at *
  refine wp_region_held_drew (S := (fun W' => Grew wv W' ∧ W'.cell? ⟨L, 0, none⟩ = some (.slice sa zs.length sc) ∧ W'.cell? ⟨L, 1, none⟩ = some (.slice pa ps.length pc) ∧ W'.cell? ⟨L, 2, none⟩ = some (.int .i64 q))) (by kernel_rfl) ⟨Grew.drew' (Grew.refl _), b0, b1, b2⟩ (fun hHeld => ?_)
  refine wpAnyH_take (i := 0) (oi := { dst := some 10, op := Go.Op.load 25 (Go.Operand.tmp 3), type := 25, pos := _, after := #[], guard := none }) (v := ?v1) rfl (by kernel_rfl) (by kernel_rfl) (by kernel_rfl) (fun _ _ _ h => h) (Or.inl ⟨by kernel_rfl, ?hy1⟩) (by assumption) ?_
  case hy1 => intro w hSw; (try dsimp only at hSw); first | (go_simp; done) | (go_simp; with_reducible rfl)
  (try simp only [Act.put, List.setIfInBounds_toArray, List.set_cons_zero, List.set_cons_succ])
  refine wpAnyH_take (i := 1) (oi := { dst := some 11, op := Go.Op.load 25 (Go.Operand.tmp 3), type := 25, pos := _, after := #[], guard := none }) (v := ?v2) rfl (by kernel_rfl) (by kernel_rfl) (by kernel_rfl) (fun _ _ _ h => h) (Or.inl ⟨by kernel_rfl, ?hy2⟩) (by assumption) ?_
  case hy2 => intro w hSw; (try dsimp only at hSw); first | (go_simp; done) | (go_simp; with_reducible rfl)
  (try simp only [Act.put, List.setIfInBounds_toArray, List.set_cons_zero, List.set_cons_succ])
  refine wpAnyH_take (i := 3) (oi := { dst := some 13, op := Go.Op.load 25 (Go.Operand.tmp 3), type := 25, pos := _, after := #[], guard := none }) (v := ?v3) rfl (by kernel_rfl) (by kernel_rfl) (by kernel_rfl) (fun _ _ _ h => h) (Or.inl ⟨by kernel_rfl, ?hy3⟩) (by assumption) ?_
  case hy3 => intro w hSw; (try dsimp only at hSw); first | (go_simp; done) | (go_simp; with_reducible rfl)
  (try simp only [Act.put, List.setIfInBounds_toArray, List.set_cons_zero, List.set_cons_succ])
  refine wpAnyH_take (i := 4) (oi := { dst := some 14, op := Go.Op.move (Go.Operand.tmp 1), type := 23, pos := _, after := #[], guard := none }) (v := ?v4) rfl (by kernel_rfl) (by kernel_rfl) (by kernel_rfl) (fun _ _ _ h => h) (Or.inl ⟨by kernel_rfl, ?hy4⟩) (by assumption) ?_
  case hy4 => intro w hSw; (try dsimp only at hSw); first | (go_simp; done) | (go_simp; with_reducible rfl)
  (try simp only [Act.put, List.setIfInBounds_toArray, List.set_cons_zero, List.set_cons_succ])
  refine wpAnyH_take (i := 6) (oi := { dst := some 16, op := Go.Op.move (Go.Operand.tmp 2), type := 23, pos := _, after := #[], guard := none }) (v := ?v5) rfl (by kernel_rfl) (by kernel_rfl) (by kernel_rfl) (fun _ _ _ h => h) (Or.inl ⟨by kernel_rfl, ?hy5⟩) (by assumption) ?_
  case hy5 => intro w hSw; (try dsimp only at hSw); first | (go_simp; done) | (go_simp; with_reducible rfl)
  (try simp only [Act.put, List.setIfInBounds_toArray, List.set_cons_zero, List.set_cons_succ])
  refine wpAnyH_ready (rs := [2]) (by kernel_rfl) (by simp) ?_
  refine AllReadyH.cons (o := { dst := some 12, op := Go.Op.call { callee := Go.Callee.value (Go.Operand.func 33), args := #[Go.Operand.tmp 11], argTypes := #[25] }, type := 3, pos := _, after := #[{ on := 1, ground := Go.Ground.data }], guard := none }) rfl (fun K hK => ?_) AllReadyH.nil
  go_simp
  (go_at_call 33; refine (HLA.out _).mono ?_; rintro e w5 ⟨rfl, g5⟩; have HG5 := Lib.hid ((Grew.drew' (Grew.refl wv)).trans g5))
  (try go_wp2_with fail)
  refine hK.out _ _ ?hS7 (fun hHeld => ?_)
  case hS7 => (try dsimp only); (obtain ⟨s0, s1, s2, s3⟩ := hHeld; exact ⟨s0.trans g5, kcG (g5.by' none) s1 (fun e => by cases e), kcG (g5.by' none) s2 (fun e => by cases e), kcG (g5.by' none) s3 (fun e => by cases e)⟩)
  clear hK K
  (try simp only [Act.put, List.setIfInBounds_toArray, List.set_cons_zero, List.set_cons_succ])
  refine wpAnyH_ready (rs := [5]) (by kernel_rfl) (by simp) ?_
  refine AllReadyH.cons (o := { dst := some 15, op := Go.Op.call { callee := Go.Callee.value (Go.Operand.func 18), args := #[Go.Operand.tmp 13, Go.Operand.tmp 14], argTypes := #[25, 23] }, type := 40, pos := _, after := #[{ on := 3, ground := Go.Ground.data }, { on := 4, ground := Go.Ground.data }, { on := 2, ground := Go.Ground.chain }], guard := none }) rfl (fun K hK => ?_) AllReadyH.nil
  go_simp
  (go_at_call 18; refine (HTR.out _ HG5.out).mono ?_; rintro e w6 ⟨⟨l6, cap6, vs6, rfl, hv6⟩, g6⟩; have HG6 := Lib.hid (HG5.out.trans g6))
  (try go_wp2_with fail)
  refine hK.out _ _ ?hS9 (fun hHeld => ?_)
  case hS9 => (try dsimp only); (obtain ⟨s0, s1, s2, s3⟩ := hHeld; exact ⟨s0.trans g6, kcG (g6.by' none) s1 (fun e => by cases e), kcG (g6.by' none) s2 (fun e => by cases e), kcG (g6.by' none) s3 (fun e => by cases e)⟩)
  clear hK K
  (try simp only [Act.put, List.setIfInBounds_toArray, List.set_cons_zero, List.set_cons_succ])
  refine wpAnyH_ready (rs := [7]) (by kernel_rfl) (by simp) ?_
  refine AllReadyH.cons (o := { dst := some 17, op := Go.Op.call { callee := Go.Callee.value (Go.Operand.func 40), args := #[Go.Operand.tmp 10, Go.Operand.tmp 12, Go.Operand.tmp 15, Go.Operand.tmp 16], argTypes := #[25, 3, 40, 23] }, type := 23, pos := _, after := #[{ on := 0, ground := Go.Ground.data }, { on := 2, ground := Go.Ground.data }, { on := 5, ground := Go.Ground.data }, { on := 6, ground := Go.Ground.data }, { on := 5, ground := Go.Ground.chain }], guard := none }) rfl (fun K hK => ?_) AllReadyH.nil
  go_simp
  (go_at_call 40; refine (HER.out _ HG6.out hv6).mono ?_; rintro e w7 ⟨⟨ea, ec, rfl, hb7⟩, g7⟩)
  (try go_wp2_with fail)
  refine hK.out _ _ ?hS11 (fun hHeld => ?_)
  case hS11 => (try dsimp only); (obtain ⟨s0, s1, s2, s3⟩ := hHeld; exact ⟨s0.trans g7, kcG (g7.by' none) s1 (fun e => by cases e), kcG (g7.by' none) s2 (fun e => by cases e), kcG (g7.by' none) s3 (fun e => by cases e)⟩)
  clear hK K
  (try simp only [Act.put, List.setIfInBounds_toArray, List.set_cons_zero, List.set_cons_succ])
  refine wpAnyH_take (i := 8) (oi := { dst := some 7, op := Go.Op.assign (Go.Operand.tmp 17), type := 23, pos := _, after := #[{ on := 7, ground := Go.Ground.data }, { on := 7, ground := Go.Ground.chain }, { on := 0, ground := Go.Ground.phase }, { on := 1, ground := Go.Ground.phase }, { on := 2, ground := Go.Ground.phase }, { on := 3, ground := Go.Ground.phase }, { on := 4, ground := Go.Ground.phase }, { on := 5, ground := Go.Ground.phase }, { on := 6, ground := Go.Ground.phase }, { on := 7, ground := Go.Ground.phase }], guard := none }) (v := ?v12) rfl (by kernel_rfl) (by kernel_rfl) (by kernel_rfl) (fun _ _ _ h => h) (Or.inl ⟨by kernel_rfl, ?hy12⟩) (by assumption) ?_
  case hy12 => intro w hSw; (try dsimp only at hSw); first | (go_simp; done) | (go_simp; with_reducible rfl)
  (try simp only [Act.put, List.setIfInBounds_toArray, List.set_cons_zero, List.set_cons_succ])
  refine wpAnyH_done (by kernel_rfl) ?_ _
  have HG5 := Lib.hid ((HG6.out.trans g7))
  have HB := Lib.hid hb7.rd
  clear hb7 g7 hHeld b0 b1 b2 hlt
  go_wp2
  go_loopw [8, 9] (fun sv iv wr => ∃ i : Nat, i ≤ sz zs m ∧ iv = .int .i64 i ∧ sv = .int .i64 (pS (el E) E q i) ∧ Hid (Grew w7 wr)) (fun _ iv _ => sz zs m - (intOf iv).toNat)
  case atStart => exact ⟨0, Nat.zero_le _, rfl, rfl, Lib.hid (Grew.refl _)⟩
  case round =>
    obtain ⟨i, hi, rfl, rfl, HGr⟩ := hrel
    by_cases his : i < sz zs m
    · obtain ⟨eb, eo, rfl, heb, hec⟩ := (HB.out.grow HGr.out).at (k := i) (by rw [HEL.out]; exact his)
      have ht := HT.out.grow (HG5.out.trans HGr.out)
      have b2 := ht.c2
      have hlt := ht.lt
      have HFE := Lib.hid (HEF.out i (by rw [HEL.out]; exact his))
      have HS : Hid (pS (el E) E q (i + 1) = wrap64 (pS (el E) E q i + mulV (el E i) (el E i) q)) := Lib.hid rfl
      clear ht
      generalize pS (el E) E q i = Z at *
      generalize el E i = x' at *
      go_wp2
      refine wp_region_held_drew (S := (fun W' => Grew wr W' ∧ W'.cell? ⟨L, 2, none⟩ = some (.int .i64 q) ∧ W'.cell? ⟨eb, eo + i, none⟩ = some (.int .i64 x'))) (by kernel_rfl) ⟨Grew.drew' (Grew.refl _), b2, hec⟩ (fun hHeld => ?_)
      refine wpAnyH_take (i := 0) (oi := { dst := some 24, op := Go.Op.move (Go.Operand.tmp 8), type := 2, pos := _, after := #[], guard := none }) (v := ?v13) rfl (by kernel_rfl) (by kernel_rfl) (by kernel_rfl) (fun _ _ _ h => h) (Or.inl ⟨by kernel_rfl, ?hy13⟩) (by assumption) ?_
      case hy13 => intro w hSw; (try dsimp only at hSw); first | (go_simp; done) | (go_simp; with_reducible rfl)
      (try simp only [Act.put, List.setIfInBounds_toArray, List.set_cons_zero, List.set_cons_succ])
      refine wpAnyH_take (i := 1) (oi := { dst := some 25, op := Go.Op.move (Go.Operand.tmp 7), type := 23, pos := _, after := #[], guard := none }) (v := ?v14) rfl (by kernel_rfl) (by kernel_rfl) (by kernel_rfl) (fun _ _ _ h => h) (Or.inl ⟨by kernel_rfl, ?hy14⟩) (by assumption) ?_
      case hy14 => intro w hSw; (try dsimp only at hSw); first | (go_simp; done) | (go_simp; with_reducible rfl)
      (try simp only [Act.put, List.setIfInBounds_toArray, List.set_cons_zero, List.set_cons_succ])
      refine wpAnyH_take (i := 2) (oi := { dst := some 26, op := Go.Op.move (Go.Operand.tmp 9), type := 3, pos := _, after := #[], guard := none }) (v := ?v15) rfl (by kernel_rfl) (by kernel_rfl) (by kernel_rfl) (fun _ _ _ h => h) (Or.inl ⟨by kernel_rfl, ?hy15⟩) (by assumption) ?_
      case hy15 => intro w hSw; (try dsimp only at hSw); first | (go_simp; done) | (go_simp; with_reducible rfl)
      (try simp only [Act.put, List.setIfInBounds_toArray, List.set_cons_zero, List.set_cons_succ])
      refine wpAnyH_take (i := 3) (oi := { dst := some 27, op := Go.Op.indexAddr 23 (Go.Operand.tmp 25) (Go.Operand.tmp 26), type := 0, pos := _, after := #[{ on := 1, ground := Go.Ground.data }, { on := 2, ground := Go.Ground.data }], guard := none }) (v := ?v16) rfl (by kernel_rfl) (by kernel_rfl) (by kernel_rfl) (fun _ _ _ h => h) (Or.inl ⟨by kernel_rfl, ?hy16⟩) (by assumption) ?_
      case hy16 => intro w hSw; (try dsimp only at hSw); first | (go_simp; done) | (go_simp; with_reducible rfl)
      (try simp only [Act.put, List.setIfInBounds_toArray, List.set_cons_zero, List.set_cons_succ])
      refine wpAnyH_take (i := 4) (oi := { dst := some 28, op := Go.Op.load 2 (Go.Operand.tmp 27), type := 2, pos := _, after := #[{ on := 3, ground := Go.Ground.data }], guard := none }) (v := ?v17) rfl (by kernel_rfl) (by kernel_rfl) (by kernel_rfl) (fun _ _ _ h => h) (Or.inl ⟨by kernel_rfl, ?hy17⟩) (by assumption) ?_
      case hy17 => intro w hSw; (try dsimp only at hSw); first | (go_simp; done) | (go_simp; with_reducible rfl)
      (try simp only [Act.put, List.setIfInBounds_toArray, List.set_cons_zero, List.set_cons_succ])
      refine wpAnyH_take (i := 5) (oi := { dst := some 29, op := Go.Op.move (Go.Operand.tmp 7), type := 23, pos := _, after := #[], guard := none }) (v := ?v18) rfl (by kernel_rfl) (by kernel_rfl) (by kernel_rfl) (fun _ _ _ h => h) (Or.inl ⟨by kernel_rfl, ?hy18⟩) (by assumption) ?_
      case hy18 => intro w hSw; (try dsimp only at hSw); first | (go_simp; done) | (go_simp; with_reducible rfl)
      (try simp only [Act.put, List.setIfInBounds_toArray, List.set_cons_zero, List.set_cons_succ])
      refine wpAnyH_take (i := 6) (oi := { dst := some 30, op := Go.Op.move (Go.Operand.tmp 9), type := 3, pos := _, after := #[], guard := none }) (v := ?v19) rfl (by kernel_rfl) (by kernel_rfl) (by kernel_rfl) (fun _ _ _ h => h) (Or.inl ⟨by kernel_rfl, ?hy19⟩) (by assumption) ?_
      case hy19 => intro w hSw; (try dsimp only at hSw); first | (go_simp; done) | (go_simp; with_reducible rfl)
      (try simp only [Act.put, List.setIfInBounds_toArray, List.set_cons_zero, List.set_cons_succ])
      refine wpAnyH_take (i := 7) (oi := { dst := some 31, op := Go.Op.indexAddr 23 (Go.Operand.tmp 29) (Go.Operand.tmp 30), type := 0, pos := _, after := #[{ on := 5, ground := Go.Ground.data }, { on := 6, ground := Go.Ground.data }], guard := none }) (v := ?v20) rfl (by kernel_rfl) (by kernel_rfl) (by kernel_rfl) (fun _ _ _ h => h) (Or.inl ⟨by kernel_rfl, ?hy20⟩) (by assumption) ?_
      case hy20 => intro w hSw; (try dsimp only at hSw); first | (go_simp; done) | (go_simp; with_reducible rfl)
      (try simp only [Act.put, List.setIfInBounds_toArray, List.set_cons_zero, List.set_cons_succ])
      refine wpAnyH_take (i := 8) (oi := { dst := some 32, op := Go.Op.load 2 (Go.Operand.tmp 31), type := 2, pos := _, after := #[{ on := 7, ground := Go.Ground.data }], guard := none }) (v := ?v21) rfl (by kernel_rfl) (by kernel_rfl) (by kernel_rfl) (fun _ _ _ h => h) (Or.inl ⟨by kernel_rfl, ?hy21⟩) (by assumption) ?_
      case hy21 => intro w hSw; (try dsimp only at hSw); first | (go_simp; done) | (go_simp; with_reducible rfl)
      (try simp only [Act.put, List.setIfInBounds_toArray, List.set_cons_zero, List.set_cons_succ])
      refine wpAnyH_take (i := 9) (oi := { dst := some 33, op := Go.Op.fieldAddr 25 (Go.Operand.tmp 3) 2, type := 0, pos := _, after := #[], guard := none }) (v := ?v22) rfl (by kernel_rfl) (by kernel_rfl) (by kernel_rfl) (fun _ _ _ h => h) (Or.inl ⟨by kernel_rfl, ?hy22⟩) (by assumption) ?_
      case hy22 => intro w hSw; (try dsimp only at hSw); first | (go_simp; done) | (go_simp; with_reducible rfl)
      (try simp only [Act.put, List.setIfInBounds_toArray, List.set_cons_zero, List.set_cons_succ])
      refine wpAnyH_take (i := 10) (oi := { dst := some 34, op := Go.Op.load 3 (Go.Operand.tmp 33), type := 3, pos := _, after := #[{ on := 9, ground := Go.Ground.data }], guard := none }) (v := ?v23) rfl (by kernel_rfl) (by kernel_rfl) (by kernel_rfl) (fun _ _ _ h => h) (Or.inl ⟨by kernel_rfl, ?hy23⟩) (by assumption) ?_
      case hy23 => intro w hSw; (try dsimp only at hSw); first | (go_simp; done) | (go_simp; with_reducible rfl)
      (try simp only [Act.put, List.setIfInBounds_toArray, List.set_cons_zero, List.set_cons_succ])
      refine wpAnyH_ready (rs := [11]) (by kernel_rfl) (by simp) ?_
      refine AllReadyH.cons (o := { dst := some 35, op := Go.Op.call { callee := Go.Callee.value (Go.Operand.func 41), args := #[Go.Operand.tmp 28, Go.Operand.tmp 32, Go.Operand.tmp 34], argTypes := #[2, 2, 3] }, type := 2, pos := _, after := #[{ on := 4, ground := Go.Ground.data }, { on := 8, ground := Go.Ground.data }, { on := 10, ground := Go.Ground.data }], guard := none }) rfl (fun K hK => ?_) AllReadyH.nil
      go_simp
      (go_at_call 41; refine (rmul_any x' x' q _ HFE.out.1 HFE.out.2 HFE.out.1 HFE.out.2).mono ?_; rintro e w6 ⟨rfl, rfl⟩; generalize mulV x' x' q = M at *)
      (try go_wp2_with fail)
      refine hK.out _ _ ?hS25 (fun hHeld => ?_)
      case hS25 => (try dsimp only); exact hHeld
      clear hK K
      (try simp only [Act.put, List.setIfInBounds_toArray, List.set_cons_zero, List.set_cons_succ])
      refine wpAnyH_take (i := 12) (oi := { dst := some 36, op := Go.Op.binOp Go.BinOp.add 2 (Go.Operand.tmp 24) (Go.Operand.tmp 35) 2, type := 2, pos := _, after := #[{ on := 0, ground := Go.Ground.data }, { on := 11, ground := Go.Ground.data }], guard := none }) (v := ?v26) rfl (by kernel_rfl) (by kernel_rfl) (by kernel_rfl) (fun _ _ _ h => h) (Or.inl ⟨by kernel_rfl, ?hy26⟩) (by assumption) ?_
      case hy26 => intro w hSw; (try dsimp only at hSw); first | (go_simp; done) | (go_simp; with_reducible rfl)
      (try simp only [Act.put, List.setIfInBounds_toArray, List.set_cons_zero, List.set_cons_succ])
      refine wpAnyH_take (i := 13) (oi := { dst := some 8, op := Go.Op.assign (Go.Operand.tmp 36), type := 2, pos := _, after := #[{ on := 12, ground := Go.Ground.data }, { on := 11, ground := Go.Ground.chain }, { on := 0, ground := Go.Ground.phase }, { on := 1, ground := Go.Ground.phase }, { on := 2, ground := Go.Ground.phase }, { on := 3, ground := Go.Ground.phase }, { on := 4, ground := Go.Ground.phase }, { on := 5, ground := Go.Ground.phase }, { on := 6, ground := Go.Ground.phase }, { on := 7, ground := Go.Ground.phase }, { on := 8, ground := Go.Ground.phase }, { on := 9, ground := Go.Ground.phase }, { on := 10, ground := Go.Ground.phase }, { on := 11, ground := Go.Ground.phase }, { on := 12, ground := Go.Ground.phase }], guard := none }) (v := ?v27) rfl (by kernel_rfl) (by kernel_rfl) (by kernel_rfl) (fun _ _ _ h => h) (Or.inl ⟨by kernel_rfl, ?hy27⟩) (by assumption) ?_
      case hy27 => intro w hSw; (try dsimp only at hSw); first | (go_simp; done) | (go_simp; with_reducible rfl)
      (try simp only [Act.put, List.setIfInBounds_toArray, List.set_cons_zero, List.set_cons_succ])
      refine wpAnyH_done (by kernel_rfl) ?_ _
      have HG9 := Lib.hid (HGr.out.trans hHeld.1)
      clear hHeld b2 hec
      go_wp2
      go_roundw
      case rel => exact ⟨i + 1, by omega, by go_num, by rw [HS.out, wrapEq9], HG9⟩
      case measure => simp [intOf]; omega
    · obtain rfl : i = sz zs m := by omega
      have HGE := Lib.hid ((HG.out.trans HG5.out).trans HGr.out)
      go_wp2
      go_ret
      exact ⟨by rw [HLV.out]; rfl, HGE.out⟩
end
end Go.Proofs.Ytciocdjpgknihaa

namespace Go.Proofs.Ytciocdjpgknihaa
open Go.RowKit Go.Shelf

/-- The errors of the layers from 1 on, as far as they have been listed. -/
def ErB (es : List Vec) (zs ps xs ys : List Int) (q : Int) (k : Nat) : Prop := es.length = k ∧ (∀ j, 1 ≤ j → j < k → (va es j).zs = erV zs ps q xs ys j) ∧ (0 < k → va es 0 = noV)
theorem ErB.nil (zs ps xs ys : List Int) (q : Int) : ErB [] zs ps xs ys q 0 := ⟨rfl, fun _ _ h => absurd h (Nat.not_lt_zero _), fun h => absurd h (Nat.not_lt_zero _)⟩
theorem ErB.first {es : List Vec} {zs ps xs ys : List Int} {q : Int} (h : ErB es zs ps xs ys q 0) : ErB (es ++ [noV]) zs ps xs ys q 1 := by
  obtain rfl : es = [] := List.eq_nil_of_length_eq_zero h.1
  exact ⟨rfl, fun j h1 h2 => by omega, fun _ => rfl⟩
theorem ErB.next {es : List Vec} {zs ps xs ys : List Int} {q : Int} {k : Nat} {u : Vec} (h : ErB es zs ps xs ys q k) (hk : 0 < k) (hu : u.zs = erV zs ps q xs ys k) : ErB ((es ++ [noV]).set k u) zs ps xs ys q (k + 1) := by
  have hl := h.1
  have hlen : (es ++ [noV]).length = k + 1 := by simp [hl]
  refine ⟨by rw [List.length_set, hlen], fun j h1 h2 => ?_, fun _ => ?_⟩
  · by_cases e : k = j
    · subst e
      rw [va_set_same u (by omega)]
      exact hu
    · rw [va_set_other u e, va_left (by omega)]
      exact h.2.1 j h1 (by omega)
  · rw [va_set_other u (by omega), va_left (by omega)]
    exact h.2.2 hk
theorem body_noV (B : Nat) (W : World) : Body B W noV := ⟨Nat.zero_le _, Nat.zero_le _, .inl (.inl rfl)⟩
theorem errs_done {W : World} {B cap : Nat} {a : Option Addr} {es : List Vec} {zs ps xs ys : List Int} {q : Int} {N : Nat} (hp : Pile 23 B W (.slice a N cap) es) (h : ErB es zs ps xs ys q (lnk zs + 1)) (hR : Right zs) : Errs W a cap es zs ps xs ys q := by
  have hl := lnk_in hR
  have hel : ∀ j, j < es.length → (va es j).zs.length ≤ 1048576 ∧ Fit (va es j).zs := fun j hj => by
    rw [h.1] at hj
    by_cases e1 : 1 ≤ j
    · rw [h.2.1 j e1 hj, erV_len (by omega)]
      exact ⟨(sz_in hR.2.2.1 (by omega)).2, erV_fit (by omega)⟩
    · obtain rfl : j = 0 := by omega
      rw [h.2.2 (by omega)]
      exact ⟨Nat.zero_le _, fit_nil⟩
  exact ⟨hp.lot (by rw [h.1]; omega) (fun j hj => (hel j hj).1) (fun j hj => (hel j hj).2), h.1, fun j h1 h2 => h.2.1 j h1 (by omega)⟩

section
variable {sa pa : Option Addr} {sc pc : Nat} {zs ps : List Int} {q : Int} {w : World}

set_option linter.unusedSimpArgs false in
set_option maxRecDepth 100000 in
set_option maxHeartbeats 8000000 in
theorem grad9_any {xc yc ny : Nat} {x y : Option Addr} {xs ys : List Int} (hP : NetP zs ps q) (h : RN w sa sc pa pc zs ps) (hx : xs.length = sz zs 0) (hxc : sz zs 0 ≤ xc) (hxm : xc ≤ 9223372036854775807) (hxr : Rd w.heap.size w x xs) (hxf : Fit xs)
    (hy : ys.length = ny) (hny : ny = sz zs (lnk zs)) (hyr : Rd w.heap.size w y ys) :
    Calls Try.prog 20 #[.agg #[.slice sa zs.length sc, .slice pa ps.length pc, .int .i64 q], .slice x (sz zs 0) xc, .slice y ny yc] w fun e w' => (∃ a c, e = .returned (.slice a (nP zs) c) ∧ Buf w.heap.size w' a (nP zs) c (grL zs ps q xs ys)) ∧ Grew w w' := by
  obtain ⟨i0, hi, hz0, hz1, hz2⟩ := info_parts info_row9
  obtain ⟨i1, hi1, hy0, hy1, hy2⟩ := info_parts info_int
  have gA : Grew w (w.alloc (.cells #[.slice sa zs.length sc, .slice pa ps.length pc, .int .i64 q] 25)) := (Grew.refl w).alloc _
  have HT := Lib.hid (Three.new w 25 (.slice sa zs.length sc) (.slice pa ps.length pc) (.int .i64 q))
  have HG := Lib.hid gA
  have hl := lnk_in hP.right
  have hzl : 1 ≤ zs.length := by omega
  have hz16 := hP.right.2.1
  have HP := Lib.hid hP
  have HXL := Lib.hid hx
  have HXF := Lib.hid hxf
  have HR := Lib.hid (h.grow gA)
  have HLA : Hid (∀ W, Calls Try.prog 33 #[.agg #[.slice sa zs.length sc, .slice pa ps.length pc, .int .i64 q]] W fun e w' => e = .returned (.int .i64 (lnk zs : Nat)) ∧ Grew W w') := Lib.hid (fun W => last9_any (sa := sa) (sc := sc) (pa := pa) (ps := ps) (pc := pc) (q := q) hzl (by omega) W)
  have HTR := Lib.hid (fun (W : World) (g : Grew (w.alloc (.cells #[.slice sa zs.length sc, .slice pa ps.length pc, .int .i64 q] 25)) W) => trace9_any (w := W) hP ((h.grow gA).grow g) hx hxc hxm ((hxr.grow gA).grow g) hxf)
  have HER := Lib.hid (fun (W : World) (g : Grew (w.alloc (.cells #[.slice sa zs.length sc, .slice pa ps.length pc, .int .i64 q] 25)) W) (k : Nat) (hk : k ≤ lnk zs) {cap : Nat} {l : Option Addr} {vs : List Vec} (hV : Vals W l cap vs zs ps xs q) => errs9_any (yc := yc) (y := y) hP hx hxf hy hny (lnk zs - k) k (by omega) W ((h.grow gA).grow g) hV ((hyr.grow gA).grow g))
  have hnp := nP_in hP.right
  obtain ⟨N, hN⟩ : ∃ N, lnk zs + 1 = N := ⟨_, rfl⟩
  have HNM := Lib.hid hN
  have hmN : lnk zs < N := by omega
  have hN16 : N ≤ 16 := by omega
  rw [hN] at HTR HER
  have b0 := HT.out.c0
  have b1 := HT.out.c1
  have b2 := HT.out.c2
  have hlt := HT.out.lt
  clear h gA hP hx hxc hxm hxr hxf hy hny hyr hl hN
  generalize hm : lnk zs = m at *
  have HM := Lib.hid hm
  clear hm
  go_enter Try.func20, Try.ntmps20
  go_wp2_with fail
  generalize w.alloc (.cells #[.slice sa zs.length sc, .slice pa ps.length pc, .int .i64 q] 25) = wv at *
  generalize hL9 : w.heap.size = L at *
  have HL9 := Lib.hid hL9
  clear hL9
  refine (HTR.out _ (Grew.refl _)).mono ?_
  rintro e w1 ⟨⟨l, cap, vs, rfl, hv⟩, g1⟩
  have HV := Lib.hid hv
  have HG1 := Lib.hid g1
  have ht := HT.out.grow g1
  clear b0 b1 b2 hlt
  have b0 := ht.c0
  have hlt := ht.lt
  clear hv g1 ht
  go_wp2_with fail
  refine (rplaces_any sa sc zs _ rfl HP.out.right (HR.out.grow HG1.out).sr).mono ?_
  rintro e w2 ⟨⟨NP, ta, tc, hNP, rfl, htr, htc, htm⟩, g2⟩
  obtain rfl : NP = nP zs := by have := nP_eq HP.out.right.2.2.1; omega
  have HTR2 := Lib.hid htr
  have HG2 := Lib.hid (HG1.out.trans g2)
  have HV2 := Lib.hid (HV.out.grow g2)
  clear htr g2 hNP b0 hlt HV
  go_wp2
  rename World => W1
  go_loopw [9, 10] (fun av kv wr => ∃ (k : Nat) (es : List Vec), k ≤ N ∧ kv = .int .i64 k ∧ Hid (Pile 23 W1.heap.size wr av es) ∧ Hid (ErB es zs ps xs ys q k) ∧ Hid (Grew W1 wr)) (fun _ kv _ => N - (intOf kv).toNat)
  case atStart => exact ⟨0, _, Nat.zero_le _, rfl, Lib.hid (Pile.nil _ (Nat.le_refl _)), Lib.hid (ErB.nil _ _ _ _ _), Lib.hid (Grew.refl _)⟩
  case round =>
    obtain ⟨k, es, hk, rfl, HPl, HEB, HGr⟩ := hrel
    have HGW := Lib.hid (HG2.out.trans HGr.out)
    have ht := HT.out.grow HGW.out
    have b0 := ht.c0
    have b1 := ht.c1
    have b2 := ht.c2
    have hlt := ht.lt
    clear ht
    by_cases hkN : k < N
    · have hkm : k ≤ m := by have := HNM.out; omega
      go_wp2_with fail
      refine (HLA.out _).mono ?_
      rintro e w3 ⟨rfl, g3⟩
      have HG3 := Lib.hid (HGr.out.trans g3)
      have HP3 := Lib.hid (HPl.out.grow g3)
      have HOWN : Hid ((w3.alloc (.cells #[.slice none 0 0] 23)).ownsRow W1.heap.size 23 1 u9 k (es.map slV)) := Lib.hid (by
        have h := own_grow HP3.out.2.1 ((Grew.refl w3).alloc (.cells #[.slice none 0 0] 23))
        rw [HEB.out.1] at h
        exact h)
      have hsz3 : W1.heap.size ≤ w3.heap.size := HG3.out.size
      clear g3 b0 b1 b2 hlt
      go_wp2_with (at_builtin; refine wpList_append_own _ rfl _ _ 40 rfl W1.heap.size 23 i0 (.slice none 0 0) 1 24 Try.underlying40 hi hz0 hz1 hz2 rfl (by decide) u9 k (es.map slV) rfl HOWN.out ⟨w3.heap.size, 0, none⟩ 1 1 [.slice none 0 0] rfl rfl ?qc2 ?qc3 ?qc4 ?qc5 ?qc6 ?_)
      case qc2 => exact cell_one_at w3 _ _
      case qc3 => intro u hu; simp only [List.mem_singleton] at hu; subst hu; rfl
      case qc4 => unfold maxLen; omega
      case qc5 => omega
      case qc6 => simp; omega
      intro v' w4 hown hgrow hnil
      have hp4 := HP3.out.snoc (body_noV _ _) (by decide) ((Grew.refl w3).alloc _) hgrow (by rw [HEB.out.1]; exact hown)
      have HG4 : Hid (Grew W1 w4) := Lib.hid (Below.grown (HG3.out.alloc _) hgrow (by simp; omega) (fun j hj => (own_type HOWN.out hj).1))
      have HP4 := Lib.hid hp4
      clear hown hgrow hnil hp4
      by_cases hk0 : k = 0
      · subst hk0
        have HEB1 := Lib.hid HEB.out.first
        go_wp2
        go_roundw
        case rel => exact ⟨1, _, by omega, by go_num, HP4, HEB1, HG4⟩
        case measure => simp [intOf]; omega
      · have hkp : 0 < k := by omega
        have hlen4 : (es ++ [noV]).length = k + 1 := by simp [HEB.out.1]
        have HLEN := Lib.hid hlen4
        obtain ⟨aa, acap, rfl, hac1, hac2⟩ := HP4.out.slice
        rw [hlen4] at HP4 hac1 ⊢
        have ht4 := HT.out.grow (HG2.out.trans HG4.out)
        have b0 := ht4.c0
        have b1 := ht4.c1
        have b2 := ht4.c2
        have hlt := ht4.lt
        have HCE := Lib.hid (HER.out w4 (HG2.out.trans HG4.out) k hkm (HV2.out.grow HG4.out))
        clear ht4 hlen4
        go_wp2_with fail
        refine HCE.out.mono ?_
        rintro e w5 ⟨⟨ea, ec, rfl, hb5⟩, g5⟩
        have HB5 := Lib.hid hb5
        have HG5 := Lib.hid (HG4.out.trans g5)
        have HP5 := Lib.hid (HP4.out.grow g5)
        obtain ⟨ag, hag, hagb, hagl, hagc, hagf, _⟩ := HP5.out.at (j := k) (by rw [HLEN.out]; omega)
        subst hag
        have HPE := Lib.hid (HP5.out.put (k := k) HLEN.out HB5.out (by decide))
        have HEE := Lib.hid (HEB.out.next (u := ⟨ea, ec, erV zs ps q xs ys k⟩) hkp rfl)
        have HGE : Hid (Grew W1 (w5.setCell ⟨ag, k, none⟩ (.slice ea (sz zs k) ec))) := Lib.hid (HG5.out.setCell (p := ⟨ag, k, none⟩) hagb _)
        clear hb5 g5 b0 b1 b2 hlt
        go_wp2
        go_roundw
        case rel => exact ⟨k + 1, _, by omega, by go_num, HPE, HEE, HGE⟩
        case measure => simp [intOf]; omega
    · obtain rfl : k = N := by omega
      obtain ⟨aa, acap, rfl, hac1, hac2⟩ := HPl.out.slice
      rw [HEB.out.1] at HPl hac1 ⊢
      have hmk : ¬ k ≤ m := by have := HNM.out; omega
      have hER := errs_done HPl.out (by rw [HM.out, HNM.out]; exact HEB.out) HP.out.right
      obtain ⟨ag, hag, _, hagl, _⟩ := HPl.out.at (j := 0) (by rw [HEB.out.1]; have := HNM.out; omega)
      subst hag
      have HERR := Lib.hid hER
      clear hER HPl
      go_wp2_with fail
      refine (HLA.out _).mono ?_
      rintro e w3 ⟨rfl, g3⟩
      have HERR3 := Lib.hid (HERR.out.grow g3)
      have HG3 := Lib.hid (HGW.out.trans g3)
      have HV3 := Lib.hid (HV2.out.grow (HGr.out.trans g3))
      have HTR3 := Lib.hid (HTR2.out.grow (HGr.out.trans g3))
      clear g3 b0 b1 b2 hlt HERR
      go_wp2
      rename World => W2
      go_loopw [11, 12] (fun ov iv wr => ∃ i : Nat, i ≤ nP zs ∧ iv = .int .i64 i ∧ Hid (wr.ownsRow W2.heap.size 2 1 ov i (((List.range i).map fun i : Nat => grE zs ps q xs ys i).map (Value.int .i64))) ∧ Hid (Grew W2 wr)) (fun _ iv _ => nP zs - (intOf iv).toNat)
      case atStart => exact ⟨0, Nat.zero_le _, rfl, Lib.hid (World.ownsRow_nil _ _ _ _), Lib.hid (Grew.refl _)⟩
      case round =>
        obtain ⟨i, hi', rfl, HL, HGw⟩ := hrel
        by_cases hin : i < nP zs
        · have hok := HP.out.right.2.2.1
          have hcn := nP_eq hok
          obtain ⟨kk, rr, cc, hAt⟩ := at_ex (i := (i : Int)) hok (by omega) (by omega)
          have hkl := hAt.1
          have hlz := (lnk_in HP.out.right).2.2
          have hse0 := sz_eq hok (k := kk) (by omega)
          have hse1 := sz_eq hok (k := kk + 1) (by omega)
          have hrr : rr < sz zs (kk + 1) := by have := hAt.2.1; omega
          obtain ⟨tb, tof, rfl, htb, ht0, ht1, ht2⟩ := (HTR3.out.grow HGw.out).at (k := i) (by rw [pls_len]; exact hin)
          have htp : tr (pls zs (nP zs)) i = ((kk : Int), (rr : Int), cc) := by rw [pls_at hin]; exact at_plT hok hAt
          rw [htp] at ht0 ht1 ht2
          dsimp only at ht0 ht1 ht2
          have hkm : kk < m := by rw [← HM.out]; exact hkl
          have gP : Grew wr (wr.alloc (.cells #[.int .i64 (kk : Int), .int .i64 (rr : Int), .int .i64 cc] 76)) := (Grew.refl _).alloc _
          have HTP := Lib.hid (Three.new wr 76 (.int .i64 (kk : Int)) (.int .i64 (rr : Int)) (.int .i64 cc))
          have HLP := Lib.hid (own_grow HL.out gP)
          have HGP := Lib.hid (HGw.out.trans gP)
          have HMP := Lib.hid (map_part (f := fun i : Nat => grE zs ps q xs ys i) (r := i))
          have hcap0 : i < tc := by omega
          clear gP hlz hcn htp hse0 hse1
          go_wp2_with fail
          generalize wr.alloc (.cells #[.int .i64 (kk : Int), .int .i64 (rr : Int), .int .i64 cc] 76) = wp at *
          generalize hLp : wr.heap.size = Lp at *
          have hwW : W2.heap.size ≤ wr.heap.size := HGw.out.size
          clear ht0 ht1 ht2
          have p0 := HTP.out.c0
          have p1 := HTP.out.c1
          have p2 := HTP.out.c2
          have hpl := HTP.out.lt
          obtain ⟨hag1, hea, her⟩ := errs_at (HERR3.out.grow HGP.out) (j := kk + 1) (by omega) (by omega)
          obtain ⟨eb, eo, hee, heb, hec⟩ := her.at (k := rr) (by rw [erV_len (by omega)]; exact hrr)
          rw [hee] at hea
          generalize (va es (kk + 1)).cap = ec at *
          have hwk : IntKind.i64.wrap ((kk : Int) + 1) = (kk : Int) + 1 := IntWalk.i64_in _ (by omega)
          have h0k : (0 : Int) ≤ (kk : Int) + 1 := by omega
          have h1k : (kk : Int) + 1 < (k : Int) := by have := HNM.out; omega
          have htk : ((kk : Int) + 1).toNat = kk + 1 := by omega
          have hrri : (rr : Int) < (sz zs (kk + 1) : Int) := by omega
          have HDE : Hid (In64 (el (erV zs ps q xs ys (kk + 1)) rr)) := Lib.hid (el_in (erV_fit (by omega)) _)
          by_cases hc0 : 0 ≤ cc
          · obtain ⟨c, rfl⟩ : ∃ c : Nat, cc = (c : Int) := ⟨cc.toNat, by omega⟩
            have hcs : c < sz zs kk := by
              have h9 := sz_eq hok (k := kk) (by have := (lnk_in HP.out.right).2.2; omega)
              rcases hAt.2.2 with h | h
              · omega
              · omega
            have HGE := Lib.hid (grE_w (zs := zs) (ps := ps) (q := q) (x := xs) (y := ys) hok hAt)
            obtain ⟨hb, off, rfl, hhb, hcap, hvc, hvr⟩ := vals_at (HV3.out.grow HGP.out) HXL.out (j := kk) (by omega)
            obtain ⟨vb, vo, hvv, hvb, hve⟩ := hvr.at (k := c) (by rw [trV_len HXL.out]; exact hcs)
            rw [hvv] at hvc
            generalize (va vs kk).cap = vc at *
            have HVE : Hid (In64 (el (trV zs ps q xs kk) c)) := Lib.hid (el_in (trV_fit HXF.out _) _)
            have hcsi : (c : Int) < (sz zs kk : Int) := by omega
            have hkk : (kk : Int) < (k : Int) := by omega
            have hbx := (HT.out.grow (HG3.out.trans HGP.out)).c2
            have hbxl := (HT.out.grow (HG3.out.trans HGP.out)).lt
            generalize el (erV zs ps q xs ys (kk + 1)) rr = dv at *
            generalize el (trV zs ps q xs kk) c = vv at *
            clear hAt hvr her hee hvv hok hkl
            refine wp_region_held_drew (S := (fun W' => W'.cell? ⟨Lp, 0, none⟩ = some (.int .i64 (kk : Int)) ∧ W'.cell? ⟨Lp, 1, none⟩ = some (.int .i64 (rr : Int)) ∧ W'.cell? ⟨ag, kk + 1, none⟩ = some (.slice (some ⟨eb, eo, none⟩) (sz zs (kk + 1)) ec) ∧ W'.cell? ⟨eb, eo + rr, none⟩ = some (.int .i64 dv))) (by kernel_rfl) ⟨p0, p1, hea, hec⟩ (fun hHeld => ?_)
            refine wpAnyH_take (i := 0) (oi := { dst := some 50, op := Go.Op.move (Go.Operand.tmp 9), type := 40, pos := _, after := #[], guard := none }) (v := ?v1) rfl (by kernel_rfl) (by kernel_rfl) (by kernel_rfl) (fun _ _ _ h => h) (Or.inl ⟨by kernel_rfl, ?hy1⟩) (by assumption) ?_
            case hy1 => intro w hSw; (try dsimp only at hSw); first | (go_simp; done) | (go_simp; with_reducible rfl)
            (try simp only [Act.put, List.setIfInBounds_toArray, List.set_cons_zero, List.set_cons_succ])
            refine wpAnyH_take (i := 1) (oi := { dst := some 51, op := Go.Op.fieldAddr 76 (Go.Operand.tmp 13) 0, type := 0, pos := _, after := #[], guard := none }) (v := ?v2) rfl (by kernel_rfl) (by kernel_rfl) (by kernel_rfl) (fun _ _ _ h => h) (Or.inl ⟨by kernel_rfl, ?hy2⟩) (by assumption) ?_
            case hy2 => intro w hSw; (try dsimp only at hSw); first | (go_simp; done) | (go_simp; with_reducible rfl)
            (try simp only [Act.put, List.setIfInBounds_toArray, List.set_cons_zero, List.set_cons_succ])
            refine wpAnyH_take (i := 2) (oi := { dst := some 52, op := Go.Op.load 3 (Go.Operand.tmp 51), type := 3, pos := _, after := #[{ on := 1, ground := Go.Ground.data }], guard := none }) (v := ?v3) rfl (by kernel_rfl) (by kernel_rfl) (by kernel_rfl) (fun _ _ _ h => h) (Or.inl ⟨by kernel_rfl, ?hy3⟩) (by assumption) ?_
            case hy3 => intro w hSw; (try dsimp only at hSw); first | (go_simp; done) | (go_simp; with_reducible rfl)
            (try simp only [Act.put, List.setIfInBounds_toArray, List.set_cons_zero, List.set_cons_succ])
            refine wpAnyH_take (i := 3) (oi := { dst := some 53, op := Go.Op.binOp Go.BinOp.add 3 (Go.Operand.tmp 52) (Go.Operand.const (Go.Value.int Go.IntKind.i64 1)) 3, type := 3, pos := _, after := #[{ on := 2, ground := Go.Ground.data }], guard := none }) (v := ?v4) rfl (by kernel_rfl) (by kernel_rfl) (by kernel_rfl) (fun _ _ _ h => h) (Or.inl ⟨by kernel_rfl, ?hy4⟩) (by assumption) ?_
            case hy4 => intro w hSw; (try dsimp only at hSw); first | (go_simp; done) | (go_simp; with_reducible rfl)
            (try simp only [Act.put, List.setIfInBounds_toArray, List.set_cons_zero, List.set_cons_succ])
            refine wpAnyH_take (i := 4) (oi := { dst := some 54, op := Go.Op.indexAddr 40 (Go.Operand.tmp 50) (Go.Operand.tmp 53), type := 0, pos := _, after := #[{ on := 0, ground := Go.Ground.data }, { on := 3, ground := Go.Ground.data }], guard := none }) (v := ?v5) rfl (by kernel_rfl) (by kernel_rfl) (by kernel_rfl) (fun _ _ _ h => h) (Or.inl ⟨by kernel_rfl, ?hy5⟩) (by assumption) ?_
            case hy5 => intro w hSw; (try dsimp only at hSw); first | (go_simp; done) | (go_simp; with_reducible rfl)
            (try simp only [Act.put, List.setIfInBounds_toArray, List.set_cons_zero, List.set_cons_succ])
            refine wpAnyH_take (i := 5) (oi := { dst := some 55, op := Go.Op.load 23 (Go.Operand.tmp 54), type := 23, pos := _, after := #[{ on := 4, ground := Go.Ground.data }], guard := none }) (v := ?v6) rfl (by kernel_rfl) (by kernel_rfl) (by kernel_rfl) (fun _ _ _ h => h) (Or.inl ⟨by kernel_rfl, ?hy6⟩) (by assumption) ?_
            case hy6 => intro w hSw; (try dsimp only at hSw); first | (go_simp; done) | (go_simp; with_reducible rfl)
            (try simp only [Act.put, List.setIfInBounds_toArray, List.set_cons_zero, List.set_cons_succ])
            refine wpAnyH_take (i := 6) (oi := { dst := some 56, op := Go.Op.fieldAddr 76 (Go.Operand.tmp 13) 1, type := 0, pos := _, after := #[], guard := none }) (v := ?v7) rfl (by kernel_rfl) (by kernel_rfl) (by kernel_rfl) (fun _ _ _ h => h) (Or.inl ⟨by kernel_rfl, ?hy7⟩) (by assumption) ?_
            case hy7 => intro w hSw; (try dsimp only at hSw); first | (go_simp; done) | (go_simp; with_reducible rfl)
            (try simp only [Act.put, List.setIfInBounds_toArray, List.set_cons_zero, List.set_cons_succ])
            refine wpAnyH_take (i := 7) (oi := { dst := some 57, op := Go.Op.load 3 (Go.Operand.tmp 56), type := 3, pos := _, after := #[{ on := 6, ground := Go.Ground.data }], guard := none }) (v := ?v8) rfl (by kernel_rfl) (by kernel_rfl) (by kernel_rfl) (fun _ _ _ h => h) (Or.inl ⟨by kernel_rfl, ?hy8⟩) (by assumption) ?_
            case hy8 => intro w hSw; (try dsimp only at hSw); first | (go_simp; done) | (go_simp; with_reducible rfl)
            (try simp only [Act.put, List.setIfInBounds_toArray, List.set_cons_zero, List.set_cons_succ])
            refine wpAnyH_take (i := 8) (oi := { dst := some 58, op := Go.Op.indexAddr 23 (Go.Operand.tmp 55) (Go.Operand.tmp 57), type := 0, pos := _, after := #[{ on := 5, ground := Go.Ground.data }, { on := 7, ground := Go.Ground.data }], guard := none }) (v := ?v9) rfl (by kernel_rfl) (by kernel_rfl) (by kernel_rfl) (fun _ _ _ h => h) (Or.inl ⟨by kernel_rfl, ?hy9⟩) (by assumption) ?_
            case hy9 => intro w hSw; (try dsimp only at hSw); first | (go_simp; done) | (go_simp; with_reducible rfl)
            (try simp only [Act.put, List.setIfInBounds_toArray, List.set_cons_zero, List.set_cons_succ])
            refine wpAnyH_take (i := 9) (oi := { dst := some 59, op := Go.Op.load 2 (Go.Operand.tmp 58), type := 2, pos := _, after := #[{ on := 8, ground := Go.Ground.data }], guard := none }) (v := ?v10) rfl (by kernel_rfl) (by kernel_rfl) (by kernel_rfl) (fun _ _ _ h => h) (Or.inl ⟨by kernel_rfl, ?hy10⟩) (by assumption) ?_
            case hy10 => intro w hSw; (try dsimp only at hSw); first | (go_simp; done) | (go_simp; with_reducible rfl)
            (try simp only [Act.put, List.setIfInBounds_toArray, List.set_cons_zero, List.set_cons_succ])
            refine wpAnyH_take (i := 10) (oi := { dst := some 14, op := Go.Op.assign (Go.Operand.tmp 59), type := 2, pos := _, after := #[{ on := 9, ground := Go.Ground.data }, { on := 0, ground := Go.Ground.phase }, { on := 1, ground := Go.Ground.phase }, { on := 2, ground := Go.Ground.phase }, { on := 3, ground := Go.Ground.phase }, { on := 4, ground := Go.Ground.phase }, { on := 5, ground := Go.Ground.phase }, { on := 6, ground := Go.Ground.phase }, { on := 7, ground := Go.Ground.phase }, { on := 8, ground := Go.Ground.phase }, { on := 9, ground := Go.Ground.phase }], guard := none }) (v := ?v11) rfl (by kernel_rfl) (by kernel_rfl) (by kernel_rfl) (fun _ _ _ h => h) (Or.inl ⟨by kernel_rfl, ?hy11⟩) (by assumption) ?_
            case hy11 => intro w hSw; (try dsimp only at hSw); first | (go_simp; done) | (go_simp; with_reducible rfl)
            (try simp only [Act.put, List.setIfInBounds_toArray, List.set_cons_zero, List.set_cons_succ])
            refine wpAnyH_done (by kernel_rfl) ?_ _
            clear hHeld
            have HLQ := Lib.hid (own_grow HLP.out (Grew.drew' (Grew.refl wp)))
            have HGQ : Hid (Grew W2 wp.drew) := Lib.hid (Grew.drew' HGP.out)
            have HTQ := Lib.hid (HTP.out.grow (Grew.drew' (Grew.refl wp)))
            have HC1 : Hid (wp.drew.cell? ⟨hb, off + kk, none⟩ = some (.slice (some ⟨vb, vo, none⟩) (sz zs kk) vc)) := Lib.hid hvc
            have HC2 : Hid (wp.drew.cell? ⟨vb, vo + c, none⟩ = some (.int .i64 vv)) := Lib.hid hve
            have HC3 : Hid (wp.drew.cell? ⟨L, 2, none⟩ = some (.int .i64 q)) := Lib.hid hbx
            clear p0 p1 p2 hpl hea hec hvc hve hbx hbxl
            generalize wp.drew = wq at *
            have p0 := HTQ.out.c0
            have p2 := HTQ.out.c2
            have hpl := HTQ.out.lt
            go_wp2_with fail
            have hvc := HC1.out
            have hve := HC2.out
            have hbx := HC3.out
            refine wp_region_held_drew (S := (fun W' => W'.cell? ⟨Lp, 0, none⟩ = some (.int .i64 (kk : Int)) ∧ W'.cell? ⟨Lp, 2, none⟩ = some (.int .i64 (c : Int)) ∧ W'.cell? ⟨hb, off + kk, none⟩ = some (.slice (some ⟨vb, vo, none⟩) (sz zs kk) vc) ∧ W'.cell? ⟨vb, vo + c, none⟩ = some (.int .i64 vv) ∧ W'.cell? ⟨L, 2, none⟩ = some (.int .i64 q))) (by kernel_rfl) ⟨p0, p2, hvc, hve, hbx⟩ (fun hHeld => ?_)
            refine wpAnyH_take (i := 0) (oi := { dst := some 63, op := Go.Op.move (Go.Operand.tmp 14), type := 2, pos := _, after := #[], guard := none }) (v := ?v12) rfl (by kernel_rfl) (by kernel_rfl) (by kernel_rfl) (fun _ _ _ h => h) (Or.inl ⟨by kernel_rfl, ?hy12⟩) (by assumption) ?_
            case hy12 => intro w hSw; (try dsimp only at hSw); first | (go_simp; done) | (go_simp; with_reducible rfl)
            (try simp only [Act.put, List.setIfInBounds_toArray, List.set_cons_zero, List.set_cons_succ])
            refine wpAnyH_take (i := 1) (oi := { dst := some 64, op := Go.Op.move (Go.Operand.tmp 7), type := 40, pos := _, after := #[], guard := none }) (v := ?v13) rfl (by kernel_rfl) (by kernel_rfl) (by kernel_rfl) (fun _ _ _ h => h) (Or.inl ⟨by kernel_rfl, ?hy13⟩) (by assumption) ?_
            case hy13 => intro w hSw; (try dsimp only at hSw); first | (go_simp; done) | (go_simp; with_reducible rfl)
            (try simp only [Act.put, List.setIfInBounds_toArray, List.set_cons_zero, List.set_cons_succ])
            refine wpAnyH_take (i := 2) (oi := { dst := some 65, op := Go.Op.fieldAddr 76 (Go.Operand.tmp 13) 0, type := 0, pos := _, after := #[], guard := none }) (v := ?v14) rfl (by kernel_rfl) (by kernel_rfl) (by kernel_rfl) (fun _ _ _ h => h) (Or.inl ⟨by kernel_rfl, ?hy14⟩) (by assumption) ?_
            case hy14 => intro w hSw; (try dsimp only at hSw); first | (go_simp; done) | (go_simp; with_reducible rfl)
            (try simp only [Act.put, List.setIfInBounds_toArray, List.set_cons_zero, List.set_cons_succ])
            refine wpAnyH_take (i := 3) (oi := { dst := some 66, op := Go.Op.load 3 (Go.Operand.tmp 65), type := 3, pos := _, after := #[{ on := 2, ground := Go.Ground.data }], guard := none }) (v := ?v15) rfl (by kernel_rfl) (by kernel_rfl) (by kernel_rfl) (fun _ _ _ h => h) (Or.inl ⟨by kernel_rfl, ?hy15⟩) (by assumption) ?_
            case hy15 => intro w hSw; (try dsimp only at hSw); first | (go_simp; done) | (go_simp; with_reducible rfl)
            (try simp only [Act.put, List.setIfInBounds_toArray, List.set_cons_zero, List.set_cons_succ])
            refine wpAnyH_take (i := 4) (oi := { dst := some 67, op := Go.Op.indexAddr 40 (Go.Operand.tmp 64) (Go.Operand.tmp 66), type := 0, pos := _, after := #[{ on := 1, ground := Go.Ground.data }, { on := 3, ground := Go.Ground.data }], guard := none }) (v := ?v16) rfl (by kernel_rfl) (by kernel_rfl) (by kernel_rfl) (fun _ _ _ h => h) (Or.inl ⟨by kernel_rfl, ?hy16⟩) (by assumption) ?_
            case hy16 => intro w hSw; (try dsimp only at hSw); first | (go_simp; done) | (go_simp; with_reducible rfl)
            (try simp only [Act.put, List.setIfInBounds_toArray, List.set_cons_zero, List.set_cons_succ])
            refine wpAnyH_take (i := 5) (oi := { dst := some 68, op := Go.Op.load 23 (Go.Operand.tmp 67), type := 23, pos := _, after := #[{ on := 4, ground := Go.Ground.data }], guard := none }) (v := ?v17) rfl (by kernel_rfl) (by kernel_rfl) (by kernel_rfl) (fun _ _ _ h => h) (Or.inl ⟨by kernel_rfl, ?hy17⟩) (by assumption) ?_
            case hy17 => intro w hSw; (try dsimp only at hSw); first | (go_simp; done) | (go_simp; with_reducible rfl)
            (try simp only [Act.put, List.setIfInBounds_toArray, List.set_cons_zero, List.set_cons_succ])
            refine wpAnyH_take (i := 6) (oi := { dst := some 69, op := Go.Op.fieldAddr 76 (Go.Operand.tmp 13) 2, type := 0, pos := _, after := #[], guard := none }) (v := ?v18) rfl (by kernel_rfl) (by kernel_rfl) (by kernel_rfl) (fun _ _ _ h => h) (Or.inl ⟨by kernel_rfl, ?hy18⟩) (by assumption) ?_
            case hy18 => intro w hSw; (try dsimp only at hSw); first | (go_simp; done) | (go_simp; with_reducible rfl)
            (try simp only [Act.put, List.setIfInBounds_toArray, List.set_cons_zero, List.set_cons_succ])
            refine wpAnyH_take (i := 7) (oi := { dst := some 70, op := Go.Op.load 3 (Go.Operand.tmp 69), type := 3, pos := _, after := #[{ on := 6, ground := Go.Ground.data }], guard := none }) (v := ?v19) rfl (by kernel_rfl) (by kernel_rfl) (by kernel_rfl) (fun _ _ _ h => h) (Or.inl ⟨by kernel_rfl, ?hy19⟩) (by assumption) ?_
            case hy19 => intro w hSw; (try dsimp only at hSw); first | (go_simp; done) | (go_simp; with_reducible rfl)
            (try simp only [Act.put, List.setIfInBounds_toArray, List.set_cons_zero, List.set_cons_succ])
            refine wpAnyH_take (i := 8) (oi := { dst := some 71, op := Go.Op.indexAddr 23 (Go.Operand.tmp 68) (Go.Operand.tmp 70), type := 0, pos := _, after := #[{ on := 5, ground := Go.Ground.data }, { on := 7, ground := Go.Ground.data }], guard := none }) (v := ?v20) rfl (by kernel_rfl) (by kernel_rfl) (by kernel_rfl) (fun _ _ _ h => h) (Or.inl ⟨by kernel_rfl, ?hy20⟩) (by assumption) ?_
            case hy20 => intro w hSw; (try dsimp only at hSw); first | (go_simp; done) | (go_simp; with_reducible rfl)
            (try simp only [Act.put, List.setIfInBounds_toArray, List.set_cons_zero, List.set_cons_succ])
            refine wpAnyH_take (i := 9) (oi := { dst := some 72, op := Go.Op.load 2 (Go.Operand.tmp 71), type := 2, pos := _, after := #[{ on := 8, ground := Go.Ground.data }], guard := none }) (v := ?v21) rfl (by kernel_rfl) (by kernel_rfl) (by kernel_rfl) (fun _ _ _ h => h) (Or.inl ⟨by kernel_rfl, ?hy21⟩) (by assumption) ?_
            case hy21 => intro w hSw; (try dsimp only at hSw); first | (go_simp; done) | (go_simp; with_reducible rfl)
            (try simp only [Act.put, List.setIfInBounds_toArray, List.set_cons_zero, List.set_cons_succ])
            refine wpAnyH_take (i := 10) (oi := { dst := some 73, op := Go.Op.fieldAddr 25 (Go.Operand.tmp 3) 2, type := 0, pos := _, after := #[], guard := none }) (v := ?v22) rfl (by kernel_rfl) (by kernel_rfl) (by kernel_rfl) (fun _ _ _ h => h) (Or.inl ⟨by kernel_rfl, ?hy22⟩) (by assumption) ?_
            case hy22 => intro w hSw; (try dsimp only at hSw); first | (go_simp; done) | (go_simp; with_reducible rfl)
            (try simp only [Act.put, List.setIfInBounds_toArray, List.set_cons_zero, List.set_cons_succ])
            refine wpAnyH_take (i := 11) (oi := { dst := some 74, op := Go.Op.load 3 (Go.Operand.tmp 73), type := 3, pos := _, after := #[{ on := 10, ground := Go.Ground.data }], guard := none }) (v := ?v23) rfl (by kernel_rfl) (by kernel_rfl) (by kernel_rfl) (fun _ _ _ h => h) (Or.inl ⟨by kernel_rfl, ?hy23⟩) (by assumption) ?_
            case hy23 => intro w hSw; (try dsimp only at hSw); first | (go_simp; done) | (go_simp; with_reducible rfl)
            (try simp only [Act.put, List.setIfInBounds_toArray, List.set_cons_zero, List.set_cons_succ])
            refine wpAnyH_ready (rs := [12]) (by kernel_rfl) (by simp) ?_
            refine AllReadyH.cons (o := { dst := some 75, op := Go.Op.call { callee := Go.Callee.value (Go.Operand.func 41), args := #[Go.Operand.tmp 63, Go.Operand.tmp 72, Go.Operand.tmp 74], argTypes := #[2, 2, 3] }, type := 2, pos := _, after := #[{ on := 0, ground := Go.Ground.data }, { on := 9, ground := Go.Ground.data }, { on := 11, ground := Go.Ground.data }], guard := none }) rfl (fun K hK => ?_) AllReadyH.nil
            go_simp
            (go_at_call 41; refine (rmul_any dv vv q _ HDE.out.1 HDE.out.2 HVE.out.1 HVE.out.2).mono ?_; rintro e w6 ⟨rfl, rfl⟩; generalize mulV dv vv q = M at *)
            (try go_wp2_with fail)
            refine hK.out _ _ ?hS25 (fun hHeld => ?_)
            case hS25 => (try dsimp only); exact hHeld
            clear hK K
            (try simp only [Act.put, List.setIfInBounds_toArray, List.set_cons_zero, List.set_cons_succ])
            refine wpAnyH_take (i := 13) (oi := { dst := some 14, op := Go.Op.assign (Go.Operand.tmp 75), type := 2, pos := _, after := #[{ on := 12, ground := Go.Ground.data }, { on := 12, ground := Go.Ground.chain }, { on := 0, ground := Go.Ground.phase }, { on := 1, ground := Go.Ground.phase }, { on := 2, ground := Go.Ground.phase }, { on := 3, ground := Go.Ground.phase }, { on := 4, ground := Go.Ground.phase }, { on := 5, ground := Go.Ground.phase }, { on := 6, ground := Go.Ground.phase }, { on := 7, ground := Go.Ground.phase }, { on := 8, ground := Go.Ground.phase }, { on := 9, ground := Go.Ground.phase }, { on := 10, ground := Go.Ground.phase }, { on := 11, ground := Go.Ground.phase }, { on := 12, ground := Go.Ground.phase }], guard := none }) (v := ?v26) rfl (by kernel_rfl) (by kernel_rfl) (by kernel_rfl) (fun _ _ _ h => h) (Or.inl ⟨by kernel_rfl, ?hy26⟩) (by assumption) ?_
            case hy26 => intro w hSw; (try dsimp only at hSw); first | (go_simp; done) | (go_simp; with_reducible rfl)
            (try simp only [Act.put, List.setIfInBounds_toArray, List.set_cons_zero, List.set_cons_succ])
            refine wpAnyH_done (by kernel_rfl) ?_ _
            clear hHeld
            have HLD := Lib.hid (own_grow HLQ.out (Grew.drew' (Grew.refl wq)))
            have HGD : Hid (Grew W2 wq.drew) := Lib.hid (Grew.drew' HGQ.out)
            clear p0 p2 hpl hvc hve hbx
            generalize wq.drew = wd at *
            go_wp2_with (at_builtin; refine wpList_append_own _ rfl _ _ 23 rfl W2.heap.size 2 i1 (.int .i64 0) 1 8 Try.underlying23 hi1 hy0 hy1 hy2 rfl (by decide) _ i _ rfl (HLD.out.alloc _) ⟨wd.heap.size, 0, none⟩ 1 1 [.int .i64 (M)] rfl rfl (cell_one_at wd _ _) (by intro u hu; simp only [List.mem_singleton] at hu; subst hu; rfl) (by unfold maxLen; omega) (by omega) (by have := HGD.out.size; simp; omega) ?_)
            intro v' w8 hown hgrow hnil
            have HL8 : Hid (w8.ownsRow W2.heap.size 2 1 v' (i + 1) (((List.range (i + 1)).map fun i : Nat => grE zs ps q xs ys i).map (Value.int .i64))) := Lib.hid (by rw [HMP.out, List.map_append, HGE.out]; simpa using hown)
            have HG8 : Hid (Grew W2 w8) := Lib.hid (Below.grown (HGD.out.alloc _) hgrow (by have := HGD.out.size; simp; omega) (fun j hj => (World.ownsRow.lt HLD.out j hj).1))
            clear hown hgrow hnil
            go_wp2
            go_roundw
            case rel => exact ⟨i + 1, by omega, by go_num, HL8, HG8⟩
            case measure => simp [intOf]; omega
          · obtain rfl : cc = -1 := by have := at_low hAt; omega
            have HGE := Lib.hid (grE_b (zs := zs) (ps := ps) (q := q) (x := xs) (y := ys) hok hAt)
            generalize el (erV zs ps q xs ys (kk + 1)) rr = dv at *
            clear hAt her hee hok hkl
            refine wp_region_held_drew (S := (fun W' => W'.cell? ⟨Lp, 0, none⟩ = some (.int .i64 (kk : Int)) ∧ W'.cell? ⟨Lp, 1, none⟩ = some (.int .i64 (rr : Int)) ∧ W'.cell? ⟨ag, kk + 1, none⟩ = some (.slice (some ⟨eb, eo, none⟩) (sz zs (kk + 1)) ec) ∧ W'.cell? ⟨eb, eo + rr, none⟩ = some (.int .i64 dv))) (by kernel_rfl) ⟨p0, p1, hea, hec⟩ (fun hHeld => ?_)
            refine wpAnyH_take (i := 0) (oi := { dst := some 50, op := Go.Op.move (Go.Operand.tmp 9), type := 40, pos := _, after := #[], guard := none }) (v := ?v27) rfl (by kernel_rfl) (by kernel_rfl) (by kernel_rfl) (fun _ _ _ h => h) (Or.inl ⟨by kernel_rfl, ?hy27⟩) (by assumption) ?_
            case hy27 => intro w hSw; (try dsimp only at hSw); first | (go_simp; done) | (go_simp; with_reducible rfl)
            (try simp only [Act.put, List.setIfInBounds_toArray, List.set_cons_zero, List.set_cons_succ])
            refine wpAnyH_take (i := 1) (oi := { dst := some 51, op := Go.Op.fieldAddr 76 (Go.Operand.tmp 13) 0, type := 0, pos := _, after := #[], guard := none }) (v := ?v28) rfl (by kernel_rfl) (by kernel_rfl) (by kernel_rfl) (fun _ _ _ h => h) (Or.inl ⟨by kernel_rfl, ?hy28⟩) (by assumption) ?_
            case hy28 => intro w hSw; (try dsimp only at hSw); first | (go_simp; done) | (go_simp; with_reducible rfl)
            (try simp only [Act.put, List.setIfInBounds_toArray, List.set_cons_zero, List.set_cons_succ])
            refine wpAnyH_take (i := 2) (oi := { dst := some 52, op := Go.Op.load 3 (Go.Operand.tmp 51), type := 3, pos := _, after := #[{ on := 1, ground := Go.Ground.data }], guard := none }) (v := ?v29) rfl (by kernel_rfl) (by kernel_rfl) (by kernel_rfl) (fun _ _ _ h => h) (Or.inl ⟨by kernel_rfl, ?hy29⟩) (by assumption) ?_
            case hy29 => intro w hSw; (try dsimp only at hSw); first | (go_simp; done) | (go_simp; with_reducible rfl)
            (try simp only [Act.put, List.setIfInBounds_toArray, List.set_cons_zero, List.set_cons_succ])
            refine wpAnyH_take (i := 3) (oi := { dst := some 53, op := Go.Op.binOp Go.BinOp.add 3 (Go.Operand.tmp 52) (Go.Operand.const (Go.Value.int Go.IntKind.i64 1)) 3, type := 3, pos := _, after := #[{ on := 2, ground := Go.Ground.data }], guard := none }) (v := ?v30) rfl (by kernel_rfl) (by kernel_rfl) (by kernel_rfl) (fun _ _ _ h => h) (Or.inl ⟨by kernel_rfl, ?hy30⟩) (by assumption) ?_
            case hy30 => intro w hSw; (try dsimp only at hSw); first | (go_simp; done) | (go_simp; with_reducible rfl)
            (try simp only [Act.put, List.setIfInBounds_toArray, List.set_cons_zero, List.set_cons_succ])
            refine wpAnyH_take (i := 4) (oi := { dst := some 54, op := Go.Op.indexAddr 40 (Go.Operand.tmp 50) (Go.Operand.tmp 53), type := 0, pos := _, after := #[{ on := 0, ground := Go.Ground.data }, { on := 3, ground := Go.Ground.data }], guard := none }) (v := ?v31) rfl (by kernel_rfl) (by kernel_rfl) (by kernel_rfl) (fun _ _ _ h => h) (Or.inl ⟨by kernel_rfl, ?hy31⟩) (by assumption) ?_
            case hy31 => intro w hSw; (try dsimp only at hSw); first | (go_simp; done) | (go_simp; with_reducible rfl)
            (try simp only [Act.put, List.setIfInBounds_toArray, List.set_cons_zero, List.set_cons_succ])
            refine wpAnyH_take (i := 5) (oi := { dst := some 55, op := Go.Op.load 23 (Go.Operand.tmp 54), type := 23, pos := _, after := #[{ on := 4, ground := Go.Ground.data }], guard := none }) (v := ?v32) rfl (by kernel_rfl) (by kernel_rfl) (by kernel_rfl) (fun _ _ _ h => h) (Or.inl ⟨by kernel_rfl, ?hy32⟩) (by assumption) ?_
            case hy32 => intro w hSw; (try dsimp only at hSw); first | (go_simp; done) | (go_simp; with_reducible rfl)
            (try simp only [Act.put, List.setIfInBounds_toArray, List.set_cons_zero, List.set_cons_succ])
            refine wpAnyH_take (i := 6) (oi := { dst := some 56, op := Go.Op.fieldAddr 76 (Go.Operand.tmp 13) 1, type := 0, pos := _, after := #[], guard := none }) (v := ?v33) rfl (by kernel_rfl) (by kernel_rfl) (by kernel_rfl) (fun _ _ _ h => h) (Or.inl ⟨by kernel_rfl, ?hy33⟩) (by assumption) ?_
            case hy33 => intro w hSw; (try dsimp only at hSw); first | (go_simp; done) | (go_simp; with_reducible rfl)
            (try simp only [Act.put, List.setIfInBounds_toArray, List.set_cons_zero, List.set_cons_succ])
            refine wpAnyH_take (i := 7) (oi := { dst := some 57, op := Go.Op.load 3 (Go.Operand.tmp 56), type := 3, pos := _, after := #[{ on := 6, ground := Go.Ground.data }], guard := none }) (v := ?v34) rfl (by kernel_rfl) (by kernel_rfl) (by kernel_rfl) (fun _ _ _ h => h) (Or.inl ⟨by kernel_rfl, ?hy34⟩) (by assumption) ?_
            case hy34 => intro w hSw; (try dsimp only at hSw); first | (go_simp; done) | (go_simp; with_reducible rfl)
            (try simp only [Act.put, List.setIfInBounds_toArray, List.set_cons_zero, List.set_cons_succ])
            refine wpAnyH_take (i := 8) (oi := { dst := some 58, op := Go.Op.indexAddr 23 (Go.Operand.tmp 55) (Go.Operand.tmp 57), type := 0, pos := _, after := #[{ on := 5, ground := Go.Ground.data }, { on := 7, ground := Go.Ground.data }], guard := none }) (v := ?v35) rfl (by kernel_rfl) (by kernel_rfl) (by kernel_rfl) (fun _ _ _ h => h) (Or.inl ⟨by kernel_rfl, ?hy35⟩) (by assumption) ?_
            case hy35 => intro w hSw; (try dsimp only at hSw); first | (go_simp; done) | (go_simp; with_reducible rfl)
            (try simp only [Act.put, List.setIfInBounds_toArray, List.set_cons_zero, List.set_cons_succ])
            refine wpAnyH_take (i := 9) (oi := { dst := some 59, op := Go.Op.load 2 (Go.Operand.tmp 58), type := 2, pos := _, after := #[{ on := 8, ground := Go.Ground.data }], guard := none }) (v := ?v36) rfl (by kernel_rfl) (by kernel_rfl) (by kernel_rfl) (fun _ _ _ h => h) (Or.inl ⟨by kernel_rfl, ?hy36⟩) (by assumption) ?_
            case hy36 => intro w hSw; (try dsimp only at hSw); first | (go_simp; done) | (go_simp; with_reducible rfl)
            (try simp only [Act.put, List.setIfInBounds_toArray, List.set_cons_zero, List.set_cons_succ])
            refine wpAnyH_take (i := 10) (oi := { dst := some 14, op := Go.Op.assign (Go.Operand.tmp 59), type := 2, pos := _, after := #[{ on := 9, ground := Go.Ground.data }, { on := 0, ground := Go.Ground.phase }, { on := 1, ground := Go.Ground.phase }, { on := 2, ground := Go.Ground.phase }, { on := 3, ground := Go.Ground.phase }, { on := 4, ground := Go.Ground.phase }, { on := 5, ground := Go.Ground.phase }, { on := 6, ground := Go.Ground.phase }, { on := 7, ground := Go.Ground.phase }, { on := 8, ground := Go.Ground.phase }, { on := 9, ground := Go.Ground.phase }], guard := none }) (v := ?v37) rfl (by kernel_rfl) (by kernel_rfl) (by kernel_rfl) (fun _ _ _ h => h) (Or.inl ⟨by kernel_rfl, ?hy37⟩) (by assumption) ?_
            case hy37 => intro w hSw; (try dsimp only at hSw); first | (go_simp; done) | (go_simp; with_reducible rfl)
            (try simp only [Act.put, List.setIfInBounds_toArray, List.set_cons_zero, List.set_cons_succ])
            refine wpAnyH_done (by kernel_rfl) ?_ _
            clear hHeld
            have HLD := Lib.hid (own_grow HLP.out (Grew.drew' (Grew.refl wp)))
            have HGD : Hid (Grew W2 wp.drew) := Lib.hid (Grew.drew' HGP.out)
            have HTD := Lib.hid (HTP.out.grow (Grew.drew' (Grew.refl wp)))
            clear p0 p1 p2 hpl hea hec
            generalize wp.drew = wd at *
            have p2 := HTD.out.c2
            have hpl := HTD.out.lt
            go_wp2_with (at_builtin; refine wpList_append_own _ rfl _ _ 23 rfl W2.heap.size 2 i1 (.int .i64 0) 1 8 Try.underlying23 hi1 hy0 hy1 hy2 rfl (by decide) _ i _ rfl (HLD.out.alloc _) ⟨wd.heap.size, 0, none⟩ 1 1 [.int .i64 (dv)] rfl rfl (cell_one_at wd _ _) (by intro u hu; simp only [List.mem_singleton] at hu; subst hu; rfl) (by unfold maxLen; omega) (by omega) (by have := HGD.out.size; simp; omega) ?_)
            intro v' w8 hown hgrow hnil
            have HL8 : Hid (w8.ownsRow W2.heap.size 2 1 v' (i + 1) (((List.range (i + 1)).map fun i : Nat => grE zs ps q xs ys i).map (Value.int .i64))) := Lib.hid (by rw [HMP.out, List.map_append, HGE.out]; simpa using hown)
            have HG8 : Hid (Grew W2 w8) := Lib.hid (Below.grown (HGD.out.alloc _) hgrow (by have := HGD.out.size; simp; omega) (fun j hj => (World.ownsRow.lt HLD.out j hj).1))
            clear hown hgrow hnil
            go_wp2
            go_roundw
            case rel => exact ⟨i + 1, by omega, by go_num, HL8, HG8⟩
            case measure => simp [intOf]; omega
        · obtain rfl : i = nP zs := by omega
          obtain ⟨la, lcap, rfl, hbuf⟩ := own_slice (zs := (List.range (nP zs)).map fun i : Nat => grE zs ps q xs ys i) HL.out
          have HB : Hid (Buf w.heap.size wr la (nP zs) lcap (grL zs ps q xs ys)) := Lib.hid (hbuf.mono (HG.out.trans HG3.out).size)
          have HGE := Lib.hid ((HG.out.trans HG3.out).trans HGw.out)
          clear hbuf HL
          go_wp2
          go_ret
          exact ⟨⟨_, _, rfl, by first | exact HB.out | (rw [← HL9.out]; exact HB.out)⟩, HGE.out⟩
end
end Go.Proofs.Ytciocdjpgknihaa

namespace Go.Proofs.Ytciocdjpgknihaa
open Go.RowKit Go.Shelf

section
variable {sa pa : Option Addr} {sc pc : Nat} {zs ps : List Int} {q : Int} {w : World}
set_option maxHeartbeats 1000000 in
theorem lnew_yes (hP : NetP zs ps q) (h : RN w sa sc pa pc zs ps) :
    Calls Try.prog 12 #[.agg #[.slice sa zs.length sc, .slice pa ps.length pc, .int .i64 q]] w fun e w' => (∃ nb, e = .returned (.tuple #[.pointer (some ⟨nb, 0, none⟩), .bool true]) ∧ NetM w.heap.size w' nb zs ps q) ∧ Grew w w' := by
  have gA : Grew w (w.alloc (.cells #[.slice sa zs.length sc, .slice pa ps.length pc, .int .i64 q] 25)) := (Grew.refl w).alloc _
  have HT := Lib.hid (Three.new w 25 (.slice sa zs.length sc) (.slice pa ps.length pc) (.int .i64 q))
  have HC := Lib.hid (new_ok sa sc zs (w.alloc (.cells #[.slice sa zs.length sc, .slice pa ps.length pc, .int .i64 q] 25)) rfl h.scap h.smax (codeV_ok hP.right) (h.sr.grow gA))
  have HR := Lib.hid (h.grow gA)
  have HP := Lib.hid hP
  have HG := Lib.hid gA
  have b0 := HT.out.c0
  have hlt := HT.out.lt
  clear h hP gA
  go_enter Try.func12, Try.ntmps12
  go_wp2_with fail
  refine HC.out.mono ?_
  rintro e w1 ⟨⟨b, rfl, hs⟩, g1⟩
  have HS := Lib.hid (hs.mono HG.out.size)
  have HG1 := Lib.hid (HG.out.trans g1)
  have ht := HT.out.grow g1
  clear b0 hlt
  have b1 := ht.c1
  have b2 := ht.c2
  have hlt := ht.lt
  have HR1 := Lib.hid (HR.out.grow g1)
  clear g1 ht hs
  go_wp2_with fail
  refine (nnew_yes w1 HP.out HP.out.len HG1.out.size HS.out HR1.out.pr).mono ?_
  rintro e w2 ⟨⟨nb, rfl, hn⟩, g2⟩
  have HN := Lib.hid hn
  have HG2 := Lib.hid (HG1.out.trans g2)
  clear hn g2
  go_wp2
  go_ret2
  exact ⟨⟨_, rfl, HN.out⟩, HG2.out⟩
set_option maxHeartbeats 1000000 in
theorem lnew_no (hno : rightN9 zs ps q = false) (h : RN w sa sc pa pc zs ps) :
    Calls Try.prog 12 #[.agg #[.slice sa zs.length sc, .slice pa ps.length pc, .int .i64 q]] w fun e w' => e = .returned (.tuple #[.pointer none, .bool false]) ∧ Grew w w' := by
  have gA : Grew w (w.alloc (.cells #[.slice sa zs.length sc, .slice pa ps.length pc, .int .i64 q] 25)) := (Grew.refl w).alloc _
  have HT := Lib.hid (Three.new w 25 (.slice sa zs.length sc) (.slice pa ps.length pc) (.int .i64 q))
  have HG := Lib.hid gA
  have b0 := HT.out.c0
  have hlt := HT.out.lt
  by_cases h1 : codeV zs = 0
  · have HC := Lib.hid (new_ok sa sc zs (w.alloc (.cells #[.slice sa zs.length sc, .slice pa ps.length pc, .int .i64 q] 25)) rfl h.scap h.smax h1 (h.sr.grow gA))
    have HRt := Lib.hid (codeV_zero h1)
    have HCS : Hid (∀ (W : World) (b : Nat), Shp w.heap.size W b zs → Calls Try.prog 25 #[.pointer (some ⟨b, 0, none⟩), .slice pa ps.length pc, .int .i64 q] W fun e w' => e = .returned (.tuple #[.pointer none, .bool false]) ∧ Grew W w') := Lib.hid (fun W b hS => by
      rcases rightN9_no hno with h2 | ⟨_, h2⟩ | ⟨_, h2, h3, h4⟩
      · exact absurd h1 h2
      · exact (nnew_q pa ps.length pc q W h2).mono fun e w' ⟨he, hw⟩ => ⟨he, by rw [hw]; exact Grew.refl _⟩
      · exact nnew_len pa ps.length pc q W (codeV_zero h1) hS h2 h3 h4)
    clear h gA hno h1
    go_enter Try.func12, Try.ntmps12
    go_wp2_with fail
    refine HC.out.mono ?_
    rintro e w1 ⟨⟨b, rfl, hs⟩, g1⟩
    have HS := Lib.hid (hs.mono HG.out.size)
    have HG1 := Lib.hid (HG.out.trans g1)
    have ht := HT.out.grow g1
    clear b0 hlt
    have b1 := ht.c1
    have b2 := ht.c2
    have hlt := ht.lt
    clear g1 ht hs
    go_wp2_with fail
    refine (HCS.out _ _ HS.out).mono ?_
    rintro e w2 ⟨rfl, g2⟩
    have HG2 := Lib.hid (HG1.out.trans g2)
    clear g2
    go_wp2
    go_ret2
    exact ⟨rfl, HG2.out⟩
  · have HC := Lib.hid (new_bad sa sc zs (w.alloc (.cells #[.slice sa zs.length sc, .slice pa ps.length pc, .int .i64 q] 25)) rfl h.slen h.scap h.smax h1 (h.sr.grow gA))
    clear h gA hno h1
    generalize codeV zs = cv at *
    go_enter Try.func12, Try.ntmps12
    go_wp2_with fail
    refine HC.out.mono ?_
    rintro e w1 ⟨rfl, g1⟩
    have HG1 := Lib.hid (HG.out.trans g1)
    have ht := HT.out.grow g1
    clear b0 hlt
    have b1 := ht.c1
    have b2 := ht.c2
    have hlt := ht.lt
    clear g1 ht
    go_wp2_with fail
    refine (nnew_nil pa ps.length pc q _).mono ?_
    rintro e w2 ⟨rfl, rfl⟩
    go_wp2
    go_ret2
    exact ⟨rfl, HG1.out⟩
end

theorem right_11 : Right [1, 1] := ⟨by decide, by decide, by unfold OkS el; decide, by decide +kernel⟩
theorem netP_11 : NetP [1, 1] [3, 1] 0 := ⟨right_11, by decide +kernel, by unfold Fit In64 el; decide, by decide, by decide⟩
theorem grL_11 : grL [1, 1] [3, 1] 0 [2] [5] = [4, 2] := by decide +kernel
theorem nP_11 : nP [1, 1] = 2 := by decide +kernel
theorem rdK_new {k : IntKind} {t : TypeId} (w : World) (zs : List Int) : RdK k (w.alloc (.cells (zs.map (Value.int k)).toArray t)).heap.size (w.alloc (.cells (zs.map (Value.int k)).toArray t)) (some ⟨w.heap.size, 0, none⟩) zs := by
  refine .inr ⟨w.heap.size, 0, rfl, by simp, fun j hj => ?_⟩
  rw [Nat.zero_add, World.cell?_alloc_new, List.getElem?_toArray, List.getElem?_map, el_lt hj]
  rfl
set_option maxHeartbeats 2000000 in
theorem alive9_any (w : World) : Calls Try.prog 10 #[] w fun e w' => e = .returned (.bool true) ∧ Grew w w' := by
  have gA : Grew w ((w.alloc (.cells #[.int .i64 1, .int .i64 1] 3)).alloc (.cells #[.int .i64 3, .int .i64 1] 2)) := ((Grew.refl w).alloc _).alloc _
  have hr1 : RdK .i64 ((w.alloc (.cells #[.int .i64 1, .int .i64 1] 3)).alloc (.cells #[.int .i64 3, .int .i64 1] 2)).heap.size ((w.alloc (.cells #[.int .i64 1, .int .i64 1] 3)).alloc (.cells #[.int .i64 3, .int .i64 1] 2)) (some ⟨w.heap.size, 0, none⟩) [1, 1] := (rdK_new (k := .i64) (t := 3) w [1, 1]).grow ((Grew.refl _).alloc _)
  have hr2 : Rd ((w.alloc (.cells #[.int .i64 1, .int .i64 1] 3)).alloc (.cells #[.int .i64 3, .int .i64 1] 2)).heap.size ((w.alloc (.cells #[.int .i64 1, .int .i64 1] 3)).alloc (.cells #[.int .i64 3, .int .i64 1] 2)) (some ⟨w.heap.size + 1, 0, none⟩) [3, 1] := by
    have := rdK_new (k := .i64) (t := 2) (w.alloc (.cells #[.int .i64 1, .int .i64 1] 3)) [3, 1]
    rw [World.size_alloc (w := w)] at this
    exact this
  have HL := Lib.hid (lnew_yes (sc := 2) (pc := 2) netP_11 ⟨hr1, hr2, by decide, by decide, by decide, by decide, by decide⟩)
  have HG := Lib.hid gA
  clear gA hr1 hr2
  go_enter Try.func10, Try.ntmps10
  go_wp2_with fail
  refine HL.out.mono ?_
  rintro e w1 ⟨⟨nb, rfl, hn⟩, g1⟩
  have gB : Grew w1 ((w1.alloc (.cells #[.int .i64 2] 2)).alloc (.cells #[.int .i64 5] 2)) := ((Grew.refl _).alloc _).alloc _
  have hx : Rd ((w1.alloc (.cells #[.int .i64 2] 2)).alloc (.cells #[.int .i64 5] 2)).heap.size ((w1.alloc (.cells #[.int .i64 2] 2)).alloc (.cells #[.int .i64 5] 2)) (some ⟨w1.heap.size, 0, none⟩) [2] := Rd.grow (rdK_new (k := .i64) (t := 2) w1 [2]).rd ((Grew.refl _).alloc _)
  have hy : Rd ((w1.alloc (.cells #[.int .i64 2] 2)).alloc (.cells #[.int .i64 5] 2)).heap.size ((w1.alloc (.cells #[.int .i64 2] 2)).alloc (.cells #[.int .i64 5] 2)) (some ⟨w1.heap.size + 1, 0, none⟩) [5] := by
    have := (rdK_new (k := .i64) (t := 2) (w1.alloc (.cells #[.int .i64 2] 2)) [5]).rd
    rw [World.size_alloc (w := w1)] at this
    exact this
  have hgr := grad_yes (c := 1) (c' := 1) (xs := [2]) (ys := [5]) (n := 1) (n' := 1) _ netP_11 (hn.grow gB) rfl (by decide +kernel) hx (by unfold Fit In64 el; decide) rfl (by decide +kernel) hy
  rw [nP_11, grL_11] at hgr
  have HGR := Lib.hid hgr
  have HG1 := Lib.hid ((HG.out.trans g1).trans gB)
  clear hn g1 gB hx hy hgr
  go_wp2_with fail
  refine HGR.out.mono ?_
  rintro e w2 ⟨⟨g, rfl, hb⟩, g2⟩
  have HG2 := Lib.hid (HG1.out.trans g2)
  obtain ⟨ga, e1, _, hl, h0, _⟩ := hb.at (k := 0) (by omega)
  obtain ⟨gb, e2, _, _, h1, _⟩ := hb.at (k := 1) (by omega)
  obtain rfl : g = ga := by injection e1 with e1; injection e1
  obtain rfl : g = gb := by injection e2 with e2; injection e2
  have h0' : w2.cell? ⟨g, 0, none⟩ = some (.int .i64 4) := h0
  have h1' : w2.cell? ⟨g, 1, none⟩ = some (.int .i64 2) := h1
  clear hb g2 h0 h1 e1 e2
  go_wp2
  go_ret
  exact ⟨rfl, HG2.out⟩

/-- A slice of integers that came in as a part of a struct. -/
def CameI (k : IntKind) (w : World) (a : Option Addr) (len cap : Nat) (zs : List Int) : Prop := zs.length = len ∧ len ≤ cap ∧ cap ≤ 9223372036854775807 ∧ RdK k w.heap.size w a zs ∧ (a = none → cap = 0) ∧ ∀ j, j < zs.length → (Lit.int k (el zs j)).wf = true
theorem cameI_none (k : IntKind) (w : World) : CameI k w none 0 0 [] := ⟨rfl, Nat.le_refl _, Nat.zero_le _, .inl rfl, fun _ => rfl, fun j hj => by simp at hj⟩
theorem cameI_some {k : IntKind} {w : World} {a : Addr} {len cap : Nat} {zs : List Int} (hl : len ≤ cap) (hm : cap ≤ maxLen) (hz : zs.length = cap)
    (hc : ∀ i, i < zs.length → w.cell? (a.add i) = some (.int k (zs.getD i 0))) (hw : ∀ n ∈ zs, (Lit.int k n).wf = true) : CameI k w (some a) len cap (zs.take len) := by
  have hlen : (zs.take len).length = len := by rw [List.length_take]; omega
  have hel : ∀ j, j < len → el (zs.take len) j = zs.getD j 0 := fun j hj => by unfold el; rw [List.getElem?_take_of_lt hj, List.getD_eq_getElem?_getD]
  refine ⟨hlen, hl, by unfold maxLen at hm; exact hm, ?_, (fun h => nomatch h), fun j hj => ?_⟩
  · by_cases h0 : len = 0
    · exact .inl (List.eq_nil_of_length_eq_zero (hlen.trans h0))
    · obtain ⟨b, off, spot⟩ := a
      have h1 := hc 0 (by omega)
      have hspot : spot = none := by simpa [Addr.add] using World.cell?_spot h1
      subst hspot
      rw [Addr.add_lit] at h1
      refine .inr ⟨b, off, rfl, block_in h1, fun j hj => ?_⟩
      rw [hlen] at hj
      have h2 := hc j (by omega)
      rw [Addr.add_lit] at h2
      rw [h2, hel j hj]
  · rw [hlen] at hj
    rw [hel j hj]
    refine hw _ ?_
    rw [List.getD_eq_getElem?_getD, List.getElem?_eq_getElem (by omega)]
    exact List.getElem_mem _
/-- A network that came in. -/
def CameN (w : World) (sa : Option Addr) (sl sc : Nat) (pa : Option Addr) (pl pc : Nat) (q : Int) (zs ps : List Int) : Prop := CameI .i64 w sa sl sc zs ∧ CameI .i64 w pa pl pc ps ∧ (Lit.int .i64 q).wf = true
theorem few_in {zs ps : List Int} (h : fewN9 zs ps = true) : zs.length ≤ 40 ∧ ps.length ≤ 500 ∧ (codeV zs = 0 → cnt zs ≤ 400) := by
  unfold fewN9 at h
  rw [Bool.and_eq_true, decide_eq_true_eq] at h
  obtain ⟨h1, h2⟩ := h
  have h3 : zs.length ≤ 40 := by
    by_cases e : zs.length ≤ 40
    · exact e
    · rw [few_many e] at h1; cases h1
  refine ⟨h3, h2, fun hc => ?_⟩
  rw [few_right h3 hc, decide_eq_true_eq] at h1
  exact h1
theorem CameN.rn {w : World} {sa pa : Option Addr} {sl sc pl pc : Nat} {q : Int} {zs ps : List Int} (h : CameN w sa sl sc pa pl pc q zs ps) (hf : fewN9 zs ps = true) : RN w sa sc pa pc zs ps := by
  have h1 := few_in hf
  obtain ⟨⟨rfl, h2, h3, h4, _⟩, ⟨rfl, h5, h6, h7, _⟩, _⟩ := h
  exact ⟨h4, h7.rd, h2, by unfold maxLen; exact h3, by omega, by omega, h5⟩
theorem CameN.fit {w : World} {sa pa : Option Addr} {sl sc pl pc : Nat} {q : Int} {zs ps : List Int} (h : CameN w sa sl sc pa pl pc q zs ps) : Fit ps := fun j hj => in64_wf (h.2.1.2.2.2.2.2 j hj)
end Go.Proofs.Ytciocdjpgknihaa
