/- Trace and Run of package net, of a network and of none. Conditions: the inputs are within the bounds of int64. -/
import Derived.Test.YtciocdjpgknihaaKe
namespace Go.Proofs.Ytciocdjpgknihaa
open Go.RowKit Go.MapKept

theorem info_vec : (Try.prog.info? 32).map (fun i => (i.zero, i.size, i.bytes)) = some (some (.slice none 0 0), 1, 24) := by kernel_rfl
theorem KpV.of_own {W W' : World} {B n : Nat} {v : Value} {xs : List Value} (hg : W.grownBy W' v.ownBlock) (h : W.ownsRow B 32 1 v n xs) : KpV W W' := by
  cases hv : v.ownBlock with
  | none =>
    rw [hv] at hg
    exact ⟨hg.size, fun j _ _ _ hj _ _ => (hg.block j (Array.getElem?_eq_some_iff.1 hj).1 (fun e => by cases e)).trans hj⟩
  | some g =>
    rw [hv] at hg
    obtain ⟨_, cur, hc⟩ := own_type h hv
    exact KpV.of_grown hg hc (.inl rfl)

set_option maxHeartbeats 1000000 in
theorem trace1_any {B n c : Nat} {a : Option Addr} {v0 : Value} {vs : List Vec} {zs : List Int} (w0 W : World) (ho : One W B 35 v0) (hp : Pile 32 B W v0 vs) (hu : Body B W ⟨a, c, zs⟩) (hz : zs.length = n) (hl : vs.length ≤ 1048576) (hg : Grew w0 W) (hB : w0.heap.size ≤ B) :
    Calls Try.prog 31 #[.slice a n c, .pointer (some ⟨B, 0, none⟩)] W fun e W' => (∃ v, e = .returned v) ∧ ((∃ v1, One W' B 35 v1 ∧ Pile 32 B W' v1 (vs ++ [⟨a, c, zs⟩])) ∧ Grew w0 W') ∧ KpV W W' := by
  obtain ⟨i0, hi, hz0, hz1, hz2⟩ := info_parts info_vec
  subst hz
  have c0 := ho.c0
  have hlt := ho.lt
  have gA : Grew W (W.alloc (.cells #[.slice a zs.length c] 32)) := (Grew.refl W).alloc _
  have HO := Lib.hid ho
  have HP := Lib.hid hp
  have HU := Lib.hid hu
  have HA := Lib.hid gA
  have HG := Lib.hid hg
  have HW := Lib.hid (own_grow hp.2.1 gA)
  have HOA := Lib.hid (ho.grow gA)
  have hBW := hp.1
  clear ho hp hu gA hg
  go_enter Try.func31, Try.ntmps31
  go_wp2_with (at_builtin; refine wpList_append_own _ rfl _ _ 35 rfl B 32 i0 (.slice none 0 0) 1 24 Try.underlying35 hi hz0 hz1 hz2 rfl (by decide) v0 vs.length (vs.map slV) rfl HW.out ⟨W.heap.size, 0, none⟩ 1 1 [.slice a zs.length c] rfl rfl ?qc2 ?qc3 ?qc4 ?qc5 ?qc6 ?_)
  case qc2 => exact cell_one_at W _ _
  case qc3 => intro u hu; simp only [List.mem_singleton] at hu; subst hu; rfl
  case qc4 => unfold maxLen; omega
  case qc5 => omega
  case qc6 => simp; omega
  intro v' w1 hown hgrow hnil
  have hneB : some B ≠ v0.ownBlock := fun e => by
    obtain ⟨_, cur, hc⟩ := own_type HW.out e.symm
    have h2 := HOA.out
    unfold One at h2
    rw [h2] at hc
    injection hc with hc
    injection hc with _ hc
    exact absurd hc (by decide)
  have ho1 := HOA.out.grown hgrow hneB
  have c1 := ho1.c0
  have f1 := ho1.f0
  have hl1 := ho1.lt
  have hp1 : Pile 32 B w1 v' (vs ++ [⟨a, c, zs⟩]) := HP.out.snoc HU.out (by decide) HA.out hgrow hown
  have hgs : w1.grownBy (w1.setCell ⟨B, 0, none⟩ v') (some B) := grownBy_setCell1 w1 ⟨B, 0, none⟩ v'
  have HPE := Lib.hid (hp1.kept hgs (fun g e => by
    injection e with e
    subst e
    refine ⟨Nat.le_refl _, fun cur h2 => ?_, fun cur h2 => ?_⟩
    · rw [show w1.heap[B]? = _ from ho1] at h2
      injection h2 with h2
      injection h2 with _ h2
      exact absurd h2 (by decide)
    · rw [show w1.heap[B]? = _ from ho1] at h2
      injection h2 with h2
      injection h2 with _ h2
      exact absurd h2 (by decide)))
  have HOE := Lib.hid (ho1.set v')
  have HK : Hid (KpV W (w1.setCell ⟨B, 0, none⟩ v')) := Lib.hid ((KpV.of_grew HA.out).trans ((KpV.of_own hgrow HW.out).trans (KpV.of_grown hgs ho1 (.inr rfl))))
  have hg1 : Grew w0 w1 := Below.grown (HG.out.trans HA.out) hgrow (by have := (HG.out.trans HA.out).size; omega) (fun j hj => Nat.le_trans hB (own_type HW.out hj).1)
  have HGE : Hid (Grew w0 (w1.setCell ⟨B, 0, none⟩ v')) := Lib.hid (Below.setCell (p := ⟨B, 0, none⟩) hg1 hB v')
  obtain ⟨l', cap', rfl, _, _⟩ := hp1.slice
  have hln : (vs ++ [(⟨a, c, zs⟩ : Vec)]).length = vs.length + 1 := by simp
  rw [hln] at HPE HOE HK HGE
  clear hln hown hgrow hnil hneB ho1 hp1 hgs hg1
  go_wp2
  go_end0
  exact ⟨⟨_, rfl⟩, ⟨⟨_, HOE.out, HPE.out⟩, HGE.out⟩, HK.out⟩

/-- What Trace has collected. -/
def TrJ (B : Nat) (w0 : World) (zs ps xs : List Int) (q : Int) (k : Nat) (W : World) : Prop :=
  (∃ v1 vs, One W B 35 v1 ∧ Pile 32 B W v1 vs ∧ vs.length = k ∧ ∀ j, j < k → (va vs j).zs = trV zs ps q xs j) ∧ Grew w0 W
/-- A list that holds the values of all layers. -/
def Vals (w : World) (l : Option Addr) (cap : Nat) (vs : List Vec) (zs ps xs : List Int) (q : Int) : Prop := Lot w l cap vs ∧ vs.length = lnk zs + 1 ∧ ∀ j, j ≤ lnk zs → (va vs j).zs = trV zs ps q xs j
theorem Vals.grow {w w' : World} {l : Option Addr} {cap : Nat} {vs : List Vec} {zs ps xs : List Int} {q : Int} (h : Vals w l cap vs zs ps xs q) (g : Grew w w') : Vals w' l cap vs zs ps xs q := ⟨h.1.grow g, h.2⟩

set_option maxHeartbeats 1000000 in
theorem trace_yes {D b n c : Nat} {a : Option Addr} {zs ps xs : List Int} {q : Int} (w : World) (hP : NetP zs ps q) (hN : NetM D w b zs ps q) (hx : xs.length = n) (hn : n = sz zs 0) (hxr : Rd w.heap.size w a xs) (hxf : Fit xs) :
    Calls Try.prog 16 #[.pointer (some ⟨b, 0, none⟩), .slice a n c] w fun e w' => (∃ l cap vs, e = .returned (.tuple #[.slice l (lnk zs + 1 : Nat) cap, .bool true]) ∧ Vals w' l cap vs zs ps xs q) ∧ Grew w w' := by
  have gA : Grew w (w.alloc (.cells #[.slice none 0 0] 35)) := (Grew.refl w).alloc _
  have hok := hP.right.2.2.1
  have hlk := lnk_in hP.right
  have hfw := forward_yes (gs := 31) (caps := #[.pointer (some ⟨w.heap.size, 0, none⟩)]) (c := c) (enters_of Try.func31 (by kernel_rfl) rfl)
    (fun k W => TrJ w.heap.size w zs ps xs q k W) _ hP (hN.grow gA) hx hn (hxr.grow gA) hxf
    (fun k W W' ⟨⟨v1, vs, h1, h2, h3⟩, h4⟩ g => ⟨⟨v1, vs, h1.grow g, h2.grow g, h3⟩, h4.trans g⟩)
    (fun k W g c' hk ⟨⟨v1, vs, h1, h2, h3, h5⟩, h4⟩ hb => by
      have hlen := trV_len (zs := zs) (ps := ps) (q := q) (hx.trans hn) k
      refine (trace1_any (a := some ⟨g, 0, none⟩) (c := c') (zs := trV zs ps q xs k) w W h1 h2 (Body.of_buf (D := 0) (by show Buf 0 W _ (trV zs ps q xs k).length _ _; rw [hlen]; exact hb)) hlen (by omega) h4 (Nat.le_refl _)).mono ?_
      rintro e W' ⟨hv, ⟨⟨v2, h6, h7⟩, h8⟩, hk'⟩
      refine ⟨hv, ⟨⟨v2, _, h6, h7, by simp [h3], fun j hj => ?_⟩, h8⟩, hk'⟩
      by_cases e1 : j < vs.length
      · rw [va_left e1]
        exact h5 j (by omega)
      · obtain rfl : j = vs.length := by omega
        rw [va_here, h3])
    ⟨⟨.slice none 0 0, [], One.new _ _ _, Pile.nil _ (by simp), rfl, fun j hj => absurd hj (Nat.not_lt_zero _)⟩, gA⟩
  have HF := Lib.hid hfw
  have HSh : Hid (∀ j, j < lnk zs + 1 → (trV zs ps q xs j).length ≤ 1048576 ∧ Fit (trV zs ps q xs j)) := Lib.hid (fun j hj => ⟨by rw [trV_len (hx.trans hn)]; exact (sz_in hok (by omega)).2, trV_fit hxf j⟩)
  clear hfw hP hN hx hn hxr hxf gA hok
  obtain ⟨m, hm⟩ : ∃ m, lnk zs = m := ⟨_, rfl⟩
  have HM := Lib.hid hm
  rw [hm] at HF HSh hlk ⊢
  clear hm
  have hm15 := hlk.2.1
  clear hlk
  go_enter Try.func16, Try.ntmps16
  go_wp2_with fail
  refine HF.out.mono ?_
  rintro e w1 ⟨rfl, ⟨v1, vs, h1, h2, h3, h5⟩, h4⟩
  obtain ⟨l, cap, rfl, hc1, hc2⟩ := h2.slice
  have c0 := h1.c0
  have HV : Hid (Vals w1 l cap vs zs ps xs q) := Lib.hid ⟨h2.lot (by omega) (fun j hj => by rw [h5 j (by omega)]; exact (HSh.out j (by omega)).1) (fun j hj => by rw [h5 j (by omega)]; exact (HSh.out j (by omega)).2), by rw [HM.out]; exact h3, fun j hj => h5 j (by rw [HM.out] at hj; omega)⟩
  have HG := Lib.hid h4
  rw [h3] at c0
  clear h1 h2 h3 h5 h4 hc1 hc2
  go_wp2
  go_ret2
  exact ⟨⟨_, _, vs, rfl, HV.out⟩, HG.out⟩

theorem trace_nil (a : Option Addr) (n c : Nat) (w : World) : Calls Try.prog 16 #[.pointer none, .slice a n c] w fun e w' => e = .returned (.tuple #[.slice none 0 0, .bool false]) ∧ Grew w w' := by
  have c0 := (One.new w 35 (.slice none 0 0)).c0
  have HG : Hid (Grew w (w.alloc (.cells #[.slice none 0 0] 35))) := Lib.hid ((Grew.refl w).alloc _)
  go_enter Try.func16, Try.ntmps16
  go_wp2_with fail
  refine (forward_nil _ _ _ _ _).mono ?_
  rintro e w1 ⟨rfl, rfl⟩
  go_wp2
  go_ret2
  exact ⟨rfl, HG.out⟩
theorem trace_no {D b : Nat} {zs ps : List Int} {q : Int} (a : Option Addr) (n c : Nat) (w : World) (hP : NetP zs ps q) (hN : NetM D w b zs ps q) (hn : n ≠ sz zs 0) :
    Calls Try.prog 16 #[.pointer (some ⟨b, 0, none⟩), .slice a n c] w fun e w' => e = .returned (.tuple #[.slice none 0 0, .bool false]) ∧ Grew w w' := by
  have c0 := (One.new w 35 (.slice none 0 0)).c0
  have gA : Grew w (w.alloc (.cells #[.slice none 0 0] 35)) := (Grew.refl w).alloc _
  have HF : Hid (∀ f, Calls Try.prog 30 #[.pointer (some ⟨b, 0, none⟩), .slice a n c, f] (w.alloc (.cells #[.slice none 0 0] 35)) fun e w' => e = .returned (.bool false) ∧ (w.alloc (.cells #[.slice none 0 0] 35)) = w') := Lib.hid (fun f => forward_no a n c f _ hP (hN.grow gA) hn)
  have HG := Lib.hid gA
  clear hP hN hn gA
  go_enter Try.func16, Try.ntmps16
  go_wp2_with fail
  refine (HF.out _).mono ?_
  rintro e w1 ⟨rfl, rfl⟩
  go_wp2
  go_ret2
  exact ⟨rfl, HG.out⟩

theorem run1_any {B n c : Nat} {a : Option Addr} {v0 : Value} (W : World) (ho : One W B 32 v0) :
    Calls Try.prog 32 #[.slice a n c, .pointer (some ⟨B, 0, none⟩)] W fun e W' => (∃ v, e = .returned v) ∧ W' = W.setCell ⟨B, 0, none⟩ (.slice a n c) := by
  have c0 := ho.c0
  have f0 := ho.f0
  have hlt := ho.lt
  clear ho
  go_enter Try.func32, Try.ntmps32
  go_wp2
  go_end0
  exact ⟨⟨_, rfl⟩, rfl⟩
/-- What Run has seen. -/
def RuJ (B : Nat) (w0 : World) (zs ps xs : List Int) (q : Int) (k : Nat) (W : World) : Prop :=
  (∃ v1, One W B 32 v1 ∧ ∀ j, k = j + 1 → ∃ g c, v1 = .slice (some ⟨g, 0, none⟩) (sz zs j) c ∧ Buf 0 W (some ⟨g, 0, none⟩) (sz zs j) c (trV zs ps q xs j)) ∧ Grew w0 W

set_option maxHeartbeats 1000000 in
theorem run_yes {D b n c : Nat} {a : Option Addr} {zs ps xs : List Int} {q : Int} (w : World) (hP : NetP zs ps q) (hN : NetM D w b zs ps q) (hx : xs.length = n) (hn : n = sz zs 0) (hxr : Rd w.heap.size w a xs) (hxf : Fit xs) :
    Calls Try.prog 17 #[.pointer (some ⟨b, 0, none⟩), .slice a n c] w fun e w' => (∃ g c', e = .returned (.tuple #[.slice (some ⟨g, 0, none⟩) (sz zs (lnk zs)) c', .bool true]) ∧ Buf 0 w' (some ⟨g, 0, none⟩) (sz zs (lnk zs)) c' (trV zs ps q xs (lnk zs))) ∧ Grew w w' := by
  have gA : Grew w (w.alloc (.cells #[.slice none 0 0] 32)) := (Grew.refl w).alloc _
  have hfw := forward_yes (gs := 32) (caps := #[.pointer (some ⟨w.heap.size, 0, none⟩)]) (c := c) (enters_of Try.func32 (by kernel_rfl) rfl)
    (fun k W => RuJ w.heap.size w zs ps xs q k W) _ hP (hN.grow gA) hx hn (hxr.grow gA) hxf
    (fun k W W' ⟨⟨v1, h1, h2⟩, h4⟩ g => ⟨⟨v1, h1.grow g, fun j hj => by obtain ⟨g', c', h5, h6⟩ := h2 j hj; exact ⟨g', c', h5, h6.grow g⟩⟩, h4.trans g⟩)
    (fun k W g c' hk ⟨⟨v1, h1, h2⟩, h4⟩ hb => by
      refine (run1_any (a := some ⟨g, 0, none⟩) (n := sz zs k) (c := c') W h1).mono ?_
      rintro e W' ⟨hv, rfl⟩
      have hgs : W.grownBy (W.setCell ⟨w.heap.size, 0, none⟩ (.slice (some ⟨g, 0, none⟩) (sz zs k) c')) (some w.heap.size) := grownBy_setCell1 W ⟨w.heap.size, 0, none⟩ _
      refine ⟨hv, ⟨⟨_, h1.set _, fun j hj => ?_⟩, Below.setCell (p := ⟨w.heap.size, 0, none⟩) h4 (Nat.le_refl _) _⟩, KpV.of_grown hgs h1 (.inl rfl)⟩
      obtain rfl : k = j := by omega
      refine ⟨g, c', rfl, own_kept hb hgs (fun g' e cur h3 => ?_)⟩
      injection e with e
      subst e
      rw [show W.heap[w.heap.size]? = _ from h1] at h3
      injection h3 with h3
      injection h3 with _ h3
      exact absurd h3 (by decide))
    ⟨⟨.slice none 0 0, One.new _ _ _, fun j hj => by omega⟩, gA⟩
  have HF := Lib.hid hfw
  clear hfw hP hN hx hn hxr hxf gA
  go_enter Try.func17, Try.ntmps17
  go_wp2_with fail
  refine HF.out.mono ?_
  rintro e w1 ⟨rfl, ⟨v1, h1, h2⟩, h4⟩
  obtain ⟨g, c', rfl, hb⟩ := h2 _ rfl
  have c0 := h1.c0
  have HB := Lib.hid hb
  have HG := Lib.hid h4
  clear h1 h2 hb h4
  go_wp2
  go_ret2
  exact ⟨⟨_, _, rfl, HB.out⟩, HG.out⟩
theorem run_nil (a : Option Addr) (n c : Nat) (w : World) : Calls Try.prog 17 #[.pointer none, .slice a n c] w fun e w' => e = .returned (.tuple #[.slice none 0 0, .bool false]) ∧ Grew w w' := by
  have c0 := (One.new w 32 (.slice none 0 0)).c0
  have HG : Hid (Grew w (w.alloc (.cells #[.slice none 0 0] 32))) := Lib.hid ((Grew.refl w).alloc _)
  go_enter Try.func17, Try.ntmps17
  go_wp2_with fail
  refine (forward_nil _ _ _ _ _).mono ?_
  rintro e w1 ⟨rfl, rfl⟩
  go_wp2
  go_ret2
  exact ⟨rfl, HG.out⟩
theorem run_no {D b : Nat} {zs ps : List Int} {q : Int} (a : Option Addr) (n c : Nat) (w : World) (hP : NetP zs ps q) (hN : NetM D w b zs ps q) (hn : n ≠ sz zs 0) :
    Calls Try.prog 17 #[.pointer (some ⟨b, 0, none⟩), .slice a n c] w fun e w' => e = .returned (.tuple #[.slice none 0 0, .bool false]) ∧ Grew w w' := by
  have c0 := (One.new w 32 (.slice none 0 0)).c0
  have gA : Grew w (w.alloc (.cells #[.slice none 0 0] 32)) := (Grew.refl w).alloc _
  have HF : Hid (∀ f, Calls Try.prog 30 #[.pointer (some ⟨b, 0, none⟩), .slice a n c, f] (w.alloc (.cells #[.slice none 0 0] 32)) fun e w' => e = .returned (.bool false) ∧ (w.alloc (.cells #[.slice none 0 0] 32)) = w') := Lib.hid (fun f => forward_no a n c f _ hP (hN.grow gA) hn)
  have HG := Lib.hid gA
  clear hP hN hn gA
  go_enter Try.func17, Try.ntmps17
  go_wp2_with fail
  refine (HF.out _).mono ?_
  rintro e w1 ⟨rfl, rfl⟩
  go_wp2
  go_ret2
  exact ⟨rfl, HG.out⟩
end Go.Proofs.Ytciocdjpgknihaa
