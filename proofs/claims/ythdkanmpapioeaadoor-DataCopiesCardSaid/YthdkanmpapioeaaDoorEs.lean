/- mapped of package data, at the three pairs of types that are used: what a function makes of each value that an iterator yields, or nothing. Conditions: the iterator yields what it says; at most 2^20 values. -/
import Derived.Test.YthdkanmpapioeaaDoorEr
import Derived.Test.YthdkanmpapioeaaDoorEb
import Derived.Test.YthdkanmpapioeaaDoorNd
import Derived.RangeFuncBox
namespace Go.Proofs.YthdkanmpapioeaaDoor
open Go.RowKit Go.Shelf
attribute [local go_sem] Oper.semAt_some

theorem grown_low {a b c : World} {r : Option Nat} {B : Nat} (h : a.grownBy b r) (k : Below B b c) (hB : a.heap.size ≤ B) : a.grownBy c r :=
  ⟨k.os.trans h.os, k.tape.trans h.tape, k.output.trans h.output, Nat.le_trans h.size k.size, fun j hj hne => (k.block j (by omega)).trans (h.block j hj hne)⟩
theorem cell_two_new' (W : World) (u v : Value) (t : TypeId) (j : Nat) (x : Value) (h : [u, v][j]? = some x) : (W.alloc (.cells #[u, v] t)).cell? (Addr.add ⟨W.heap.size, 0, none⟩ j) = some x := by
  rw [Addr.add_lit, World.cell?_alloc_new, Nat.zero_add]
  match j, h with
  | 0, h => exact h
  | 1, h => exact h
  | j + 2, h => simp at h
theorem own_form {W : World} {B n size : Nat} {e : TypeId} {v : Value} {xs : List Value} (h : W.ownsRow B e size v n xs) : ∃ a cap, v = .slice a n cap := by
  rcases h.2 with ⟨rfl, rfl⟩ | ⟨g, c, cur, rfl, _⟩
  · exact ⟨none, 0, rfl⟩
  · exact ⟨_, _, rfl⟩

theorem info_mapS : (Tryd.prog.info? 9).map (fun i => (i.zero, i.size, i.bytes)) = some (some (.string ⟨#[]⟩), 1, 16) := by kernel_rfl
set_option maxRecDepth 100000 in
set_option maxHeartbeats 4000000 in
/-- mapped over an iterator that yields N values, with a function that makes of the k-th what o says. -/
theorem mapS {gf gs : Nat} {lb caps : Array Value} (heg : ∀ args w, (callFunc gf args).run Tryd.prog w = .ok (.enter gf args) w) (hes : ∀ args w, (callFunc gs args).run Tryd.prog w = .ok (.enter gs args) w)
    {E : Nat → Int} {o : Nat → Option ByteArray} {N : Nat} {rr : Option Nat} (w : World) (hN : N ≤ 1048576) (hr : ∀ x, rr = some x → x < w.heap.size)
    (hseq : ∀ W, Grew w W → YieldsO Fence.wide 8 Tryd.prog gf lb (fun k => #[.int .i64 (E k)]) N (Below w.heap.size) (fun V V' => V.grownBy V' rr) W)
    (hf : ∀ k W, k < N → w.grownBy W rr → Calls Tryd.prog gs (#[.int .i64 (E k)] ++ caps) W fun e W' => ((∃ b : ByteArray, o k = some b ∧ e = .returned (.tuple #[.string b, .bool true])) ∨ (o k = none ∧ ∃ b : ByteArray, e = .returned (.tuple #[.string b, .bool false]))) ∧ Grew W W') :
    Calls Tryd.prog 40 #[.func (.func gf) #[] lb, .func (.func gs) #[] caps] w fun e w' =>
      ((∃ v ms, e = .returned (.tuple #[v, .bool true]) ∧ ms.length = N ∧ (∀ j, j < N → o j = some (ms[j]?.getD (⟨#[]⟩))) ∧ w'.ownsRow w.heap.size 9 1 v N (List.map Value.string ms)) ∨
       (e = .returned (.tuple #[.slice none 0 0, .bool false]) ∧ ∃ j, j < N ∧ o j = none)) ∧ w.grownBy w' rr := by
  obtain ⟨i0, hi, hz0, hz1, hz2⟩ := info_parts info_mapS
  have hg : Grew w ((((w.alloc (.cells #[.func (.func gs) #[] caps] 73)).alloc (.cells #[.slice none 0 0] 56)).alloc (.cells #[.bool false] 4)).alloc (.cells #[.slice none 0 0] 56)) := ((((Grew.refl w).alloc _).alloc _).alloc _).alloc _
  have b1 := (((Boxed.new w 73 (.func (.func gs) #[] caps)).alloc (.cells #[.slice none 0 0] 56)).alloc (.cells #[.bool false] 4)).alloc (.cells #[.slice none 0 0] 56)
  have b2 := ((Boxed.new (w.alloc (.cells #[.func (.func gs) #[] caps] 73)) 56 (.slice none 0 0)).alloc (.cells #[.bool false] 4)).alloc (.cells #[.slice none 0 0] 56)
  have b3 := (Boxed.new ((w.alloc (.cells #[.func (.func gs) #[] caps] 73)).alloc (.cells #[.slice none 0 0] 56)) 4 (.bool false)).alloc (.cells #[.slice none 0 0] 56)
  have b4 := Boxed.new (((w.alloc (.cells #[.func (.func gs) #[] caps] 73)).alloc (.cells #[.slice none 0 0] 56)).alloc (.cells #[.bool false] 4)) 56 (.slice none 0 0)
  rw [World.size_alloc] at b2
  rw [World.size_alloc, World.size_alloc] at b3
  rw [World.size_alloc, World.size_alloc, World.size_alloc] at b4
  have hsz : ((((w.alloc (.cells #[.func (.func gs) #[] caps] 73)).alloc (.cells #[.slice none 0 0] 56)).alloc (.cells #[.bool false] 4)).alloc (.cells #[.slice none 0 0] 56)).heap.size = w.heap.size + 1 + 1 + 1 + 1 := by simp
  have HG := Lib.hid hg
  have B1 := Lib.hid b1
  have B2 := Lib.hid b2
  have B3 := Lib.hid b3
  have B4 := Lib.hid b4
  have HSZ := Lib.hid hsz
  have HSeq := Lib.hid hseq
  have HF := Lib.hid hf
  have HR := Lib.hid hr
  clear hg b1 b2 b3 b4 hsz hseq hf hr
  refine (callsIn_wide (n := 9)).1 ?_
  refine callsIn_of_wp_marks Tryd.func40 rfl trivial ?_ rfl
  simp only [Tryd.ntmps40, List.size_toArray, List.length_cons, List.length_nil, Nat.reduceAdd, Nat.reduceSub, Array.replicate_succ, Array.replicate_zero, List.push_toArray, List.append_toArray, List.nil_append, List.cons_append]
  refine wpIn_wide.2 ?_
  go_wp2_with fail
  generalize (((w.alloc (.cells #[.func (.func gs) #[] caps] 73)).alloc (.cells #[.slice none 0 0] 56)).alloc (.cells #[.bool false] 4)).alloc (.cells #[.slice none 0 0] 56) = W0 at *
  obtain ⟨L, hL⟩ : ∃ L, w.heap.size = L := ⟨_, rfl⟩
  have HL := Lib.hid hL
  rw [hL] at B1 B2 B3 B4 HSZ HSeq HR ⊢
  clear hL
  have hGB : Grew w W0 := HG.out
  have HO0 : Hid (∃ v ms, Boxed W0 (L + 1 + 1 + 1) 56 v ∧ W0.ownsRow L 9 1 v 0 (List.map Value.string ms) ∧ ms.length = 0 ∧ ∀ j, j < 0 → o j = some (ms[j]?.getD (⟨#[]⟩))) := Lib.hid ⟨_, [], B4.out, World.ownsRow_nil _ _ _ _, rfl, fun j hj => absurd hj (Nat.not_lt_zero _)⟩
  refine (wpIn_wide (n := 9)).1 (range_own (F := Fence.wide) (n := 9) rfl (by omega) (gf := gf) (lb := lb) rfl trivial heg
    (enc := fun k => #[.int .i64 (E k)]) (N := N) (Kp := Below L) (fun x y z h k => h.trans k) (fun x y h => h.mono (by rw [HSZ.out]; omega))
    (Ow := fun V V' => V.grownBy V' rr) (fun V V' h b hb hlt => h.block b hlt (fun e => by have := HR.out b e.symm; rw [HSZ.out] at hb; omega))
    (HSeq.out W0 hGB) (fun _ => rfl)
    (fun k W => k ≤ N ∧ Hid (∃ v ms, Boxed W (L + 1 + 1 + 1) 56 v ∧ W.ownsRow L 9 1 v k (List.map Value.string ms) ∧ ms.length = k ∧ ∀ j, j < k → o j = some (ms[j]?.getD (⟨#[]⟩))) ∧ Hid (Boxed W L 73 (.func (.func gs) #[] caps)) ∧ Hid (Boxed W (L + 1) 56 (.slice none 0 0)) ∧ Hid (Boxed W (L + 1 + 1) 4 (.bool false)) ∧ Hid (w.grownBy W rr) ∧ L + 1 + 1 + 1 < W.heap.size)
    (fun c W => c = .ret ∧ Hid (Boxed W (L + 1) 56 (.slice none 0 0)) ∧ Hid (Boxed W (L + 1 + 1) 4 (.bool false)) ∧ Hid (w.grownBy W rr) ∧ Hid (∃ j, j < N ∧ o j = none) ∧ L + 1 + 1 + 1 < W.heap.size)
    ?hI ?hIx ?hOI ⟨Nat.zero_le _, HO0, B1, B2, B3, Lib.hid (hGB.by' _), by rw [HSZ.out]; omega⟩ ?round ?done ?stop)
  case hI =>
    rintro k W W' ⟨h1, ⟨v, ms, h2, h3, h4, h5⟩, h6, h7, h8, h9, h10⟩ g kc
    have hs := g.size
    rw [HSZ.out] at g
    exact ⟨h1, Lib.hid ⟨v, ms, (g.block _ (by omega)).trans h2, own_cells h3 kc, h4, h5⟩, Lib.hid ((g.block _ (by omega)).trans h6.out), Lib.hid ((g.block _ (by omega)).trans h7.out), Lib.hid ((g.block _ (by omega)).trans h8.out),
      Lib.hid (grown_low h9.out g (by rw [HL.out]; omega)), Nat.lt_of_lt_of_le h10 hs⟩
  case hIx =>
    rintro c W W' ⟨h1, h7, h8, h9, h11, h10⟩ g kc
    have hs := g.size
    rw [HSZ.out] at g
    exact ⟨h1, Lib.hid ((g.block _ (by omega)).trans h7.out), Lib.hid ((g.block _ (by omega)).trans h8.out), Lib.hid (grown_low h9.out g (by rw [HL.out]; omega)), h11, Nat.lt_of_lt_of_le h10 hs⟩
  case hOI =>
    rintro k W W' ⟨h1, ⟨v, ms, h2, h3, h4, h5⟩, h6, h7, h8, h9, h10⟩ g
    have hne : ∀ x, L ≤ x → some x ≠ rr := fun x hx e => by have := HR.out x e.symm; omega
    exact ⟨h1, Lib.hid ⟨v, ms, h2.kept g (hne _ (by omega)), own_left h3 g (fun x hx => hne x (World.ownsRow.lt h3 x hx).1), h4, h5⟩, Lib.hid (h6.out.kept g (hne _ (by omega))), Lib.hid (h7.out.kept g (hne _ (by omega))), Lib.hid (h8.out.kept g (hne _ (by omega))),
      Lib.hid (grownBy_trans h9.out g), Nat.lt_of_lt_of_le h10 g.size⟩
  case round =>
    rintro l k V hi hk
    clear hi HO0 HG B1 B2 B3 B4 HSeq hGB
    gi_wp2
    refine ⟨trivial, ?_⟩
    rintro V2 ⟨hk2, HO, H1, H2, H3, HGr, hs2⟩
    clear hk2
    have f0 := H1.out.cell
    have HC := Lib.hid (HF.out k V2 hk HGr.out)
    gi_wp2_with fail
    refine ⟨trivial, (callsIn_of_calls HC.out).mono ?_⟩
    rintro e W1 ⟨⟨b, hb, rfl⟩ | ⟨hb, b, rfl⟩, g1⟩
    · obtain ⟨v, ms, hv, hrow, hml, hmo⟩ := HO.out
      have hsl : L ≤ W1.heap.size := by have := g1.size; omega
      have HV := Lib.hid (Boxed.kept hv (g1.by' none) (by simp))
      have HRW := Lib.hid (own_grow hrow g1)
      have H11 := Lib.hid (Boxed.kept H1.out (g1.by' none) (by simp))
      have H21 := Lib.hid (Boxed.kept H2.out (g1.by' none) (by simp))
      have H31 := Lib.hid (Boxed.kept H3.out (g1.by' none) (by simp))
      have HK := Lib.hid (KeepsOthers.of_grownBy (g1.by' none) (fun _ _ e => by cases e))
      have HBl : Hid (Below L V2 W1) := Lib.hid (Below.mono g1 (by omega))
      have HMO : Hid (∀ j, j < k + 1 → o j = some ((ms ++ [b])[j]?.getD (⟨#[]⟩))) := Lib.hid (fun j hj => by
        by_cases e : j = k
        · subst e; rw [hb, List.getElem?_append_right (by omega), hml]; simp
        · rw [List.getElem?_append_left (by omega)]; exact hmo j (by omega))
      have HML : Hid ((ms ++ [b]).length = k + 1) := Lib.hid (by rw [List.length_append, hml]; rfl)
      have c4 := HV.out.cell
      have HC1 : Hid (∀ (j : Nat) (u : Value), (List.map Value.string [b])[j]? = some u → (W1.alloc (.cells #[.string b] 9)).cell? (Addr.add ⟨W1.heap.size, 0, none⟩ j) = some u) := Lib.hid (cell_one_new _ _ _)
      clear f0 HO hv hrow hml hmo HC g1 hb
      gi_wp2_with (gi_at_builtin; refine wpListIn_append_own _ rfl _ _ 56 rfl L 9 i0 (.string ⟨#[]⟩) 1 16 Tryd.underlying56 hi hz0 hz1 hz2 rfl (by decide) _ _ _ rfl (HRW.out.alloc _) ⟨W1.heap.size, 0, none⟩ 1 1 (List.map Value.string [b]) rfl rfl HC1.out ?qc3 ?qc4 ?qc5 ?qc6 ?_)
      case qc3 => intro u hu; simp at hu; subst hu; rfl
      case qc4 => unfold maxLen; omega
      case qc5 => omega
      case qc6 => have hsl2 := hsl; simp at hsl2 ⊢; omega
      intro v' w1 hown' hgrow _
      obtain ⟨g', cap', rfl⟩ := ownsRow_succ hown'
      obtain ⟨hv1, hv2, hr2, hk2, hb2⟩ := HV.out.appended (by decide) HRW.out hsl (by omega) hown' hgrow
      have hc1 := hv1.cell
      have hf1 := hv1.frozen
      have n1 := H11.out.not_row (by decide) HRW.out
      have n2 := H21.out.not_row (by decide) HRW.out
      have n3 := H31.out.not_row (by decide) HRW.out
      have H12 := Lib.hid (((H11.out.alloc _).kept hgrow n1).kept (grownBy_setCell' w1 (L + 1 + 1 + 1) (.slice (some ⟨g', 0, none⟩) (k + 1) cap')) (by simp; omega))
      have H22 := Lib.hid (((H21.out.alloc _).kept hgrow n2).kept (grownBy_setCell' w1 (L + 1 + 1 + 1) (.slice (some ⟨g', 0, none⟩) (k + 1) cap')) (by simp))
      have H32 := Lib.hid (((H31.out.alloc _).kept hgrow n3).kept (grownBy_setCell' w1 (L + 1 + 1 + 1) (.slice (some ⟨g', 0, none⟩) (k + 1) cap')) (by simp))
      have HV2 := Lib.hid hv2
      have HR2 := Lib.hid hr2
      have HK2 := Lib.hid (HK.out.trans hk2)
      have HB2 := Lib.hid (HBl.out.trans hb2)
      clear hv1 hv2 hr2 hk2 hb2 n1 n2 n3 hown' hgrow c4
      gi_wp2
      exact ⟨HK2.out, HB2.out, by omega, Lib.hid ⟨_, ms ++ [b], HV2.out, by simpa using HR2.out, HML.out, HMO.out⟩, H12, H22, H32, Lib.hid (grown_low HGr.out HB2.out (by rw [HL.out]; exact Nat.le_refl _)), Nat.lt_of_lt_of_le hs2 HB2.out.size⟩
    · have H21 := (Boxed.kept H2.out (g1.by' none) (by simp))
      have H31 := (Boxed.kept H3.out (g1.by' none) (by simp))
      have q1 := H21.cell
      have q2 := H21.frozen
      have HS2 := Lib.hid (H21.set (.slice none 0 0))
      have h32 := H31.kept (grownBy_setCell' W1 (L + 1) (.slice none 0 0)) (by simp)
      have q3 := h32.cell
      have q4 := h32.frozen
      have H22 := Lib.hid (HS2.out.kept (grownBy_setCell' _ (L + 1 + 1) (.bool false)) (by simp))
      have H32 := Lib.hid (h32.set (.bool false))
      have HK : Hid (KeepsOthers V2 ((W1.setCell ⟨L + 1, 0, none⟩ (.slice none 0 0)).setCell ⟨L + 1 + 1, 0, none⟩ (.bool false))) := Lib.hid (((KeepsOthers.of_grownBy (g1.by' none) (fun _ _ e => by cases e)).trans (KeepsOthers.setCell _ _ _)).trans (KeepsOthers.setCell _ _ _))
      have HBl : Hid (Below L V2 ((W1.setCell ⟨L + 1, 0, none⟩ (.slice none 0 0)).setCell ⟨L + 1 + 1, 0, none⟩ (.bool false))) := Lib.hid (((Below.mono g1 (by omega)).setCell (p := ⟨L + 1, 0, none⟩) (by show L ≤ L + 1; omega) _).setCell (p := ⟨L + 1 + 1, 0, none⟩) (by show L ≤ L + 1 + 1; omega) _)
      have HNo : Hid (∃ j, j < N ∧ o j = none) := Lib.hid ⟨k, hk, hb⟩
      clear f0 HO HC g1 hb H21 H31 h32
      gi_wp2
      exact ⟨HK.out, rfl, H22, H32, Lib.hid (grown_low HGr.out HBl.out (by rw [HL.out]; exact Nat.le_refl _)), HNo, Nat.lt_of_lt_of_le hs2 HBl.out.size⟩
  case done =>
    rintro D V hD ⟨hk, HO, H1, H2, H3, HGr, hs2⟩ hK
    obtain ⟨v, ms, hv, hrow, hml, hmo⟩ := HO.out
    have hL3 : L + 1 + 1 + 1 < D := by rw [HSZ.out] at hD; omega
    rcases own_form hrow with ⟨a, cap, rfl⟩
    have c4 := hv.cell
    have q1 := H2.out.cell
    have q2 := H2.out.frozen
    have s2 := H2.out.set (.slice a N cap)
    have h32 := H3.out.kept (grownBy_setCell' V (L + 1) (.slice a N cap)) (by simp)
    have q3 := h32.cell
    have q4 := h32.frozen
    have s2' := s2.kept (grownBy_setCell' _ (L + 1 + 1) (.bool true)) (by simp)
    have s3 := h32.set (.bool true)
    have hKs := (KeepsOthers.setCell _ ⟨L + 1 + 1, 0, none⟩ (.bool true)).same D _ ((KeepsOthers.setCell V ⟨L + 1, 0, none⟩ (.slice a N cap)).same D _ hK rfl) rfl
    have hrw2 := (hrow.kept (grownBy_setCell' V (L + 1) (.slice a N cap)) (.inr (H2.out.not_row (by decide) hrow).symm)).kept (grownBy_setCell' _ (L + 1 + 1) (.bool true)) (.inr (H3.out.not_row (by decide) hrow).symm)
    have hbl : Below L V ((V.setCell ⟨L + 1, 0, none⟩ (.slice a N cap)).setCell ⟨L + 1 + 1, 0, none⟩ (.bool true)) := ((Below.refl L V).setCell (p := ⟨L + 1, 0, none⟩) (by show L ≤ L + 1; omega) _).setCell (p := ⟨L + 1 + 1, 0, none⟩) (by show L ≤ L + 1 + 1; omega) _
    have HGE := Lib.hid (grown_low (grown_low HGr.out hbl (by rw [HL.out]; exact Nat.le_refl _)) (below_put (B := L) (o' := .deferred none) (by omega) hKs) (by rw [HL.out]; exact Nat.le_refl _))
    have HR1 := Lib.hid ((World.putObj_heap_other (w := (V.setCell ⟨L + 1, 0, none⟩ (.slice a N cap)).setCell ⟨L + 1 + 1, 0, none⟩ (.bool true)) (o := .deferred none) (show L + 1 ≠ D by omega)).trans s2')
    have HR2 := Lib.hid ((World.putObj_heap_other (w := (V.setCell ⟨L + 1, 0, none⟩ (.slice a N cap)).setCell ⟨L + 1 + 1, 0, none⟩ (.bool true)) (o := .deferred none) (show L + 1 + 1 ≠ D by omega)).trans s3)
    have HRW := Lib.hid (ownsRow_putObj hrw2 (.deferred none) hKs rfl)
    have HML := Lib.hid hml
    have HMO := Lib.hid hmo
    have HKS := Lib.hid hKs
    clear HO hv hrow hml hmo s2 h32 s2' s3 hKs hrw2 hbl
    go_wp2
    refine ⟨by simp, .inl ⟨_, _, rfl, run_takeDeferred HKS.out, ?_⟩⟩
    have r1 : (World.putObj _ D (.deferred none)).cell? ⟨L + 1, 0, none⟩ = some (.slice a N cap) := Boxed.cell HR1.out
    have r2 : (World.putObj _ D (.deferred none)).cell? ⟨L + 1 + 1, 0, none⟩ = some (.bool true) := Boxed.cell HR2.out
    exact ⟨.tuple #[.slice a N cap, .bool true], by simp [results, Tryd.results40, go_sem, r1, r2], .inl ⟨_, ms, rfl, HML.out, HMO.out, by rw [HL.out]; exact HRW.out⟩, HGE.out⟩
  case stop =>
    rintro D c V hD ⟨rfl, H2, H3, HGr, HNo, hs2⟩ hK
    have hL3 : L + 1 + 1 + 1 < D := by rw [HSZ.out] at hD; omega
    refine (wpIn_wide (n := 9)).2 ?_
    have HR1 := Lib.hid ((World.putObj_heap_other (w := V) (o := .deferred none) (show L + 1 ≠ D by omega)).trans H2.out)
    have HR2 := Lib.hid ((World.putObj_heap_other (w := V) (o := .deferred none) (show L + 1 + 1 ≠ D by omega)).trans H3.out)
    have HGE := Lib.hid (grown_low HGr.out (below_put (B := L) (o' := .deferred none) (by omega) hK) (by rw [HL.out]; exact Nat.le_refl _))
    go_wp2
    refine ⟨by simp, .inl ⟨_, _, rfl, run_takeDeferred hK, ?_⟩⟩
    have r1 : (World.putObj _ D (.deferred none)).cell? ⟨L + 1, 0, none⟩ = some (.slice none 0 0) := Boxed.cell HR1.out
    have r2 : (World.putObj _ D (.deferred none)).cell? ⟨L + 1 + 1, 0, none⟩ = some (.bool false) := Boxed.cell HR2.out
    exact ⟨.tuple #[.slice none 0 0, .bool false], by simp [results, Tryd.results40, go_sem, r1, r2], .inr ⟨rfl, HNo.out⟩, HGE.out⟩

theorem info_mapN : (Tryd.prog.info? 2).map (fun i => (i.zero, i.size, i.bytes)) = some (some (.int .i64 0), 1, 8) := by kernel_rfl
set_option maxRecDepth 100000 in
set_option maxHeartbeats 4000000 in
/-- mapped over an iterator that yields N values, with a function that makes of the k-th what o says. -/
theorem mapN {gf gs : Nat} {lb caps : Array Value} (heg : ∀ args w, (callFunc gf args).run Tryd.prog w = .ok (.enter gf args) w) (hes : ∀ args w, (callFunc gs args).run Tryd.prog w = .ok (.enter gs args) w)
    {E : Nat → ByteArray} {o : Nat → Option Int} {N : Nat} {rr : Option Nat} (w : World) (hN : N ≤ 1048576) (hr : ∀ x, rr = some x → x < w.heap.size)
    (hseq : ∀ W, Grew w W → YieldsO Fence.wide 8 Tryd.prog gf lb (fun k => #[.string (E k)]) N (Below w.heap.size) (fun V V' => V.grownBy V' rr) W)
    (hf : ∀ k W, k < N → w.grownBy W rr → Calls Tryd.prog gs (#[.string (E k)] ++ caps) W fun e W' => ((∃ b : Int, o k = some b ∧ e = .returned (.tuple #[.int .i64 b, .bool true])) ∨ (o k = none ∧ ∃ b : Int, e = .returned (.tuple #[.int .i64 b, .bool false]))) ∧ Grew W W') :
    Calls Tryd.prog 47 #[.func (.func gf) #[] lb, .func (.func gs) #[] caps] w fun e w' =>
      ((∃ v ms, e = .returned (.tuple #[v, .bool true]) ∧ ms.length = N ∧ (∀ j, j < N → o j = some (ms[j]?.getD (0))) ∧ w'.ownsRow w.heap.size 2 1 v N (List.map (Value.int .i64) ms)) ∨
       (e = .returned (.tuple #[.slice none 0 0, .bool false]) ∧ ∃ j, j < N ∧ o j = none)) ∧ w.grownBy w' rr := by
  obtain ⟨i0, hi, hz0, hz1, hz2⟩ := info_parts info_mapN
  have hg : Grew w ((((w.alloc (.cells #[.func (.func gs) #[] caps] 79)).alloc (.cells #[.slice none 0 0] 22)).alloc (.cells #[.bool false] 4)).alloc (.cells #[.slice none 0 0] 22)) := ((((Grew.refl w).alloc _).alloc _).alloc _).alloc _
  have b1 := (((Boxed.new w 79 (.func (.func gs) #[] caps)).alloc (.cells #[.slice none 0 0] 22)).alloc (.cells #[.bool false] 4)).alloc (.cells #[.slice none 0 0] 22)
  have b2 := ((Boxed.new (w.alloc (.cells #[.func (.func gs) #[] caps] 79)) 22 (.slice none 0 0)).alloc (.cells #[.bool false] 4)).alloc (.cells #[.slice none 0 0] 22)
  have b3 := (Boxed.new ((w.alloc (.cells #[.func (.func gs) #[] caps] 79)).alloc (.cells #[.slice none 0 0] 22)) 4 (.bool false)).alloc (.cells #[.slice none 0 0] 22)
  have b4 := Boxed.new (((w.alloc (.cells #[.func (.func gs) #[] caps] 79)).alloc (.cells #[.slice none 0 0] 22)).alloc (.cells #[.bool false] 4)) 22 (.slice none 0 0)
  rw [World.size_alloc] at b2
  rw [World.size_alloc, World.size_alloc] at b3
  rw [World.size_alloc, World.size_alloc, World.size_alloc] at b4
  have hsz : ((((w.alloc (.cells #[.func (.func gs) #[] caps] 79)).alloc (.cells #[.slice none 0 0] 22)).alloc (.cells #[.bool false] 4)).alloc (.cells #[.slice none 0 0] 22)).heap.size = w.heap.size + 1 + 1 + 1 + 1 := by simp
  have HG := Lib.hid hg
  have B1 := Lib.hid b1
  have B2 := Lib.hid b2
  have B3 := Lib.hid b3
  have B4 := Lib.hid b4
  have HSZ := Lib.hid hsz
  have HSeq := Lib.hid hseq
  have HF := Lib.hid hf
  have HR := Lib.hid hr
  clear hg b1 b2 b3 b4 hsz hseq hf hr
  refine (callsIn_wide (n := 9)).1 ?_
  refine callsIn_of_wp_marks Tryd.func47 rfl trivial ?_ rfl
  simp only [Tryd.ntmps47, List.size_toArray, List.length_cons, List.length_nil, Nat.reduceAdd, Nat.reduceSub, Array.replicate_succ, Array.replicate_zero, List.push_toArray, List.append_toArray, List.nil_append, List.cons_append]
  refine wpIn_wide.2 ?_
  go_wp2_with fail
  generalize (((w.alloc (.cells #[.func (.func gs) #[] caps] 79)).alloc (.cells #[.slice none 0 0] 22)).alloc (.cells #[.bool false] 4)).alloc (.cells #[.slice none 0 0] 22) = W0 at *
  obtain ⟨L, hL⟩ : ∃ L, w.heap.size = L := ⟨_, rfl⟩
  have HL := Lib.hid hL
  rw [hL] at B1 B2 B3 B4 HSZ HSeq HR ⊢
  clear hL
  have hGB : Grew w W0 := HG.out
  have HO0 : Hid (∃ v ms, Boxed W0 (L + 1 + 1 + 1) 22 v ∧ W0.ownsRow L 2 1 v 0 (List.map (Value.int .i64) ms) ∧ ms.length = 0 ∧ ∀ j, j < 0 → o j = some (ms[j]?.getD (0))) := Lib.hid ⟨_, [], B4.out, World.ownsRow_nil _ _ _ _, rfl, fun j hj => absurd hj (Nat.not_lt_zero _)⟩
  refine (wpIn_wide (n := 9)).1 (range_own (F := Fence.wide) (n := 9) rfl (by omega) (gf := gf) (lb := lb) rfl trivial heg
    (enc := fun k => #[.string (E k)]) (N := N) (Kp := Below L) (fun x y z h k => h.trans k) (fun x y h => h.mono (by rw [HSZ.out]; omega))
    (Ow := fun V V' => V.grownBy V' rr) (fun V V' h b hb hlt => h.block b hlt (fun e => by have := HR.out b e.symm; rw [HSZ.out] at hb; omega))
    (HSeq.out W0 hGB) (fun _ => rfl)
    (fun k W => k ≤ N ∧ Hid (∃ v ms, Boxed W (L + 1 + 1 + 1) 22 v ∧ W.ownsRow L 2 1 v k (List.map (Value.int .i64) ms) ∧ ms.length = k ∧ ∀ j, j < k → o j = some (ms[j]?.getD (0))) ∧ Hid (Boxed W L 79 (.func (.func gs) #[] caps)) ∧ Hid (Boxed W (L + 1) 22 (.slice none 0 0)) ∧ Hid (Boxed W (L + 1 + 1) 4 (.bool false)) ∧ Hid (w.grownBy W rr) ∧ L + 1 + 1 + 1 < W.heap.size)
    (fun c W => c = .ret ∧ Hid (Boxed W (L + 1) 22 (.slice none 0 0)) ∧ Hid (Boxed W (L + 1 + 1) 4 (.bool false)) ∧ Hid (w.grownBy W rr) ∧ Hid (∃ j, j < N ∧ o j = none) ∧ L + 1 + 1 + 1 < W.heap.size)
    ?hI ?hIx ?hOI ⟨Nat.zero_le _, HO0, B1, B2, B3, Lib.hid (hGB.by' _), by rw [HSZ.out]; omega⟩ ?round ?done ?stop)
  case hI =>
    rintro k W W' ⟨h1, ⟨v, ms, h2, h3, h4, h5⟩, h6, h7, h8, h9, h10⟩ g kc
    have hs := g.size
    rw [HSZ.out] at g
    exact ⟨h1, Lib.hid ⟨v, ms, (g.block _ (by omega)).trans h2, own_cells h3 kc, h4, h5⟩, Lib.hid ((g.block _ (by omega)).trans h6.out), Lib.hid ((g.block _ (by omega)).trans h7.out), Lib.hid ((g.block _ (by omega)).trans h8.out),
      Lib.hid (grown_low h9.out g (by rw [HL.out]; omega)), Nat.lt_of_lt_of_le h10 hs⟩
  case hIx =>
    rintro c W W' ⟨h1, h7, h8, h9, h11, h10⟩ g kc
    have hs := g.size
    rw [HSZ.out] at g
    exact ⟨h1, Lib.hid ((g.block _ (by omega)).trans h7.out), Lib.hid ((g.block _ (by omega)).trans h8.out), Lib.hid (grown_low h9.out g (by rw [HL.out]; omega)), h11, Nat.lt_of_lt_of_le h10 hs⟩
  case hOI =>
    rintro k W W' ⟨h1, ⟨v, ms, h2, h3, h4, h5⟩, h6, h7, h8, h9, h10⟩ g
    have hne : ∀ x, L ≤ x → some x ≠ rr := fun x hx e => by have := HR.out x e.symm; omega
    exact ⟨h1, Lib.hid ⟨v, ms, h2.kept g (hne _ (by omega)), own_left h3 g (fun x hx => hne x (World.ownsRow.lt h3 x hx).1), h4, h5⟩, Lib.hid (h6.out.kept g (hne _ (by omega))), Lib.hid (h7.out.kept g (hne _ (by omega))), Lib.hid (h8.out.kept g (hne _ (by omega))),
      Lib.hid (grownBy_trans h9.out g), Nat.lt_of_lt_of_le h10 g.size⟩
  case round =>
    rintro l k V hi hk
    clear hi HO0 HG B1 B2 B3 B4 HSeq hGB
    gi_wp2
    refine ⟨trivial, ?_⟩
    rintro V2 ⟨hk2, HO, H1, H2, H3, HGr, hs2⟩
    clear hk2
    have f0 := H1.out.cell
    have HC := Lib.hid (HF.out k V2 hk HGr.out)
    gi_wp2_with fail
    refine ⟨trivial, (callsIn_of_calls HC.out).mono ?_⟩
    rintro e W1 ⟨⟨b, hb, rfl⟩ | ⟨hb, b, rfl⟩, g1⟩
    · obtain ⟨v, ms, hv, hrow, hml, hmo⟩ := HO.out
      have hsl : L ≤ W1.heap.size := by have := g1.size; omega
      have HV := Lib.hid (Boxed.kept hv (g1.by' none) (by simp))
      have HRW := Lib.hid (own_grow hrow g1)
      have H11 := Lib.hid (Boxed.kept H1.out (g1.by' none) (by simp))
      have H21 := Lib.hid (Boxed.kept H2.out (g1.by' none) (by simp))
      have H31 := Lib.hid (Boxed.kept H3.out (g1.by' none) (by simp))
      have HK := Lib.hid (KeepsOthers.of_grownBy (g1.by' none) (fun _ _ e => by cases e))
      have HBl : Hid (Below L V2 W1) := Lib.hid (Below.mono g1 (by omega))
      have HMO : Hid (∀ j, j < k + 1 → o j = some ((ms ++ [b])[j]?.getD (0))) := Lib.hid (fun j hj => by
        by_cases e : j = k
        · subst e; rw [hb, List.getElem?_append_right (by omega), hml]; simp
        · rw [List.getElem?_append_left (by omega)]; exact hmo j (by omega))
      have HML : Hid ((ms ++ [b]).length = k + 1) := Lib.hid (by rw [List.length_append, hml]; rfl)
      have c4 := HV.out.cell
      have HC1 : Hid (∀ (j : Nat) (u : Value), (List.map (Value.int .i64) [b])[j]? = some u → (W1.alloc (.cells #[.int .i64 b] 2)).cell? (Addr.add ⟨W1.heap.size, 0, none⟩ j) = some u) := Lib.hid (cell_one_new _ _ _)
      clear f0 HO hv hrow hml hmo HC g1 hb
      gi_wp2_with (gi_at_builtin; refine wpListIn_append_own _ rfl _ _ 22 rfl L 2 i0 (.int .i64 0) 1 8 Tryd.underlying22 hi hz0 hz1 hz2 rfl (by decide) _ _ _ rfl (HRW.out.alloc _) ⟨W1.heap.size, 0, none⟩ 1 1 (List.map (Value.int .i64) [b]) rfl rfl HC1.out ?qc3 ?qc4 ?qc5 ?qc6 ?_)
      case qc3 => intro u hu; simp at hu; subst hu; rfl
      case qc4 => unfold maxLen; omega
      case qc5 => omega
      case qc6 => have hsl2 := hsl; simp at hsl2 ⊢; omega
      intro v' w1 hown' hgrow _
      obtain ⟨g', cap', rfl⟩ := ownsRow_succ hown'
      obtain ⟨hv1, hv2, hr2, hk2, hb2⟩ := HV.out.appended (by decide) HRW.out hsl (by omega) hown' hgrow
      have hc1 := hv1.cell
      have hf1 := hv1.frozen
      have n1 := H11.out.not_row (by decide) HRW.out
      have n2 := H21.out.not_row (by decide) HRW.out
      have n3 := H31.out.not_row (by decide) HRW.out
      have H12 := Lib.hid (((H11.out.alloc _).kept hgrow n1).kept (grownBy_setCell' w1 (L + 1 + 1 + 1) (.slice (some ⟨g', 0, none⟩) (k + 1) cap')) (by simp; omega))
      have H22 := Lib.hid (((H21.out.alloc _).kept hgrow n2).kept (grownBy_setCell' w1 (L + 1 + 1 + 1) (.slice (some ⟨g', 0, none⟩) (k + 1) cap')) (by simp))
      have H32 := Lib.hid (((H31.out.alloc _).kept hgrow n3).kept (grownBy_setCell' w1 (L + 1 + 1 + 1) (.slice (some ⟨g', 0, none⟩) (k + 1) cap')) (by simp))
      have HV2 := Lib.hid hv2
      have HR2 := Lib.hid hr2
      have HK2 := Lib.hid (HK.out.trans hk2)
      have HB2 := Lib.hid (HBl.out.trans hb2)
      clear hv1 hv2 hr2 hk2 hb2 n1 n2 n3 hown' hgrow c4
      gi_wp2
      exact ⟨HK2.out, HB2.out, by omega, Lib.hid ⟨_, ms ++ [b], HV2.out, by simpa using HR2.out, HML.out, HMO.out⟩, H12, H22, H32, Lib.hid (grown_low HGr.out HB2.out (by rw [HL.out]; exact Nat.le_refl _)), Nat.lt_of_lt_of_le hs2 HB2.out.size⟩
    · have H21 := (Boxed.kept H2.out (g1.by' none) (by simp))
      have H31 := (Boxed.kept H3.out (g1.by' none) (by simp))
      have q1 := H21.cell
      have q2 := H21.frozen
      have HS2 := Lib.hid (H21.set (.slice none 0 0))
      have h32 := H31.kept (grownBy_setCell' W1 (L + 1) (.slice none 0 0)) (by simp)
      have q3 := h32.cell
      have q4 := h32.frozen
      have H22 := Lib.hid (HS2.out.kept (grownBy_setCell' _ (L + 1 + 1) (.bool false)) (by simp))
      have H32 := Lib.hid (h32.set (.bool false))
      have HK : Hid (KeepsOthers V2 ((W1.setCell ⟨L + 1, 0, none⟩ (.slice none 0 0)).setCell ⟨L + 1 + 1, 0, none⟩ (.bool false))) := Lib.hid (((KeepsOthers.of_grownBy (g1.by' none) (fun _ _ e => by cases e)).trans (KeepsOthers.setCell _ _ _)).trans (KeepsOthers.setCell _ _ _))
      have HBl : Hid (Below L V2 ((W1.setCell ⟨L + 1, 0, none⟩ (.slice none 0 0)).setCell ⟨L + 1 + 1, 0, none⟩ (.bool false))) := Lib.hid (((Below.mono g1 (by omega)).setCell (p := ⟨L + 1, 0, none⟩) (by show L ≤ L + 1; omega) _).setCell (p := ⟨L + 1 + 1, 0, none⟩) (by show L ≤ L + 1 + 1; omega) _)
      have HNo : Hid (∃ j, j < N ∧ o j = none) := Lib.hid ⟨k, hk, hb⟩
      clear f0 HO HC g1 hb H21 H31 h32
      gi_wp2
      exact ⟨HK.out, rfl, H22, H32, Lib.hid (grown_low HGr.out HBl.out (by rw [HL.out]; exact Nat.le_refl _)), HNo, Nat.lt_of_lt_of_le hs2 HBl.out.size⟩
  case done =>
    rintro D V hD ⟨hk, HO, H1, H2, H3, HGr, hs2⟩ hK
    obtain ⟨v, ms, hv, hrow, hml, hmo⟩ := HO.out
    have hL3 : L + 1 + 1 + 1 < D := by rw [HSZ.out] at hD; omega
    rcases own_form hrow with ⟨a, cap, rfl⟩
    have c4 := hv.cell
    have q1 := H2.out.cell
    have q2 := H2.out.frozen
    have s2 := H2.out.set (.slice a N cap)
    have h32 := H3.out.kept (grownBy_setCell' V (L + 1) (.slice a N cap)) (by simp)
    have q3 := h32.cell
    have q4 := h32.frozen
    have s2' := s2.kept (grownBy_setCell' _ (L + 1 + 1) (.bool true)) (by simp)
    have s3 := h32.set (.bool true)
    have hKs := (KeepsOthers.setCell _ ⟨L + 1 + 1, 0, none⟩ (.bool true)).same D _ ((KeepsOthers.setCell V ⟨L + 1, 0, none⟩ (.slice a N cap)).same D _ hK rfl) rfl
    have hrw2 := (hrow.kept (grownBy_setCell' V (L + 1) (.slice a N cap)) (.inr (H2.out.not_row (by decide) hrow).symm)).kept (grownBy_setCell' _ (L + 1 + 1) (.bool true)) (.inr (H3.out.not_row (by decide) hrow).symm)
    have hbl : Below L V ((V.setCell ⟨L + 1, 0, none⟩ (.slice a N cap)).setCell ⟨L + 1 + 1, 0, none⟩ (.bool true)) := ((Below.refl L V).setCell (p := ⟨L + 1, 0, none⟩) (by show L ≤ L + 1; omega) _).setCell (p := ⟨L + 1 + 1, 0, none⟩) (by show L ≤ L + 1 + 1; omega) _
    have HGE := Lib.hid (grown_low (grown_low HGr.out hbl (by rw [HL.out]; exact Nat.le_refl _)) (below_put (B := L) (o' := .deferred none) (by omega) hKs) (by rw [HL.out]; exact Nat.le_refl _))
    have HR1 := Lib.hid ((World.putObj_heap_other (w := (V.setCell ⟨L + 1, 0, none⟩ (.slice a N cap)).setCell ⟨L + 1 + 1, 0, none⟩ (.bool true)) (o := .deferred none) (show L + 1 ≠ D by omega)).trans s2')
    have HR2 := Lib.hid ((World.putObj_heap_other (w := (V.setCell ⟨L + 1, 0, none⟩ (.slice a N cap)).setCell ⟨L + 1 + 1, 0, none⟩ (.bool true)) (o := .deferred none) (show L + 1 + 1 ≠ D by omega)).trans s3)
    have HRW := Lib.hid (ownsRow_putObj hrw2 (.deferred none) hKs rfl)
    have HML := Lib.hid hml
    have HMO := Lib.hid hmo
    have HKS := Lib.hid hKs
    clear HO hv hrow hml hmo s2 h32 s2' s3 hKs hrw2 hbl
    go_wp2
    refine ⟨by simp, .inl ⟨_, _, rfl, run_takeDeferred HKS.out, ?_⟩⟩
    have r1 : (World.putObj _ D (.deferred none)).cell? ⟨L + 1, 0, none⟩ = some (.slice a N cap) := Boxed.cell HR1.out
    have r2 : (World.putObj _ D (.deferred none)).cell? ⟨L + 1 + 1, 0, none⟩ = some (.bool true) := Boxed.cell HR2.out
    exact ⟨.tuple #[.slice a N cap, .bool true], by simp [results, Tryd.results47, go_sem, r1, r2], .inl ⟨_, ms, rfl, HML.out, HMO.out, by rw [HL.out]; exact HRW.out⟩, HGE.out⟩
  case stop =>
    rintro D c V hD ⟨rfl, H2, H3, HGr, HNo, hs2⟩ hK
    have hL3 : L + 1 + 1 + 1 < D := by rw [HSZ.out] at hD; omega
    refine (wpIn_wide (n := 9)).2 ?_
    have HR1 := Lib.hid ((World.putObj_heap_other (w := V) (o := .deferred none) (show L + 1 ≠ D by omega)).trans H2.out)
    have HR2 := Lib.hid ((World.putObj_heap_other (w := V) (o := .deferred none) (show L + 1 + 1 ≠ D by omega)).trans H3.out)
    have HGE := Lib.hid (grown_low HGr.out (below_put (B := L) (o' := .deferred none) (by omega) hK) (by rw [HL.out]; exact Nat.le_refl _))
    go_wp2
    refine ⟨by simp, .inl ⟨_, _, rfl, run_takeDeferred hK, ?_⟩⟩
    have r1 : (World.putObj _ D (.deferred none)).cell? ⟨L + 1, 0, none⟩ = some (.slice none 0 0) := Boxed.cell HR1.out
    have r2 : (World.putObj _ D (.deferred none)).cell? ⟨L + 1 + 1, 0, none⟩ = some (.bool false) := Boxed.cell HR2.out
    exact ⟨.tuple #[.slice none 0 0, .bool false], by simp [results, Tryd.results47, go_sem, r1, r2], .inr ⟨rfl, HNo.out⟩, HGE.out⟩

theorem info_mapE : (Tryd.prog.info? 24).map (fun i => (i.zero, i.size, i.bytes)) = some (some (.agg #[.slice none 0 0, .slice none 0 0]), 2, 48) := by kernel_rfl
set_option maxRecDepth 100000 in
set_option maxHeartbeats 4000000 in
/-- mapped over an iterator that yields N values, with a function that makes of the k-th what o says. -/
theorem mapE {gf gs : Nat} {lb caps : Array Value} (heg : ∀ args w, (callFunc gf args).run Tryd.prog w = .ok (.enter gf args) w) (hes : ∀ args w, (callFunc gs args).run Tryd.prog w = .ok (.enter gs args) w)
    {E : Nat → Int} {o : Nat → Option (Pl × Ex)} {N : Nat} {rr : Option Nat} (w : World) (hN : N ≤ 1048576) (hr : ∀ x, rr = some x → x < w.heap.size)
    (hseq : ∀ W, Grew w W → YieldsO Fence.wide 8 Tryd.prog gf lb (fun k => #[.int .i64 (E k)]) N (Below w.heap.size) (fun V V' => V.grownBy V' rr) W)
    (hf : ∀ k W, k < N → w.grownBy W rr → Calls Tryd.prog gs (#[.int .i64 (E k)] ++ caps) W fun e W' => ((∃ b : (Pl × Ex), o k = some b ∧ e = .returned (.tuple #[.agg #[.slice b.1.xa b.2.1.length b.1.xc, .slice b.1.ya b.2.2.length b.1.yc], .bool true])) ∨ (o k = none ∧ ∃ b : (Pl × Ex), e = .returned (.tuple #[.agg #[.slice b.1.xa b.2.1.length b.1.xc, .slice b.1.ya b.2.2.length b.1.yc], .bool false]))) ∧ Grew W W') :
    Calls Tryd.prog 34 #[.func (.func gf) #[] lb, .func (.func gs) #[] caps] w fun e w' =>
      ((∃ v ms, e = .returned (.tuple #[v, .bool true]) ∧ ms.length = N ∧ (∀ j, j < N → o j = some (ms[j]?.getD ((⟨none, 0, none, 0⟩, ([], []))))) ∧ w'.ownsRow w.heap.size 24 2 v N (ecells ms)) ∨
       (e = .returned (.tuple #[.slice none 0 0, .bool false]) ∧ ∃ j, j < N ∧ o j = none)) ∧ w.grownBy w' rr := by
  obtain ⟨i0, hi, hz0, hz1, hz2⟩ := info_parts info_mapE
  have hg : Grew w ((((w.alloc (.cells #[.func (.func gs) #[] caps] 65)).alloc (.cells #[.slice none 0 0] 26)).alloc (.cells #[.bool false] 4)).alloc (.cells #[.slice none 0 0] 26)) := ((((Grew.refl w).alloc _).alloc _).alloc _).alloc _
  have b1 := (((Boxed.new w 65 (.func (.func gs) #[] caps)).alloc (.cells #[.slice none 0 0] 26)).alloc (.cells #[.bool false] 4)).alloc (.cells #[.slice none 0 0] 26)
  have b2 := ((Boxed.new (w.alloc (.cells #[.func (.func gs) #[] caps] 65)) 26 (.slice none 0 0)).alloc (.cells #[.bool false] 4)).alloc (.cells #[.slice none 0 0] 26)
  have b3 := (Boxed.new ((w.alloc (.cells #[.func (.func gs) #[] caps] 65)).alloc (.cells #[.slice none 0 0] 26)) 4 (.bool false)).alloc (.cells #[.slice none 0 0] 26)
  have b4 := Boxed.new (((w.alloc (.cells #[.func (.func gs) #[] caps] 65)).alloc (.cells #[.slice none 0 0] 26)).alloc (.cells #[.bool false] 4)) 26 (.slice none 0 0)
  rw [World.size_alloc] at b2
  rw [World.size_alloc, World.size_alloc] at b3
  rw [World.size_alloc, World.size_alloc, World.size_alloc] at b4
  have hsz : ((((w.alloc (.cells #[.func (.func gs) #[] caps] 65)).alloc (.cells #[.slice none 0 0] 26)).alloc (.cells #[.bool false] 4)).alloc (.cells #[.slice none 0 0] 26)).heap.size = w.heap.size + 1 + 1 + 1 + 1 := by simp
  have HG := Lib.hid hg
  have B1 := Lib.hid b1
  have B2 := Lib.hid b2
  have B3 := Lib.hid b3
  have B4 := Lib.hid b4
  have HSZ := Lib.hid hsz
  have HSeq := Lib.hid hseq
  have HF := Lib.hid hf
  have HR := Lib.hid hr
  clear hg b1 b2 b3 b4 hsz hseq hf hr
  refine (callsIn_wide (n := 9)).1 ?_
  refine callsIn_of_wp_marks Tryd.func34 rfl trivial ?_ rfl
  simp only [Tryd.ntmps34, List.size_toArray, List.length_cons, List.length_nil, Nat.reduceAdd, Nat.reduceSub, Array.replicate_succ, Array.replicate_zero, List.push_toArray, List.append_toArray, List.nil_append, List.cons_append]
  refine wpIn_wide.2 ?_
  go_wp2_with fail
  generalize (((w.alloc (.cells #[.func (.func gs) #[] caps] 65)).alloc (.cells #[.slice none 0 0] 26)).alloc (.cells #[.bool false] 4)).alloc (.cells #[.slice none 0 0] 26) = W0 at *
  obtain ⟨L, hL⟩ : ∃ L, w.heap.size = L := ⟨_, rfl⟩
  have HL := Lib.hid hL
  rw [hL] at B1 B2 B3 B4 HSZ HSeq HR ⊢
  clear hL
  have hGB : Grew w W0 := HG.out
  have HO0 : Hid (∃ v ms, Boxed W0 (L + 1 + 1 + 1) 26 v ∧ W0.ownsRow L 24 2 v 0 (ecells ms) ∧ ms.length = 0 ∧ ∀ j, j < 0 → o j = some (ms[j]?.getD ((⟨none, 0, none, 0⟩, ([], []))))) := Lib.hid ⟨_, [], B4.out, World.ownsRow_nil _ _ _ _, rfl, fun j hj => absurd hj (Nat.not_lt_zero _)⟩
  refine (wpIn_wide (n := 9)).1 (range_own (F := Fence.wide) (n := 9) rfl (by omega) (gf := gf) (lb := lb) rfl trivial heg
    (enc := fun k => #[.int .i64 (E k)]) (N := N) (Kp := Below L) (fun x y z h k => h.trans k) (fun x y h => h.mono (by rw [HSZ.out]; omega))
    (Ow := fun V V' => V.grownBy V' rr) (fun V V' h b hb hlt => h.block b hlt (fun e => by have := HR.out b e.symm; rw [HSZ.out] at hb; omega))
    (HSeq.out W0 hGB) (fun _ => rfl)
    (fun k W => k ≤ N ∧ Hid (∃ v ms, Boxed W (L + 1 + 1 + 1) 26 v ∧ W.ownsRow L 24 2 v k (ecells ms) ∧ ms.length = k ∧ ∀ j, j < k → o j = some (ms[j]?.getD ((⟨none, 0, none, 0⟩, ([], []))))) ∧ Hid (Boxed W L 65 (.func (.func gs) #[] caps)) ∧ Hid (Boxed W (L + 1) 26 (.slice none 0 0)) ∧ Hid (Boxed W (L + 1 + 1) 4 (.bool false)) ∧ Hid (w.grownBy W rr) ∧ L + 1 + 1 + 1 < W.heap.size)
    (fun c W => c = .ret ∧ Hid (Boxed W (L + 1) 26 (.slice none 0 0)) ∧ Hid (Boxed W (L + 1 + 1) 4 (.bool false)) ∧ Hid (w.grownBy W rr) ∧ Hid (∃ j, j < N ∧ o j = none) ∧ L + 1 + 1 + 1 < W.heap.size)
    ?hI ?hIx ?hOI ⟨Nat.zero_le _, HO0, B1, B2, B3, Lib.hid (hGB.by' _), by rw [HSZ.out]; omega⟩ ?round ?done ?stop)
  case hI =>
    rintro k W W' ⟨h1, ⟨v, ms, h2, h3, h4, h5⟩, h6, h7, h8, h9, h10⟩ g kc
    have hs := g.size
    rw [HSZ.out] at g
    exact ⟨h1, Lib.hid ⟨v, ms, (g.block _ (by omega)).trans h2, own_cells h3 kc, h4, h5⟩, Lib.hid ((g.block _ (by omega)).trans h6.out), Lib.hid ((g.block _ (by omega)).trans h7.out), Lib.hid ((g.block _ (by omega)).trans h8.out),
      Lib.hid (grown_low h9.out g (by rw [HL.out]; omega)), Nat.lt_of_lt_of_le h10 hs⟩
  case hIx =>
    rintro c W W' ⟨h1, h7, h8, h9, h11, h10⟩ g kc
    have hs := g.size
    rw [HSZ.out] at g
    exact ⟨h1, Lib.hid ((g.block _ (by omega)).trans h7.out), Lib.hid ((g.block _ (by omega)).trans h8.out), Lib.hid (grown_low h9.out g (by rw [HL.out]; omega)), h11, Nat.lt_of_lt_of_le h10 hs⟩
  case hOI =>
    rintro k W W' ⟨h1, ⟨v, ms, h2, h3, h4, h5⟩, h6, h7, h8, h9, h10⟩ g
    have hne : ∀ x, L ≤ x → some x ≠ rr := fun x hx e => by have := HR.out x e.symm; omega
    exact ⟨h1, Lib.hid ⟨v, ms, h2.kept g (hne _ (by omega)), own_left h3 g (fun x hx => hne x (World.ownsRow.lt h3 x hx).1), h4, h5⟩, Lib.hid (h6.out.kept g (hne _ (by omega))), Lib.hid (h7.out.kept g (hne _ (by omega))), Lib.hid (h8.out.kept g (hne _ (by omega))),
      Lib.hid (grownBy_trans h9.out g), Nat.lt_of_lt_of_le h10 g.size⟩
  case round =>
    rintro l k V hi hk
    clear hi HO0 HG B1 B2 B3 B4 HSeq hGB
    gi_wp2
    refine ⟨trivial, ?_⟩
    rintro V2 ⟨hk2, HO, H1, H2, H3, HGr, hs2⟩
    clear hk2
    have f0 := H1.out.cell
    have HC := Lib.hid (HF.out k V2 hk HGr.out)
    gi_wp2_with fail
    refine ⟨trivial, (callsIn_of_calls HC.out).mono ?_⟩
    rintro e W1 ⟨⟨b, hb, rfl⟩ | ⟨hb, b, rfl⟩, g1⟩
    · replace g1 := Grew.alloc g1 (.cells #[.slice b.1.xa b.2.1.length b.1.xc, .slice b.1.ya b.2.2.length b.1.yc] 24)
      have d0 := (Two.new W1 24 (.slice b.1.xa b.2.1.length b.1.xc) (.slice b.1.ya b.2.2.length b.1.yc)).c0
      have d1 := (Two.new W1 24 (.slice b.1.xa b.2.1.length b.1.xc) (.slice b.1.ya b.2.2.length b.1.yc)).c1
      obtain ⟨v, ms, hv, hrow, hml, hmo⟩ := HO.out
      have hsl : L ≤ (W1.alloc (.cells #[.slice b.1.xa b.2.1.length b.1.xc, .slice b.1.ya b.2.2.length b.1.yc] 24)).heap.size := by have := g1.size; omega
      have HV := Lib.hid (Boxed.kept hv (g1.by' none) (by simp))
      have HRW := Lib.hid (own_grow hrow g1)
      have H11 := Lib.hid (Boxed.kept H1.out (g1.by' none) (by simp))
      have H21 := Lib.hid (Boxed.kept H2.out (g1.by' none) (by simp))
      have H31 := Lib.hid (Boxed.kept H3.out (g1.by' none) (by simp))
      have HK := Lib.hid (KeepsOthers.of_grownBy (g1.by' none) (fun _ _ e => by cases e))
      have HBl : Hid (Below L V2 (W1.alloc (.cells #[.slice b.1.xa b.2.1.length b.1.xc, .slice b.1.ya b.2.2.length b.1.yc] 24))) := Lib.hid (Below.mono g1 (by omega))
      have HMO : Hid (∀ j, j < k + 1 → o j = some ((ms ++ [b])[j]?.getD ((⟨none, 0, none, 0⟩, ([], []))))) := Lib.hid (fun j hj => by
        by_cases e : j = k
        · subst e; rw [hb, List.getElem?_append_right (by omega), hml]; simp
        · rw [List.getElem?_append_left (by omega)]; exact hmo j (by omega))
      have HML : Hid ((ms ++ [b]).length = k + 1) := Lib.hid (by rw [List.length_append, hml]; rfl)
      have c4 := HV.out.cell
      have HC1 : Hid (∀ (j : Nat) (u : Value), (ecells [b])[j]? = some u → ((W1.alloc (.cells #[.slice b.1.xa b.2.1.length b.1.xc, .slice b.1.ya b.2.2.length b.1.yc] 24)).alloc (.cells #[.slice b.1.xa b.2.1.length b.1.xc, .slice b.1.ya b.2.2.length b.1.yc] 24)).cell? (Addr.add ⟨W1.heap.size + 1, 0, none⟩ j) = some u) := Lib.hid (by intro j u hu; have := cell_two_new' (W1.alloc (.cells #[.slice b.1.xa b.2.1.length b.1.xc, .slice b.1.ya b.2.2.length b.1.yc] 24)) _ _ 24 j u hu; rwa [World.size_alloc] at this)
      clear f0 HO hv hrow hml hmo HC g1 hb
      gi_wp2_with (gi_at_builtin; refine wpListIn_append_own _ rfl _ _ 26 rfl L 24 i0 (.agg #[.slice none 0 0, .slice none 0 0]) 2 48 Tryd.underlying26 hi hz0 hz1 hz2 rfl (by decide) _ _ _ rfl (HRW.out.alloc _) ⟨W1.heap.size + 1, 0, none⟩ 1 1 (ecells [b]) rfl rfl HC1.out ?qc3 ?qc4 ?qc5 ?qc6 ?_)
      case qc3 => intro u hu; simp [ecells, Pl.x, Pl.y] at hu; rcases hu with rfl | rfl <;> rfl
      case qc4 => unfold maxLen; omega
      case qc5 => omega
      case qc6 => have hsl2 := hsl; simp at hsl2 ⊢; omega
      intro v' w1 hown' hgrow _
      obtain ⟨g', cap', rfl⟩ := ownsRow_succ hown'
      obtain ⟨hv1, hv2, hr2, hk2, hb2⟩ := HV.out.appended (by decide) HRW.out hsl (by omega) hown' hgrow
      have hc1 := hv1.cell
      have hf1 := hv1.frozen
      have n1 := H11.out.not_row (by decide) HRW.out
      have n2 := H21.out.not_row (by decide) HRW.out
      have n3 := H31.out.not_row (by decide) HRW.out
      have H12 := Lib.hid (((H11.out.alloc _).kept hgrow n1).kept (grownBy_setCell' w1 (L + 1 + 1 + 1) (.slice (some ⟨g', 0, none⟩) (k + 1) cap')) (by simp; omega))
      have H22 := Lib.hid (((H21.out.alloc _).kept hgrow n2).kept (grownBy_setCell' w1 (L + 1 + 1 + 1) (.slice (some ⟨g', 0, none⟩) (k + 1) cap')) (by simp))
      have H32 := Lib.hid (((H31.out.alloc _).kept hgrow n3).kept (grownBy_setCell' w1 (L + 1 + 1 + 1) (.slice (some ⟨g', 0, none⟩) (k + 1) cap')) (by simp))
      have HV2 := Lib.hid hv2
      have HR2 := Lib.hid hr2
      have HK2 := Lib.hid (HK.out.trans hk2)
      have HB2 := Lib.hid (HBl.out.trans hb2)
      clear hv1 hv2 hr2 hk2 hb2 n1 n2 n3 hown' hgrow c4
      gi_wp2
      exact ⟨HK2.out, HB2.out, by omega, Lib.hid ⟨_, ms ++ [b], HV2.out, by rw [ecells_append]; exact HR2.out, HML.out, HMO.out⟩, H12, H22, H32, Lib.hid (grown_low HGr.out HB2.out (by rw [HL.out]; exact Nat.le_refl _)), Nat.lt_of_lt_of_le hs2 HB2.out.size⟩
    · replace g1 := Grew.alloc g1 (.cells #[.slice b.1.xa b.2.1.length b.1.xc, .slice b.1.ya b.2.2.length b.1.yc] 24)
      have d0 := (Two.new W1 24 (.slice b.1.xa b.2.1.length b.1.xc) (.slice b.1.ya b.2.2.length b.1.yc)).c0
      have d1 := (Two.new W1 24 (.slice b.1.xa b.2.1.length b.1.xc) (.slice b.1.ya b.2.2.length b.1.yc)).c1
      have H21 := (Boxed.kept H2.out (g1.by' none) (by simp))
      have H31 := (Boxed.kept H3.out (g1.by' none) (by simp))
      have q1 := H21.cell
      have q2 := H21.frozen
      have HS2 := Lib.hid (H21.set (.slice none 0 0))
      have h32 := H31.kept (grownBy_setCell' (W1.alloc (.cells #[.slice b.1.xa b.2.1.length b.1.xc, .slice b.1.ya b.2.2.length b.1.yc] 24)) (L + 1) (.slice none 0 0)) (by simp)
      have q3 := h32.cell
      have q4 := h32.frozen
      have H22 := Lib.hid (HS2.out.kept (grownBy_setCell' _ (L + 1 + 1) (.bool false)) (by simp))
      have H32 := Lib.hid (h32.set (.bool false))
      have HK : Hid (KeepsOthers V2 (((W1.alloc (.cells #[.slice b.1.xa b.2.1.length b.1.xc, .slice b.1.ya b.2.2.length b.1.yc] 24)).setCell ⟨L + 1, 0, none⟩ (.slice none 0 0)).setCell ⟨L + 1 + 1, 0, none⟩ (.bool false))) := Lib.hid (((KeepsOthers.of_grownBy (g1.by' none) (fun _ _ e => by cases e)).trans (KeepsOthers.setCell _ _ _)).trans (KeepsOthers.setCell _ _ _))
      have HBl : Hid (Below L V2 (((W1.alloc (.cells #[.slice b.1.xa b.2.1.length b.1.xc, .slice b.1.ya b.2.2.length b.1.yc] 24)).setCell ⟨L + 1, 0, none⟩ (.slice none 0 0)).setCell ⟨L + 1 + 1, 0, none⟩ (.bool false))) := Lib.hid (((Below.mono g1 (by omega)).setCell (p := ⟨L + 1, 0, none⟩) (by show L ≤ L + 1; omega) _).setCell (p := ⟨L + 1 + 1, 0, none⟩) (by show L ≤ L + 1 + 1; omega) _)
      have HNo : Hid (∃ j, j < N ∧ o j = none) := Lib.hid ⟨k, hk, hb⟩
      clear f0 HO HC g1 hb H21 H31 h32
      gi_wp2
      exact ⟨HK.out, rfl, H22, H32, Lib.hid (grown_low HGr.out HBl.out (by rw [HL.out]; exact Nat.le_refl _)), HNo, Nat.lt_of_lt_of_le hs2 HBl.out.size⟩
  case done =>
    rintro D V hD ⟨hk, HO, H1, H2, H3, HGr, hs2⟩ hK
    obtain ⟨v, ms, hv, hrow, hml, hmo⟩ := HO.out
    have hL3 : L + 1 + 1 + 1 < D := by rw [HSZ.out] at hD; omega
    rcases own_form hrow with ⟨a, cap, rfl⟩
    have c4 := hv.cell
    have q1 := H2.out.cell
    have q2 := H2.out.frozen
    have s2 := H2.out.set (.slice a N cap)
    have h32 := H3.out.kept (grownBy_setCell' V (L + 1) (.slice a N cap)) (by simp)
    have q3 := h32.cell
    have q4 := h32.frozen
    have s2' := s2.kept (grownBy_setCell' _ (L + 1 + 1) (.bool true)) (by simp)
    have s3 := h32.set (.bool true)
    have hKs := (KeepsOthers.setCell _ ⟨L + 1 + 1, 0, none⟩ (.bool true)).same D _ ((KeepsOthers.setCell V ⟨L + 1, 0, none⟩ (.slice a N cap)).same D _ hK rfl) rfl
    have hrw2 := (hrow.kept (grownBy_setCell' V (L + 1) (.slice a N cap)) (.inr (H2.out.not_row (by decide) hrow).symm)).kept (grownBy_setCell' _ (L + 1 + 1) (.bool true)) (.inr (H3.out.not_row (by decide) hrow).symm)
    have hbl : Below L V ((V.setCell ⟨L + 1, 0, none⟩ (.slice a N cap)).setCell ⟨L + 1 + 1, 0, none⟩ (.bool true)) := ((Below.refl L V).setCell (p := ⟨L + 1, 0, none⟩) (by show L ≤ L + 1; omega) _).setCell (p := ⟨L + 1 + 1, 0, none⟩) (by show L ≤ L + 1 + 1; omega) _
    have HGE := Lib.hid (grown_low (grown_low HGr.out hbl (by rw [HL.out]; exact Nat.le_refl _)) (below_put (B := L) (o' := .deferred none) (by omega) hKs) (by rw [HL.out]; exact Nat.le_refl _))
    have HR1 := Lib.hid ((World.putObj_heap_other (w := (V.setCell ⟨L + 1, 0, none⟩ (.slice a N cap)).setCell ⟨L + 1 + 1, 0, none⟩ (.bool true)) (o := .deferred none) (show L + 1 ≠ D by omega)).trans s2')
    have HR2 := Lib.hid ((World.putObj_heap_other (w := (V.setCell ⟨L + 1, 0, none⟩ (.slice a N cap)).setCell ⟨L + 1 + 1, 0, none⟩ (.bool true)) (o := .deferred none) (show L + 1 + 1 ≠ D by omega)).trans s3)
    have HRW := Lib.hid (ownsRow_putObj hrw2 (.deferred none) hKs rfl)
    have HML := Lib.hid hml
    have HMO := Lib.hid hmo
    have HKS := Lib.hid hKs
    clear HO hv hrow hml hmo s2 h32 s2' s3 hKs hrw2 hbl
    go_wp2
    refine ⟨by simp, .inl ⟨_, _, rfl, run_takeDeferred HKS.out, ?_⟩⟩
    have r1 : (World.putObj _ D (.deferred none)).cell? ⟨L + 1, 0, none⟩ = some (.slice a N cap) := Boxed.cell HR1.out
    have r2 : (World.putObj _ D (.deferred none)).cell? ⟨L + 1 + 1, 0, none⟩ = some (.bool true) := Boxed.cell HR2.out
    exact ⟨.tuple #[.slice a N cap, .bool true], by simp [results, Tryd.results34, go_sem, r1, r2], .inl ⟨_, ms, rfl, HML.out, HMO.out, by rw [HL.out]; exact HRW.out⟩, HGE.out⟩
  case stop =>
    rintro D c V hD ⟨rfl, H2, H3, HGr, HNo, hs2⟩ hK
    have hL3 : L + 1 + 1 + 1 < D := by rw [HSZ.out] at hD; omega
    refine (wpIn_wide (n := 9)).2 ?_
    have HR1 := Lib.hid ((World.putObj_heap_other (w := V) (o := .deferred none) (show L + 1 ≠ D by omega)).trans H2.out)
    have HR2 := Lib.hid ((World.putObj_heap_other (w := V) (o := .deferred none) (show L + 1 + 1 ≠ D by omega)).trans H3.out)
    have HGE := Lib.hid (grown_low HGr.out (below_put (B := L) (o' := .deferred none) (by omega) hK) (by rw [HL.out]; exact Nat.le_refl _))
    go_wp2
    refine ⟨by simp, .inl ⟨_, _, rfl, run_takeDeferred hK, ?_⟩⟩
    have r1 : (World.putObj _ D (.deferred none)).cell? ⟨L + 1, 0, none⟩ = some (.slice none 0 0) := Boxed.cell HR1.out
    have r2 : (World.putObj _ D (.deferred none)).cell? ⟨L + 1 + 1, 0, none⟩ = some (.bool false) := Boxed.cell HR2.out
    exact ⟨.tuple #[.slice none 0 0, .bool false], by simp [results, Tryd.results34, go_sem, r1, r2], .inr ⟨rfl, HNo.out⟩, HGE.out⟩
end Go.Proofs.YthdkanmpapioeaaDoor
