/- back of package net: the errors of all layers but the first one. Conditions: the values and the wanted outputs can be read, within the bounds of int64. -/
import Derived.Test.YtciocdjpgknihaaKg
import Derived.Test.YtciocdjpgknihaaNe
import Derived.WalkMore
import Derived.Scope
namespace Go.Proofs.Ytciocdjpgknihaa
open Go.RowKit Go.Shelf
attribute [local go_sem] Oper.semAt_some

/-- No vector. -/
def noV : Vec := ⟨none, 0, []⟩
/-- What a store of a vector leaves. -/
theorem Pile.put {e : TypeId} {B D g cap n c N k : Nat} {W : World} {vs : List Vec} {a : Option Addr} {zs : List Int} (h : Pile e B W (.slice (some ⟨g, 0, none⟩) N cap) vs) (hN : vs.length = N) (hb : Buf D W a n c zs) (he : e ≠ 2) :
    Pile e B (W.setCell ⟨g, k, none⟩ (.slice a n c)) (.slice (some ⟨g, 0, none⟩) N cap) (vs.set k ⟨a, c, zs⟩) := by
  subst hN
  have hl := hb.len
  subst hl
  exact h.set (u := ⟨a, c, zs⟩) (Body.of_buf (D := D) hb) he k
theorem Pile.made (w : World) (n : Nat) (h : n ≤ 1048576) : Pile 32 w.heap.size (w.alloc (.cells (madeCells #[.slice none 0 0] n) 32)) (.slice (some ⟨w.heap.size, 0, none⟩) n n) (List.replicate n noV) := by
  have h1 := World.ownsRow_lit (e := 32) (size := 1) (base := w.heap.size) w (madeCells #[.slice none 0 0] n) n (Nat.le_refl _) (by unfold maxLen; omega) (by simp [size_madeCells])
  rw [toList_madeCells_one] at h1
  refine ⟨by simp, ?_, fun j hj => ?_⟩
  · rw [List.length_replicate, List.map_replicate]
    have h2 : (w.alloc (.cells (madeCells #[.slice none 0 0] n) 32)).ownsRow w.heap.size 32 1 (.slice (some ⟨w.heap.size, 0, none⟩) n n) n (List.replicate n (.slice none 0 0)) := by simpa using h1
    exact h2
  · rw [List.length_replicate] at hj
    rw [show va (List.replicate n noV) j = noV by unfold va; rw [List.getElem?_replicate]; simp [hj]]
    exact ⟨Nat.zero_le _, Nat.zero_le _, .inl (.inl rfl)⟩

theorem Pile.cells {e : TypeId} {B n : Nat} {W W' : World} {v : Value} {vs : List Vec} (h : Pile e B W v vs) (g : Below n W W') (k : KpC W W') (hB : B ≤ n) : Pile e B W' v vs :=
  ⟨Nat.le_trans h.1 g.size, own_cells h.2.1 k, fun j hj => ⟨(h.2.2 j hj).1, (h.2.2 j hj).2.1, by
    rcases (h.2.2 j hj).2.2 with h | h
    · exact .inl (h.below (g.mono hB))
    · exact .inr (own_cells h k)⟩⟩
/-- What back has put down once the layers from the last one down to j have their errors. -/
def ErA (vs : List Vec) (zs ps xs ys : List Int) (q : Int) (j : Nat) : Prop :=
  vs.length = lnk zs + 1 ∧ (∀ i, j ≤ i → i ≤ lnk zs → (va vs i).zs = erV zs ps q xs ys i) ∧ ∀ i, i < j → va vs i = noV
theorem erA_start (zs ps xs ys : List Int) (q : Int) : ErA (List.replicate (lnk zs + 1) noV) zs ps xs ys q (lnk zs + 1) :=
  ⟨List.length_replicate, fun i h1 h2 => by omega, fun i hi => by unfold va; rw [List.getElem?_replicate]; simp [hi]⟩
theorem ErA.next {vs : List Vec} {zs ps xs ys : List Int} {q : Int} {j : Nat} {u : Vec} (h : ErA vs zs ps xs ys q (j + 1)) (hj : j ≤ lnk zs) (hu : u.zs = erV zs ps q xs ys j) : ErA (vs.set j u) zs ps xs ys q j := by
  refine ⟨by rw [List.length_set]; exact h.1, fun i h1 h2 => ?_, fun i hi => ?_⟩
  · by_cases e : j = i
    · subst e
      rw [va_set_same u (by rw [h.1]; omega)]
      exact hu
    · rw [va_set_other u e]
      exact h.2.1 i (by omega) h2
  · rw [va_set_other u (by omega)]
    exact h.2.2 i (by omega)

/-- A list that holds the errors of all layers but the first one. -/
def Errs (w : World) (l : Option Addr) (cap : Nat) (vs : List Vec) (zs ps xs ys : List Int) (q : Int) : Prop := Lot w l cap vs ∧ vs.length = lnk zs + 1 ∧ ∀ j, 1 ≤ j → j ≤ lnk zs → (va vs j).zs = erV zs ps q xs ys j
theorem Errs.grow {w w' : World} {l : Option Addr} {cap : Nat} {vs : List Vec} {zs ps xs ys : List Int} {q : Int} (h : Errs w l cap vs zs ps xs ys q) (g : Grew w w') : Errs w' l cap vs zs ps xs ys q := ⟨h.1.grow g, h.2⟩

set_option linter.unusedSimpArgs false in
set_option maxRecDepth 100000 in
set_option maxHeartbeats 8000000 in
theorem nback_any {D b ny cy cap : Nat} {ay : Option Addr} {l : Option Addr} {zs ps xs ys : List Int} {vs : List Vec} {q : Int} (w : World) (hP : NetP zs ps q) (hN : NetM D w b zs ps q) (hx : xs.length = sz zs 0) (hxf : Fit xs) (hV : Vals w l cap vs zs ps xs q)
    (hy : ys.length = ny) (hny : ny = sz zs (lnk zs)) (hyr : Rd w.heap.size w ay ys) :
    Calls Try.prog 36 #[.pointer (some ⟨b, 0, none⟩), .slice l (lnk zs + 1 : Nat) cap, .slice ay ny cy] w fun e w' => (∃ g es, e = .returned (.slice (some ⟨g, 0, none⟩) (lnk zs + 1 : Nat) (lnk zs + 1 : Nat)) ∧ Errs w' (some ⟨g, 0, none⟩) (lnk zs + 1) es zs ps xs ys q) ∧ Grew w w' := by
  subst hny
  obtain ⟨sb, P, la, lc, hX⟩ := hN.x
  have hl := lnk_in hP.right
  have hvl := hV.2.1
  obtain ⟨hb, off, rfl, hhb, hheads⟩ : ∃ hb off, l = some ⟨hb, off, none⟩ ∧ hb < w.heap.size ∧ ∀ j, j < vs.length → w.cell? ⟨hb, off + j, none⟩ = some (.slice (va vs j).a (va vs j).zs.length (va vs j).cap) := by
    rcases hV.1.heads with h | h
    · rw [h] at hvl; simp at hvl
    · exact h
  have hcapv := hV.1.cap
  obtain ⟨m, hm⟩ : ∃ m, lnk zs = m := ⟨_, rfl⟩
  obtain ⟨N, hNm⟩ : ∃ N, m + 1 = N := ⟨_, rfl⟩
  have hmk := run_make_row' (P := Try.prog) 35 32 (.slice none 0 0) 24 Try.underlying35 (by kernel_rfl) rfl .i64 .i64 N (by omega) (by omega)
  have HP := Lib.hid hP
  have HX0 := Lib.hid hX
  have HV := Lib.hid hV
  have HYR := Lib.hid hyr
  have HYL : Hid (ys.length = sz zs m) := Lib.hid (by rw [← hm]; exact hy)
  have HXL := Lib.hid hx
  have HXF := Lib.hid hxf
  have HVH := Lib.hid hheads
  have HM := Lib.hid hm
  have HVL : Hid (vs.length = N) := Lib.hid (by rw [hvl, hm, hNm])
  have hlen := trV_len (zs := zs) (ps := ps) (q := q) hx
  have HTL := Lib.hid hlen
  have HS : Hid (∀ j, j ≤ m → 1 ≤ sz zs j ∧ sz zs j ≤ 1048576) := Lib.hid (fun j hj => sz_in hP.right.2.2.1 (by omega))
  rw [hm] at hl ⊢
  rw [hNm]
  have HNM := Lib.hid hNm
  have hN1 : m < N := by omega
  have hN16 : N ≤ 16 := by omega
  have hm1 := hl.1
  have hm15 := hl.2.1
  have hc1 : N ≤ cap := by omega
  clear hl hX hV hyr hy hx hxf hheads hm hvl hlen hP hN hcapv hNm
  -- the world ahead of the loop
  have hgA : Grew w ((((w.alloc (.cells #[.pointer (some ⟨b, 0, none⟩)] 29)).alloc (.cells #[.slice ay (sz zs m) cy] 32)).alloc (.cells (madeCells #[.slice none 0 0] N) 32)).alloc (.cells #[.slice (some ⟨w.heap.size + 1 + 1, 0, none⟩) N N] 35)) := ((((Grew.refl w).alloc _).alloc _).alloc _).alloc _
  have HSZ : Hid (((((w.alloc (.cells #[.pointer (some ⟨b, 0, none⟩)] 29)).alloc (.cells #[.slice ay (sz zs m) cy] 32)).alloc (.cells (madeCells #[.slice none 0 0] N) 32)).alloc (.cells #[.slice (some ⟨w.heap.size + 1 + 1, 0, none⟩) N N] 35)).heap.size = w.heap.size + 1 + 1 + 1 + 1) := Lib.hid (by simp)
  have hb1 := (((One.new w 29 (.pointer (some ⟨b, 0, none⟩))).alloc (.cells #[.slice ay (sz zs m) cy] 32)).alloc (.cells (madeCells #[.slice none 0 0] N) 32)).alloc (.cells #[.slice (some ⟨w.heap.size + 1 + 1, 0, none⟩) N N] 35)
  have hb2 := ((One.new (w.alloc (.cells #[.pointer (some ⟨b, 0, none⟩)] 29)) 32 (.slice ay (sz zs m) cy)).alloc (.cells (madeCells #[.slice none 0 0] N) 32)).alloc (.cells #[.slice (some ⟨w.heap.size + 1 + 1, 0, none⟩) N N] 35)
  have hb3 := (Pile.made ((w.alloc (.cells #[.pointer (some ⟨b, 0, none⟩)] 29)).alloc (.cells #[.slice ay (sz zs m) cy] 32)) N (by omega)).grow ((Grew.refl _).alloc (.cells #[.slice (some ⟨w.heap.size + 1 + 1, 0, none⟩) N N] 35))
  have hb4 := One.new (((w.alloc (.cells #[.pointer (some ⟨b, 0, none⟩)] 29)).alloc (.cells #[.slice ay (sz zs m) cy] 32)).alloc (.cells (madeCells #[.slice none 0 0] N) 32)) 35 (.slice (some ⟨w.heap.size + 1 + 1, 0, none⟩) N N)
  rw [World.size_alloc] at hb2
  rw [World.size_alloc, World.size_alloc] at hb3
  rw [World.size_alloc, World.size_alloc, World.size_alloc] at hb4
  have HB1 := Lib.hid hb1
  have HB2 := Lib.hid hb2
  have HB3 := Lib.hid hb3
  have HB4 := Lib.hid hb4
  have HGA := Lib.hid hgA
  clear hb1 hb2 hb3 hb4 hgA
  refine (callsIn_wide (n := 9)).1 ?_
  refine callsIn_of_wp_marks Try.func36 rfl trivial ?_ rfl
  simp only [Try.ntmps36, List.size_toArray, List.length_cons, List.length_nil, Nat.reduceAdd, Nat.reduceSub, Array.replicate_succ, Array.replicate_zero, List.push_toArray, List.append_toArray, List.nil_append, List.cons_append]
  refine wpIn_wide.2 ?_
  go_wp2_with fail
  refine wp_scope_straight ?_
  go_wp2_with fail
  go_step3
  go_wp2_with fail
  refine (backward_any _ N cap _).mono ?_
  rintro e w1 ⟨rfl, rfl⟩
  rw [HSZ.out]
  generalize (((w.alloc (.cells #[.pointer (some ⟨b, 0, none⟩)] 29)).alloc (.cells #[.slice ay (sz zs m) cy] 32)).alloc (.cells (madeCells #[.slice none 0 0] N) 32)).alloc (.cells #[.slice (some ⟨w.heap.size + 1 + 1, 0, none⟩) N N] 35) = W0 at *
  have hgB : Grew W0 (W0.alloc (.cells #[.slice (some ⟨hb, off, none⟩) N cap] 35)) := (Grew.refl _).alloc _
  have hb5 := One.new W0 35 (.slice (some ⟨hb, off, none⟩) N cap)
  rw [HSZ.out] at hb5
  have HSZ1 : Hid ((W0.alloc (.cells #[.slice (some ⟨hb, off, none⟩) N cap] 35)).heap.size = w.heap.size + 1 + 1 + 1 + 1 + 1) := Lib.hid (by simp [HSZ.out])
  have HB5 := Lib.hid hb5
  have HC1 := Lib.hid (HB1.out.grow hgB)
  have HC2 := Lib.hid (HB2.out.grow hgB)
  have HC3 := Lib.hid (HB3.out.grow hgB)
  have HC4 := Lib.hid (HB4.out.grow hgB)
  have HG1 := Lib.hid (HGA.out.trans hgB)
  clear hgB hb5 HB1 HB2 HB3 HB4 HGA HSZ
  generalize W0.alloc (.cells #[.slice (some ⟨hb, off, none⟩) N cap] 35) = W1 at *
  have hys := back_yields 8 (by omega) (B := w.heap.size + 1 + 1 + 1 + 1) (hb := hb) (off := off) (cap := cap) (vs := vs) (by rw [HVL.out]; omega) (by rw [HVL.out]; exact hc1) W1 (by rw [HVL.out]; exact HB5.out) (fun j hj => (Below.cell HG1.out (p := ⟨hb, off + j, none⟩) hhb).trans (HVH.out j hj)) (by rw [HSZ1.out]; omega)
  rw [HVL.out] at hys
  have HYS := Lib.hid hys
  have HE0 : Hid (∃ es, Pile 32 (w.heap.size + 1 + 1) W1 (.slice (some ⟨w.heap.size + 1 + 1, 0, none⟩) N N) es ∧ ErA es zs ps xs ys q (N - 0)) := Lib.hid ⟨_, HC3.out, by rw [Nat.sub_zero, ← HNM.out, ← HM.out]; exact erA_start _ _ _ _ _⟩
  clear hys HC3 HB5
  go_wp2_with fail
  refine (wpIn_wide (n := 9)).1 (range_cells (F := Fence.wide) (n := 9) rfl (by omega) (gf := 75) (lb := #[.pointer (some ⟨w.heap.size + 1 + 1 + 1 + 1, 0, none⟩)]) rfl trivial (enters_of Try.func75 (by kernel_rfl) rfl)
    (enc := backAt vs) (N := N) (Kp := Keeps2 (w.heap.size + 1 + 1 + 1 + 1) hb) (keeps2_trans _ _) (keeps2_below (by rw [HSZ1.out]; omega) (by rw [HSZ1.out]; omega))
    HYS.out (fun _ => rfl)
    (fun k W => k ≤ m ∧ Hid (∃ es, Pile 32 (w.heap.size + 1 + 1) W (.slice (some ⟨w.heap.size + 1 + 1, 0, none⟩) N N) es ∧ ErA es zs ps xs ys q (N - k)) ∧ Hid (One W w.heap.size 29 (.pointer (some ⟨b, 0, none⟩))) ∧ Hid (One W (w.heap.size + 1) 32 (.slice ay (sz zs m) cy)) ∧ Hid (One W (w.heap.size + 1 + 1 + 1) 35 (.slice (some ⟨w.heap.size + 1 + 1, 0, none⟩) N N)) ∧ Hid (Grew w W) ∧ w.heap.size + 1 + 1 + 1 + 1 < W.heap.size)
    (fun c W => c = .exit 0 ∧ Hid (∃ es, Pile 32 (w.heap.size + 1 + 1) W (.slice (some ⟨w.heap.size + 1 + 1, 0, none⟩) N N) es ∧ ErA es zs ps xs ys q 1) ∧ Hid (One W (w.heap.size + 1 + 1 + 1) 35 (.slice (some ⟨w.heap.size + 1 + 1, 0, none⟩) N N)) ∧ Hid (Grew w W) ∧ w.heap.size + 1 + 1 + 1 + 1 < W.heap.size) ?hI ?hIx ⟨Nat.zero_le _, HE0, HC1, HC2, HC4, HG1, by rw [HSZ1.out]; omega⟩ ?round ?done ?stop)
  case hI =>
    rintro k W W' ⟨h1, ⟨es, h2, h3⟩, h4, h5, h6, h7, h8⟩ g kc
    have hs := g.size
    rw [HSZ1.out] at g
    exact ⟨h1, ⟨es, h2.cells g kc (by omega), h3⟩, Lib.hid ((g.block _ (by omega)).trans h4.out), Lib.hid ((g.block _ (by omega)).trans h5.out), Lib.hid ((g.block _ (by omega)).trans h6.out), Lib.hid (Grew.trans_below h7.out (g.mono (by omega)) (Nat.le_refl _)), Nat.lt_of_lt_of_le h8 hs⟩
  case hIx =>
    rintro c W W' ⟨h1, ⟨es, h2, h3⟩, h6, h7, h8⟩ g kc
    have hs := g.size
    rw [HSZ1.out] at g
    exact ⟨h1, ⟨es, h2.cells g kc (by omega), h3⟩, Lib.hid ((g.block _ (by omega)).trans h6.out), Lib.hid (Grew.trans_below h7.out (g.mono (by omega)) (Nat.le_refl _)), Nat.lt_of_lt_of_le h8 hs⟩
  case round =>
    rintro l k V hi hk
    have hkm := hi.1
    clear hi HE0 HC1 HC2 HC4
    obtain ⟨j, hj⟩ : ∃ j, m - k = j := ⟨_, rfl⟩
    have hji : vs.length - 1 - k = j := by rw [HVL.out, ← HNM.out]; omega
    have hjm : j ≤ m := by omega
    have hjN : j < N := by omega
    have HKJ : Hid (k + j = m) := Lib.hid (by omega)
    have HNJ : Hid (N - k = j + 1 ∧ N - (k + 1) = j) := Lib.hid (by rw [← HNM.out]; omega)
    unfold backAt
    rw [hji]
    have hvz : (va vs j).zs.length = sz zs j := by rw [HV.out.2.2 j (by rw [HM.out]; exact hjm), HTL.out]
    have HVR : Hid (∀ W, Grew w W → Rd W.heap.size W (va vs j).a (trV zs ps q xs j)) := Lib.hid (fun W g => by
      have := (HV.out.1.grow g).bodies j (by rw [HVL.out]; exact hjN)
      rw [HV.out.2.2 j (by rw [HM.out]; exact hjm)] at this
      exact this)
    rw [hvz]
    have HVH' : Hid (∀ i, i < N → w.cell? ⟨hb, off + i, none⟩ = some (.slice (va vs i).a (va vs i).zs.length (va vs i).cap)) := Lib.hid (fun i hi => HVH.out i (by rw [HVL.out]; exact hi))
    generalize (va vs j).a = va1 at *
    generalize (va vs j).cap = vc1 at *
    clear hji hvz hj HVH
    gi_wp2
    refine ⟨trivial, ?_⟩
    rintro V2 ⟨hk2, HE, H1, H2, H4, HG, hs2⟩
    clear hk2
    have HNX := Lib.hid (HX0.out.grow HG.out)
    have n0 := H1.out.c0
    have y0 := H2.out.c0
    have e0 := H4.out.c0
    have hbl := HNX.out.1.lt
    have c2 := HNX.out.1.c2
    rw [HM.out] at c2
    obtain ⟨es, hp, he⟩ := HE.out
    rw [HNJ.out.1] at he
    have HPL := Lib.hid hp
    have HER := Lib.hid he
    have HEL : Hid (es.length = N) := Lib.hid (by rw [he.1, HM.out]; exact HNM.out)
    clear HE hp he
    have hsj := HS.out j hjm
    have hcA : ∃ cs t m, V2.heap[w.heap.size + 1 + 1]? = some (.cells cs t m) := by
      obtain ⟨_, cur, hc⟩ := own_type HPL.out.2.1 (g := w.heap.size + 1 + 1) rfl
      exact ⟨_, _, _, hc⟩
    by_cases ht : j = m
    · have hk0 : k = 0 := by have := HKJ.out; omega
      have HE1 : Hid (pairL (fun a b => wrap64 (a - b)) (trV zs ps q xs j) ys = erV zs ps q xs ys j) := Lib.hid (by rw [ht, ← HM.out, erV_last]; unfold pairL; rw [HTL.out])
      subst ht
      gi_wp2
      refine wp_round_held_drew (S := (fun W' => V2.grownBy W' (some (w.heap.size + 1 + 1)) ∧ W'.cell? ⟨w.heap.size + 1 + 1 + 1, 0, none⟩ = some (.slice (some ⟨w.heap.size + 1 + 1, 0, none⟩) N N) ∧ W'.cell? ⟨w.heap.size + 1, 0, none⟩ = some (.slice ay (sz zs j) cy))) (by kernel_rfl) (by kernel_rfl) (fun h => by obtain ⟨_, _, h⟩ := h; exact h) ⟨(grown_refl V2 _).drew1, e0, y0⟩ (fun hHeld => ?_)
      refine wpAnyH_take (i := 0) (oi := { dst := some 54, op := Go.Op.load 35 (Go.Operand.tmp 7), type := 35, pos := _, after := #[], guard := none }) (v := ?v1) rfl (by kernel_rfl) (by kernel_rfl) (by kernel_rfl) (fun _ _ _ h => h) (Or.inl ⟨by kernel_rfl, ?hy1⟩) (by assumption) ?_
      case hy1 => intro w hSw; (try dsimp only at hSw); first | (go_simp; done) | (go_simp; with_reducible rfl)
      (try simp only [Act.put, List.setIfInBounds_toArray, List.set_cons_zero, List.set_cons_succ])
      refine wpAnyH_take (i := 1) (oi := { dst := some 55, op := Go.Op.move (Go.Operand.tmp 8), type := 3, pos := _, after := #[], guard := none }) (v := ?v2) rfl (by kernel_rfl) (by kernel_rfl) (by kernel_rfl) (fun _ _ _ h => h) (Or.inl ⟨by kernel_rfl, ?hy2⟩) (by assumption) ?_
      case hy2 => intro w hSw; (try dsimp only at hSw); first | (go_simp; done) | (go_simp; with_reducible rfl)
      (try simp only [Act.put, List.setIfInBounds_toArray, List.set_cons_zero, List.set_cons_succ])
      refine wpAnyH_take (i := 2) (oi := { dst := some 56, op := Go.Op.move (Go.Operand.tmp 9), type := 32, pos := _, after := #[], guard := none }) (v := ?v3) rfl (by kernel_rfl) (by kernel_rfl) (by kernel_rfl) (fun _ _ _ h => h) (Or.inl ⟨by kernel_rfl, ?hy3⟩) (by assumption) ?_
      case hy3 => intro w hSw; (try dsimp only at hSw); first | (go_simp; done) | (go_simp; with_reducible rfl)
      (try simp only [Act.put, List.setIfInBounds_toArray, List.set_cons_zero, List.set_cons_succ])
      refine wpAnyH_take (i := 3) (oi := { dst := some 57, op := Go.Op.load 32 (Go.Operand.tmp 5), type := 32, pos := _, after := #[], guard := none }) (v := ?v4) rfl (by kernel_rfl) (by kernel_rfl) (by kernel_rfl) (fun _ _ _ h => h) (Or.inl ⟨by kernel_rfl, ?hy4⟩) (by assumption) ?_
      case hy4 => intro w hSw; (try dsimp only at hSw); first | (go_simp; done) | (go_simp; with_reducible rfl)
      (try simp only [Act.put, List.setIfInBounds_toArray, List.set_cons_zero, List.set_cons_succ])
      refine wpAnyH_ready (rs := [4]) (by kernel_rfl) (by simp) ?_
      refine AllReadyH.cons (o := { dst := some 58, op := Go.Op.call { callee := Go.Callee.value (Go.Operand.func 42), args := #[Go.Operand.func 43, Go.Operand.tmp 56, Go.Operand.tmp 57], argTypes := #[64, 32, 32] }, type := 32, pos := _, after := #[{ on := 2, ground := Go.Ground.data }, { on := 3, ground := Go.Ground.data }], guard := none }) rfl (fun K hK => ?_) AllReadyH.nil
      go_simp
      (go_at_call 42; refine (pairs_any (gs := 43) (F := fun a b => wrap64 (a - b)) (enters_of Try.func43 (by kernel_rfl) rfl) (fun a b w => sub_any a b w) _ hsj.2 (HTL.out j) HYL.out (HVR.out _ (Grew.drew' HG.out)) (HYR.out.grow (Grew.drew' HG.out))).mono ?_; rintro e w3 ⟨⟨g', rfl, hb3⟩, g3⟩; rw [HE1.out] at hb3; have HB3 := Lib.hid hb3; have hp3 := HPL.out.grow ((Grew.drew' (Grew.refl V2)).trans g3); obtain ⟨gx, ex, _, hlt3, hc3, hf3, _⟩ := hp3.at (j := j) (by rw [HEL.out]; exact hjN); have ex' : gx = w.heap.size + 1 + 1 := (by injection ex with ex; injection ex with ex; exact ex.symm); subst ex'; have HP3 := Lib.hid hp3; have HG3 := Lib.hid ((Grew.drew' HG.out).trans g3); clear ex hb3 hp3)
      (try go_wp2_with fail)
      refine hK.out _ _ ?hS6 (fun hHeld => ?_)
      case hS6 => (try dsimp only); (obtain ⟨s0, s1, s2⟩ := hHeld; exact ⟨grownBy_trans s0 (g3.by' _), kcG (g3.by' none) s1 (fun e => by cases e), kcG (g3.by' none) s2 (fun e => by cases e)⟩)
      clear hK K
      (try simp only [Act.put, List.setIfInBounds_toArray, List.set_cons_zero, List.set_cons_succ])
      refine wpAnyH_take (i := 5) (oi := { dst := some 59, op := Go.Op.indexAddr 35 (Go.Operand.tmp 54) (Go.Operand.tmp 55), type := 0, pos := _, after := #[{ on := 0, ground := Go.Ground.data }, { on := 1, ground := Go.Ground.data }, { on := 0, ground := Go.Ground.phase }, { on := 1, ground := Go.Ground.phase }, { on := 2, ground := Go.Ground.phase }, { on := 3, ground := Go.Ground.phase }, { on := 4, ground := Go.Ground.phase }], guard := none }) (v := ?v7) rfl (by kernel_rfl) (by kernel_rfl) (by kernel_rfl) (fun _ _ _ h => h) (Or.inl ⟨by kernel_rfl, ?hy7⟩) (by assumption) ?_
      case hy7 => intro w hSw; (try dsimp only at hSw); first | (go_simp; done) | (go_simp; with_reducible rfl)
      (try simp only [Act.put, List.setIfInBounds_toArray, List.set_cons_zero, List.set_cons_succ])
      refine wpAnyH_ready (rs := [6]) (by kernel_rfl) (by simp) ?_
      refine AllReadyH.cons (o := { dst := none, op := Go.Op.store 32 (Go.Operand.tmp 59) (Go.Operand.tmp 58), type := 0, pos := _, after := #[{ on := 5, ground := Go.Ground.data }, { on := 4, ground := Go.Ground.data }, { on := 4, ground := Go.Ground.chain }, { on := 0, ground := Go.Ground.phase }, { on := 1, ground := Go.Ground.phase }, { on := 2, ground := Go.Ground.phase }, { on := 3, ground := Go.Ground.phase }, { on := 4, ground := Go.Ground.phase }], guard := none }) rfl (fun K hK => ?_) AllReadyH.nil
      go_simp
      skip
      (try go_wp2_with fail)
      refine hK.out _ _ ?hS9 (fun hHeld => ?_)
      case hS9 => (try dsimp only); (obtain ⟨s0, s1, s2⟩ := hHeld; exact ⟨grownBy_trans s0 (grownBy_setCell1 _ _ _), kcG (grownBy_setCell1 _ _ _) s1 (fun e => by injection e with e; dsimp only at e; omega), kcG (grownBy_setCell1 _ _ _) s2 (fun e => by injection e with e; dsimp only at e; omega)⟩)
      clear hK K
      (try simp only [Act.put, List.setIfInBounds_toArray, List.set_cons_zero, List.set_cons_succ])
      refine wpAnyH_done (by kernel_rfl) ?_ _
      obtain ⟨hgr, _, _⟩ := hHeld
      exact ⟨keeps_others hgr hcA, ⟨hgr.block _ hs2 (fun e => by injection e with e; omega), hgr.block _ (Nat.lt_of_lt_of_le hhb HG.out.size) (fun e => by injection e with e; omega)⟩, by have := HKJ.out; omega, Lib.hid ⟨_, HP3.out.put HEL.out HB3.out (by decide), by rw [HNJ.out.2]; exact HER.out.next (by rw [HM.out]; omega) rfl⟩, Lib.hid (H1.out.grown hgr (fun e => by injection e with e; omega)), Lib.hid (H2.out.grown hgr (fun e => by injection e with e; omega)), Lib.hid (H4.out.grown hgr (fun e => by injection e with e; omega)), Lib.hid (HG3.out.setCell (p := ⟨w.heap.size + 1 + 1, j, none⟩) (by show w.heap.size ≤ w.heap.size + 1 + 1; omega) _), Nat.lt_of_lt_of_le hs2 hgr.size⟩
    · have hjm' : j < m := by omega
      by_cases h0 : j = 0
      · have hjb : ((0 : Int) == (m : Int)) = false := by rw [beq_eq_false_iff_ne]; omega
        have hjd : decide ((0 : Int) = (m : Int)) = false := decide_eq_false (by omega)
        have hjd2 : ¬ (0 : Int) = (m : Int) := by omega
        have hjd3 : ¬ m = 0 := by omega
        have hjd4 : ¬ 0 = m := by omega
        subst h0
        gi_wp2
        exact ⟨KeepsOthers.of_grownBy (grown_refl V2 none) (fun _ _ e => by cases e), rfl, Lib.hid ⟨es, HPL.out, HER.out⟩, H4, HG, hs2⟩
      · have hjb : ((j : Int) == (m : Int)) = false := by rw [beq_eq_false_iff_ne]; omega
        have hjd : decide ((j : Int) = (m : Int)) = false := decide_eq_false (by omega)
        have hjd2 : ¬ j = m := ht
        have hjd3 : ((j : Int) == 0) = false := by rw [beq_eq_false_iff_ne]; omega
        have hjd4 : decide ((j : Int) = 0) = false := decide_eq_false (by omega)
        have hjl : j < lnk zs := by rw [HM.out]; exact hjm'
        obtain ⟨lg, hlg, _, hgl, hlc, hlm, k0, k1, k2, _⟩ := link_at HNX.out.2.2.2 rfl hjl
        have c3 := HNX.out.1.c3
        obtain ⟨gx, ex, _, hlt3, hc3, _, _⟩ := HPL.out.at (j := j + 1) (by rw [HEL.out]; omega)
        have ex' : gx = w.heap.size + 1 + 1 := by injection ex with ex; injection ex with ex; exact ex.symm
        subst ex'
        have hez : (va es (j + 1)).zs = erV zs ps q xs ys (j + 1) := HER.out.2.1 (j + 1) (Nat.le_refl _) (by omega)
        have hel : (erV zs ps q xs ys (j + 1)).length = sz zs (j + 1) := erV_len (by omega)
        have HBK : Hid (∀ W, Grew V2 W → Rd W.heap.size W (va es (j + 1)).a (erV zs ps q xs ys (j + 1))) := Lib.hid (fun W g => by
          have := ((HPL.out.grow g).2.2 (j + 1) (by rw [HEL.out]; omega)).rd (HPL.out.grow g).1
          rw [hez] at this
          exact this)
        unfold slV at hc3
        rw [hez, hel] at hc3
        rw [hlg] at c2 HNX
        rw [HM.out] at hlc
        have HL1 := Lib.hid hel
        have hs1 := HS.out (j + 1) (by omega)
        have hob := oB_eq HP.out.right.2.2.1 hjl
        have hin := oB_in HP.out.right.2.2.1 hjl
        have hnp := nP_in HP.out.right
        have HPS : Hid (∀ W, Grew V2 W → Rd W.heap.size W (some ⟨P, oW zs j, none⟩) (seg ps (oW zs j) (sz zs (j + 1) * sz zs j))) := Lib.hid (fun W g => by
          have := seg_rd (HNX.out.2.2.1.rd.grow g) (o := oW zs j) (n := sz zs (j + 1) * sz zs j) (by rw [HP.out.len]; omega)
          rw [Nat.zero_add] at this
          exact this)
        have HE1 : Hid (pairL gateV (trV zs ps q xs j) (mulL (turnL (seg ps (oW zs j) (sz zs (j + 1) * sz zs j)) (sz zs (j + 1)) (sz zs j)) (sz zs j) (sz zs (j + 1)) (erV zs ps q xs ys (j + 1)) q) = erV zs ps q xs ys j) := Lib.hid (by
          rw [erV_inner hjl, back_seg]
          unfold pairL
          rw [HTL.out]
          apply List.map_congr_left
          intro c hc
          rw [el_map (List.mem_range.1 hc)])
        have hcw : sz zs (j + 1) * sz zs j ≤ nP zs - oW zs j := by omega
        have hcc : nP zs - oW zs j ≤ 1048576 := by omega
        have hwk : IntKind.i64.wrap ((j : Int) + 1) = (j : Int) + 1 := IntWalk.i64_in _ (by omega)
        have h0k : (0 : Int) ≤ (j : Int) + 1 := by omega
        have h1k : (j : Int) + 1 < (N : Int) := by omega
        have htk : ((j : Int) + 1).toNat = j + 1 := by omega
        have HML := Lib.hid (mul_len (turnL (seg ps (oW zs j) (sz zs (j + 1) * sz zs j)) (sz zs (j + 1)) (sz zs j)) (sz zs j) (sz zs (j + 1)) (erV zs ps q xs ys (j + 1)) q)
        generalize nP zs - oW zs j = cw at *
        generalize (va es (j + 1)).a = ea at *
        generalize (va es (j + 1)).cap = ec at *
        clear hez hel hlg ex hob hin
        gi_wp2
        refine wp_round_held_drew (S := (fun W' => Grew V2 W' ∧ W'.cell? ⟨w.heap.size, 0, none⟩ = some (.pointer (some ⟨b, 0, none⟩)) ∧ W'.cell? ⟨b, 2, none⟩ = some (.slice (some ⟨lg, 0, none⟩) m lc) ∧ W'.cell? ⟨b, 3, none⟩ = some (.int .i64 q) ∧ W'.cell? ⟨lg, j * 4, none⟩ = some (.int .i64 (sz zs (j + 1))) ∧ W'.cell? ⟨lg, j * 4 + 1, none⟩ = some (.int .i64 (sz zs j)) ∧ W'.cell? ⟨lg, j * 4 + 2, none⟩ = some (.slice (some ⟨P, oW zs j, none⟩) (sz zs (j + 1) * sz zs j : Nat) cw) ∧ W'.cell? ⟨w.heap.size + 1 + 1 + 1, 0, none⟩ = some (.slice (some ⟨w.heap.size + 1 + 1, 0, none⟩) N N) ∧ W'.cell? ⟨w.heap.size + 1 + 1, j + 1, none⟩ = some (.slice ea (sz zs (j + 1)) ec))) (by kernel_rfl) (by kernel_rfl) (fun h => by obtain ⟨_, _, h⟩ := h; exact h) ⟨Grew.drew' (Grew.refl _), n0, c2, c3, k0, k1, k2, e0, hc3⟩ (fun hHeld => ?_)
        refine wpAnyH_take (i := 0) (oi := { dst := some 21, op := Go.Op.load 29 (Go.Operand.tmp 3), type := 29, pos := _, after := #[], guard := none }) (v := ?v10) rfl (by kernel_rfl) (by kernel_rfl) (by kernel_rfl) (fun _ _ _ h => h) (Or.inl ⟨by kernel_rfl, ?hy10⟩) (by assumption) ?_
        case hy10 => intro w hSw; (try dsimp only at hSw); first | (go_simp; done) | (go_simp; with_reducible rfl)
        (try simp only [Act.put, List.setIfInBounds_toArray, List.set_cons_zero, List.set_cons_succ])
        refine wpAnyH_take (i := 1) (oi := { dst := some 22, op := Go.Op.nilCheck (Go.Operand.tmp 21), type := 0, pos := _, after := #[{ on := 0, ground := Go.Ground.data }], guard := none }) (v := ?v11) rfl (by kernel_rfl) (by kernel_rfl) (by kernel_rfl) (fun _ _ _ h => h) (Or.inl ⟨by kernel_rfl, ?hy11⟩) (by assumption) ?_
        case hy11 => intro w hSw; (try dsimp only at hSw); first | (go_simp; done) | (go_simp; with_reducible rfl)
        (try simp only [Act.put, List.setIfInBounds_toArray, List.set_cons_zero, List.set_cons_succ])
        refine wpAnyH_take (i := 2) (oi := { dst := some 23, op := Go.Op.fieldAddr 58 (Go.Operand.tmp 22) 2, type := 0, pos := _, after := #[{ on := 1, ground := Go.Ground.data }], guard := none }) (v := ?v12) rfl (by kernel_rfl) (by kernel_rfl) (by kernel_rfl) (fun _ _ _ h => h) (Or.inl ⟨by kernel_rfl, ?hy12⟩) (by assumption) ?_
        case hy12 => intro w hSw; (try dsimp only at hSw); first | (go_simp; done) | (go_simp; with_reducible rfl)
        (try simp only [Act.put, List.setIfInBounds_toArray, List.set_cons_zero, List.set_cons_succ])
        refine wpAnyH_take (i := 3) (oi := { dst := some 24, op := Go.Op.load 56 (Go.Operand.tmp 23), type := 56, pos := _, after := #[{ on := 2, ground := Go.Ground.data }], guard := none }) (v := ?v13) rfl (by kernel_rfl) (by kernel_rfl) (by kernel_rfl) (fun _ _ _ h => h) (Or.inl ⟨by kernel_rfl, ?hy13⟩) (by assumption) ?_
        case hy13 => intro w hSw; (try dsimp only at hSw); first | (go_simp; done) | (go_simp; with_reducible rfl)
        (try simp only [Act.put, List.setIfInBounds_toArray, List.set_cons_zero, List.set_cons_succ])
        refine wpAnyH_take (i := 4) (oi := { dst := some 25, op := Go.Op.move (Go.Operand.tmp 8), type := 3, pos := _, after := #[], guard := none }) (v := ?v14) rfl (by kernel_rfl) (by kernel_rfl) (by kernel_rfl) (fun _ _ _ h => h) (Or.inl ⟨by kernel_rfl, ?hy14⟩) (by assumption) ?_
        case hy14 => intro w hSw; (try dsimp only at hSw); first | (go_simp; done) | (go_simp; with_reducible rfl)
        (try simp only [Act.put, List.setIfInBounds_toArray, List.set_cons_zero, List.set_cons_succ])
        refine wpAnyH_take (i := 5) (oi := { dst := some 26, op := Go.Op.indexAddr 56 (Go.Operand.tmp 24) (Go.Operand.tmp 25), type := 0, pos := _, after := #[{ on := 3, ground := Go.Ground.data }, { on := 4, ground := Go.Ground.data }], guard := none }) (v := ?v15) rfl (by kernel_rfl) (by kernel_rfl) (by kernel_rfl) (fun _ _ _ h => h) (Or.inl ⟨by kernel_rfl, ?hy15⟩) (by assumption) ?_
        case hy15 => intro w hSw; (try dsimp only at hSw); first | (go_simp; done) | (go_simp; with_reducible rfl)
        (try simp only [Act.put, List.setIfInBounds_toArray, List.set_cons_zero, List.set_cons_succ])
        refine wpAnyH_take (i := 6) (oi := { dst := some 27, op := Go.Op.fieldAddr 70 (Go.Operand.tmp 26) 0, type := 0, pos := _, after := #[{ on := 5, ground := Go.Ground.data }], guard := none }) (v := ?v16) rfl (by kernel_rfl) (by kernel_rfl) (by kernel_rfl) (fun _ _ _ h => h) (Or.inl ⟨by kernel_rfl, ?hy16⟩) (by assumption) ?_
        case hy16 => intro w hSw; (try dsimp only at hSw); first | (go_simp; done) | (go_simp; with_reducible rfl)
        (try simp only [Act.put, List.setIfInBounds_toArray, List.set_cons_zero, List.set_cons_succ])
        refine wpAnyH_take (i := 7) (oi := { dst := some 28, op := Go.Op.load 68 (Go.Operand.tmp 27), type := 68, pos := _, after := #[{ on := 6, ground := Go.Ground.data }], guard := none }) (v := ?v17) rfl (by kernel_rfl) (by kernel_rfl) (by kernel_rfl) (fun _ _ _ h => h) (Or.inl ⟨by kernel_rfl, ?hy17⟩) (by assumption) ?_
        case hy17 => intro w hSw; (try dsimp only at hSw); first | (go_simp; done) | (go_simp; with_reducible rfl)
        (try simp only [Act.put, List.setIfInBounds_toArray, List.set_cons_zero, List.set_cons_succ])
        refine wpAnyH_take (i := 8) (oi := { dst := some 29, op := Go.Op.load 35 (Go.Operand.tmp 7), type := 35, pos := _, after := #[], guard := none }) (v := ?v18) rfl (by kernel_rfl) (by kernel_rfl) (by kernel_rfl) (fun _ _ _ h => h) (Or.inl ⟨by kernel_rfl, ?hy18⟩) (by assumption) ?_
        case hy18 => intro w hSw; (try dsimp only at hSw); first | (go_simp; done) | (go_simp; with_reducible rfl)
        (try simp only [Act.put, List.setIfInBounds_toArray, List.set_cons_zero, List.set_cons_succ])
        refine wpAnyH_take (i := 9) (oi := { dst := some 30, op := Go.Op.move (Go.Operand.tmp 8), type := 3, pos := _, after := #[], guard := none }) (v := ?v19) rfl (by kernel_rfl) (by kernel_rfl) (by kernel_rfl) (fun _ _ _ h => h) (Or.inl ⟨by kernel_rfl, ?hy19⟩) (by assumption) ?_
        case hy19 => intro w hSw; (try dsimp only at hSw); first | (go_simp; done) | (go_simp; with_reducible rfl)
        (try simp only [Act.put, List.setIfInBounds_toArray, List.set_cons_zero, List.set_cons_succ])
        refine wpAnyH_take (i := 10) (oi := { dst := some 31, op := Go.Op.binOp Go.BinOp.add 3 (Go.Operand.tmp 30) (Go.Operand.const (Go.Value.int Go.IntKind.i64 1)) 3, type := 3, pos := _, after := #[{ on := 9, ground := Go.Ground.data }], guard := none }) (v := ?v20) rfl (by kernel_rfl) (by kernel_rfl) (by kernel_rfl) (fun _ _ _ h => h) (Or.inl ⟨by kernel_rfl, ?hy20⟩) (by assumption) ?_
        case hy20 => intro w hSw; (try dsimp only at hSw); first | (go_simp; done) | (go_simp; with_reducible rfl)
        (try simp only [Act.put, List.setIfInBounds_toArray, List.set_cons_zero, List.set_cons_succ])
        refine wpAnyH_take (i := 11) (oi := { dst := some 32, op := Go.Op.indexAddr 35 (Go.Operand.tmp 29) (Go.Operand.tmp 31), type := 0, pos := _, after := #[{ on := 8, ground := Go.Ground.data }, { on := 10, ground := Go.Ground.data }], guard := none }) (v := ?v21) rfl (by kernel_rfl) (by kernel_rfl) (by kernel_rfl) (fun _ _ _ h => h) (Or.inl ⟨by kernel_rfl, ?hy21⟩) (by assumption) ?_
        case hy21 => intro w hSw; (try dsimp only at hSw); first | (go_simp; done) | (go_simp; with_reducible rfl)
        (try simp only [Act.put, List.setIfInBounds_toArray, List.set_cons_zero, List.set_cons_succ])
        refine wpAnyH_take (i := 12) (oi := { dst := some 33, op := Go.Op.load 32 (Go.Operand.tmp 32), type := 32, pos := _, after := #[{ on := 11, ground := Go.Ground.data }], guard := none }) (v := ?v22) rfl (by kernel_rfl) (by kernel_rfl) (by kernel_rfl) (fun _ _ _ h => h) (Or.inl ⟨by kernel_rfl, ?hy22⟩) (by assumption) ?_
        case hy22 => intro w hSw; (try dsimp only at hSw); first | (go_simp; done) | (go_simp; with_reducible rfl)
        (try simp only [Act.put, List.setIfInBounds_toArray, List.set_cons_zero, List.set_cons_succ])
        refine wpAnyH_take (i := 13) (oi := { dst := some 34, op := Go.Op.load 29 (Go.Operand.tmp 3), type := 29, pos := _, after := #[], guard := none }) (v := ?v23) rfl (by kernel_rfl) (by kernel_rfl) (by kernel_rfl) (fun _ _ _ h => h) (Or.inl ⟨by kernel_rfl, ?hy23⟩) (by assumption) ?_
        case hy23 => intro w hSw; (try dsimp only at hSw); first | (go_simp; done) | (go_simp; with_reducible rfl)
        (try simp only [Act.put, List.setIfInBounds_toArray, List.set_cons_zero, List.set_cons_succ])
        refine wpAnyH_take (i := 14) (oi := { dst := some 35, op := Go.Op.nilCheck (Go.Operand.tmp 34), type := 0, pos := _, after := #[{ on := 13, ground := Go.Ground.data }], guard := none }) (v := ?v24) rfl (by kernel_rfl) (by kernel_rfl) (by kernel_rfl) (fun _ _ _ h => h) (Or.inl ⟨by kernel_rfl, ?hy24⟩) (by assumption) ?_
        case hy24 => intro w hSw; (try dsimp only at hSw); first | (go_simp; done) | (go_simp; with_reducible rfl)
        (try simp only [Act.put, List.setIfInBounds_toArray, List.set_cons_zero, List.set_cons_succ])
        refine wpAnyH_take (i := 15) (oi := { dst := some 36, op := Go.Op.fieldAddr 58 (Go.Operand.tmp 35) 3, type := 0, pos := _, after := #[{ on := 14, ground := Go.Ground.data }], guard := none }) (v := ?v25) rfl (by kernel_rfl) (by kernel_rfl) (by kernel_rfl) (fun _ _ _ h => h) (Or.inl ⟨by kernel_rfl, ?hy25⟩) (by assumption) ?_
        case hy25 => intro w hSw; (try dsimp only at hSw); first | (go_simp; done) | (go_simp; with_reducible rfl)
        (try simp only [Act.put, List.setIfInBounds_toArray, List.set_cons_zero, List.set_cons_succ])
        refine wpAnyH_take (i := 16) (oi := { dst := some 37, op := Go.Op.load 3 (Go.Operand.tmp 36), type := 3, pos := _, after := #[{ on := 15, ground := Go.Ground.data }], guard := none }) (v := ?v26) rfl (by kernel_rfl) (by kernel_rfl) (by kernel_rfl) (fun _ _ _ h => h) (Or.inl ⟨by kernel_rfl, ?hy26⟩) (by assumption) ?_
        case hy26 => intro w hSw; (try dsimp only at hSw); first | (go_simp; done) | (go_simp; with_reducible rfl)
        (try simp only [Act.put, List.setIfInBounds_toArray, List.set_cons_zero, List.set_cons_succ])
        refine wpAnyH_ready (rs := [17]) (by kernel_rfl) (by simp) ?_
        refine AllReadyH.cons (o := { dst := some 38, op := Go.Op.call { callee := Go.Callee.value (Go.Operand.func 55), args := #[Go.Operand.tmp 28, Go.Operand.tmp 33, Go.Operand.tmp 37], argTypes := #[68, 32, 3] }, type := 38, pos := _, after := #[{ on := 7, ground := Go.Ground.data }, { on := 12, ground := Go.Ground.data }, { on := 16, ground := Go.Ground.data }], guard := none }) rfl (fun K hK => ?_) AllReadyH.nil
        go_simp
        (go_at_call 55; refine (back_yes _ (seg_len _ _ _) HL1.out hs1.1 hs1.2 hsj.1 hsj.2 (show cw ≤ 9223372036854775807 by omega) hcw (HPS.out _ (Grew.drew' (Grew.refl V2))) (HBK.out _ (Grew.drew' (Grew.refl V2))) (seg_fit HP.out.fit _ _) (erV_fit hjl)).mono ?_; rintro e w4 ⟨⟨g4, rfl, hb4⟩, g4'⟩; have HB6 := Lib.hid hb4; have HG6 := Lib.hid ((Grew.drew' (Grew.refl V2)).trans g4'); clear hb4)
        (try go_wp2_with fail)
        refine hK.out _ _ ?hS28 (fun hHeld => ?_)
        case hS28 => (try dsimp only); (obtain ⟨s0, s1, s2, s3, s4, s5, s6, s7, s8⟩ := hHeld; exact ⟨s0.trans g4', kcG (g4'.by' none) s1 (fun e => by cases e), kcG (g4'.by' none) s2 (fun e => by cases e), kcG (g4'.by' none) s3 (fun e => by cases e), kcG (g4'.by' none) s4 (fun e => by cases e), kcG (g4'.by' none) s5 (fun e => by cases e), kcG (g4'.by' none) s6 (fun e => by cases e), kcG (g4'.by' none) s7 (fun e => by cases e), kcG (g4'.by' none) s8 (fun e => by cases e)⟩)
        clear hK K
        (try simp only [Act.put, List.setIfInBounds_toArray, List.set_cons_zero, List.set_cons_succ])
        refine wpAnyH_take (i := 18) (oi := { dst := some 20, op := Go.Op.move (Go.Operand.tmp 38), type := 38, pos := _, after := #[{ on := 17, ground := Go.Ground.data }], guard := none }) (v := ?v29) rfl (by kernel_rfl) (by kernel_rfl) (by kernel_rfl) (fun _ _ _ h => h) (Or.inl ⟨by kernel_rfl, ?hy29⟩) (by assumption) ?_
        case hy29 => intro w hSw; (try dsimp only at hSw); first | (go_simp; done) | (go_simp; with_reducible rfl)
        (try simp only [Act.put, List.setIfInBounds_toArray, List.set_cons_zero, List.set_cons_succ])
        refine wpAnyH_take (i := 19) (oi := { dst := some 39, op := Go.Op.extract (Go.Operand.tmp 20) 0, type := 32, pos := _, after := #[{ on := 18, ground := Go.Ground.data }], guard := none }) (v := ?v30) rfl (by kernel_rfl) (by kernel_rfl) (by kernel_rfl) (fun _ _ _ h => h) (Or.inl ⟨by kernel_rfl, ?hy30⟩) (by assumption) ?_
        case hy30 => intro w hSw; (try dsimp only at hSw); first | (go_simp; done) | (go_simp; with_reducible rfl)
        (try simp only [Act.put, List.setIfInBounds_toArray, List.set_cons_zero, List.set_cons_succ])
        refine wpAnyH_take (i := 20) (oi := { dst := some 40, op := Go.Op.extract (Go.Operand.tmp 20) 1, type := 4, pos := _, after := #[{ on := 18, ground := Go.Ground.data }, { on := 21, ground := Go.Ground.gcOnly Go.Departure.lateStores }], guard := none }) (v := ?v31) rfl (by kernel_rfl) (by kernel_rfl) (by kernel_rfl) (fun _ _ _ h => h) (Or.inl ⟨by kernel_rfl, ?hy31⟩) (by assumption) ?_
        case hy31 => intro w hSw; (try dsimp only at hSw); first | (go_simp; done) | (go_simp; with_reducible rfl)
        (try simp only [Act.put, List.setIfInBounds_toArray, List.set_cons_zero, List.set_cons_succ])
        refine wpAnyH_take (i := 21) (oi := { dst := some 10, op := Go.Op.assign (Go.Operand.tmp 39), type := 32, pos := _, after := #[{ on := 19, ground := Go.Ground.data }, { on := 17, ground := Go.Ground.chain }, { on := 0, ground := Go.Ground.phase }, { on := 1, ground := Go.Ground.phase }, { on := 2, ground := Go.Ground.phase }, { on := 3, ground := Go.Ground.phase }, { on := 4, ground := Go.Ground.phase }, { on := 5, ground := Go.Ground.phase }, { on := 6, ground := Go.Ground.phase }, { on := 7, ground := Go.Ground.phase }, { on := 8, ground := Go.Ground.phase }, { on := 9, ground := Go.Ground.phase }, { on := 10, ground := Go.Ground.phase }, { on := 11, ground := Go.Ground.phase }, { on := 12, ground := Go.Ground.phase }, { on := 13, ground := Go.Ground.phase }, { on := 14, ground := Go.Ground.phase }, { on := 15, ground := Go.Ground.phase }, { on := 16, ground := Go.Ground.phase }, { on := 17, ground := Go.Ground.phase }, { on := 18, ground := Go.Ground.phase }, { on := 19, ground := Go.Ground.phase }, { on := 20, ground := Go.Ground.textOnly Go.Departure.lateStores }], guard := none }) (v := ?v32) rfl (by kernel_rfl) (by kernel_rfl) (by kernel_rfl) (fun _ _ _ h => h) (Or.inl ⟨by kernel_rfl, ?hy32⟩) (by assumption) ?_
        case hy32 => intro w hSw; (try dsimp only at hSw); first | (go_simp; done) | (go_simp; with_reducible rfl)
        (try simp only [Act.put, List.setIfInBounds_toArray, List.set_cons_zero, List.set_cons_succ])
        refine wpAnyH_take (i := 22) (oi := { dst := some 11, op := Go.Op.assign (Go.Operand.tmp 40), type := 4, pos := _, after := #[{ on := 20, ground := Go.Ground.data }, { on := 21, ground := Go.Ground.chain }, { on := 0, ground := Go.Ground.phase }, { on := 1, ground := Go.Ground.phase }, { on := 2, ground := Go.Ground.phase }, { on := 3, ground := Go.Ground.phase }, { on := 4, ground := Go.Ground.phase }, { on := 5, ground := Go.Ground.phase }, { on := 6, ground := Go.Ground.phase }, { on := 7, ground := Go.Ground.phase }, { on := 8, ground := Go.Ground.phase }, { on := 9, ground := Go.Ground.phase }, { on := 10, ground := Go.Ground.phase }, { on := 11, ground := Go.Ground.phase }, { on := 12, ground := Go.Ground.phase }, { on := 13, ground := Go.Ground.phase }, { on := 14, ground := Go.Ground.phase }, { on := 15, ground := Go.Ground.phase }, { on := 16, ground := Go.Ground.phase }, { on := 17, ground := Go.Ground.phase }, { on := 18, ground := Go.Ground.phase }, { on := 19, ground := Go.Ground.phase }, { on := 20, ground := Go.Ground.phase }, { on := 21, ground := Go.Ground.phase }], guard := none }) (v := ?v33) rfl (by kernel_rfl) (by kernel_rfl) (by kernel_rfl) (fun _ _ _ h => h) (Or.inl ⟨by kernel_rfl, ?hy33⟩) (by assumption) ?_
        case hy33 => intro w hSw; (try dsimp only at hSw); first | (go_simp; done) | (go_simp; with_reducible rfl)
        (try simp only [Act.put, List.setIfInBounds_toArray, List.set_cons_zero, List.set_cons_succ])
        refine wpAnyH_done (by kernel_rfl) ?_ _
        clear hHeld c2 c3 k0 k1 k2 hc3 n0 e0
        have HPL4 := Lib.hid (HPL.out.grow HG6.out)
        have e0 := (H4.out.grow HG6.out).c0
        gi_wp2
        refine wp_round_held_drew (S := (fun W' => w4.grownBy W' (some (w.heap.size + 1 + 1)) ∧ W'.cell? ⟨w.heap.size + 1 + 1 + 1, 0, none⟩ = some (.slice (some ⟨w.heap.size + 1 + 1, 0, none⟩) N N))) (by kernel_rfl) (by kernel_rfl) (fun h => by obtain ⟨_, _, h⟩ := h; exact h) ⟨(grown_refl w4 _).drew1, e0⟩ (fun hHeld => ?_)
        refine wpAnyH_take (i := 0) (oi := { dst := some 41, op := Go.Op.load 35 (Go.Operand.tmp 7), type := 35, pos := _, after := #[], guard := none }) (v := ?v34) rfl (by kernel_rfl) (by kernel_rfl) (by kernel_rfl) (fun _ _ _ h => h) (Or.inl ⟨by kernel_rfl, ?hy34⟩) (by assumption) ?_
        case hy34 => intro w hSw; (try dsimp only at hSw); first | (go_simp; done) | (go_simp; with_reducible rfl)
        (try simp only [Act.put, List.setIfInBounds_toArray, List.set_cons_zero, List.set_cons_succ])
        refine wpAnyH_take (i := 1) (oi := { dst := some 42, op := Go.Op.move (Go.Operand.tmp 8), type := 3, pos := _, after := #[], guard := none }) (v := ?v35) rfl (by kernel_rfl) (by kernel_rfl) (by kernel_rfl) (fun _ _ _ h => h) (Or.inl ⟨by kernel_rfl, ?hy35⟩) (by assumption) ?_
        case hy35 => intro w hSw; (try dsimp only at hSw); first | (go_simp; done) | (go_simp; with_reducible rfl)
        (try simp only [Act.put, List.setIfInBounds_toArray, List.set_cons_zero, List.set_cons_succ])
        refine wpAnyH_take (i := 2) (oi := { dst := some 43, op := Go.Op.move (Go.Operand.tmp 9), type := 32, pos := _, after := #[], guard := none }) (v := ?v36) rfl (by kernel_rfl) (by kernel_rfl) (by kernel_rfl) (fun _ _ _ h => h) (Or.inl ⟨by kernel_rfl, ?hy36⟩) (by assumption) ?_
        case hy36 => intro w hSw; (try dsimp only at hSw); first | (go_simp; done) | (go_simp; with_reducible rfl)
        (try simp only [Act.put, List.setIfInBounds_toArray, List.set_cons_zero, List.set_cons_succ])
        refine wpAnyH_take (i := 3) (oi := { dst := some 44, op := Go.Op.move (Go.Operand.tmp 10), type := 32, pos := _, after := #[], guard := none }) (v := ?v37) rfl (by kernel_rfl) (by kernel_rfl) (by kernel_rfl) (fun _ _ _ h => h) (Or.inl ⟨by kernel_rfl, ?hy37⟩) (by assumption) ?_
        case hy37 => intro w hSw; (try dsimp only at hSw); first | (go_simp; done) | (go_simp; with_reducible rfl)
        (try simp only [Act.put, List.setIfInBounds_toArray, List.set_cons_zero, List.set_cons_succ])
        refine wpAnyH_ready (rs := [4]) (by kernel_rfl) (by simp) ?_
        refine AllReadyH.cons (o := { dst := some 45, op := Go.Op.call { callee := Go.Callee.value (Go.Operand.func 42), args := #[Go.Operand.func 56, Go.Operand.tmp 43, Go.Operand.tmp 44], argTypes := #[64, 32, 32] }, type := 32, pos := _, after := #[{ on := 2, ground := Go.Ground.data }, { on := 3, ground := Go.Ground.data }], guard := none }) rfl (fun K hK => ?_) AllReadyH.nil
        go_simp
        (go_at_call 42; refine (pairs_any (gs := 56) (F := gateV) (enters_of Try.func56 (by kernel_rfl) rfl) (fun a b w => gate_any a b w) _ hsj.2 (HTL.out j) HML.out (HVR.out _ (HG.out.trans (Grew.drew' HG6.out))) (HB6.out.rd.grow (Grew.drew' (Grew.refl w4)))).mono ?_; rintro e w3 ⟨⟨g', rfl, hb3⟩, g3⟩; rw [HE1.out] at hb3; have HB3 := Lib.hid hb3; have hp3 := HPL4.out.grow ((Grew.drew' (Grew.refl w4)).trans g3); obtain ⟨gx, ex, _, hlt4, hc4, hf4, _⟩ := hp3.at (j := j) (by rw [HEL.out]; exact hjN); have ex' : gx = w.heap.size + 1 + 1 := (by injection ex with ex; injection ex with ex; exact ex.symm); subst ex'; have HP3 := Lib.hid hp3; have HG3 := Lib.hid ((Grew.drew' (HG.out.trans HG6.out)).trans g3); clear ex hb3 hp3)
        (try go_wp2_with fail)
        refine hK.out _ _ ?hS39 (fun hHeld => ?_)
        case hS39 => (try dsimp only); (obtain ⟨s0, s1⟩ := hHeld; exact ⟨grownBy_trans s0 (g3.by' _), kcG (g3.by' none) s1 (fun e => by cases e)⟩)
        clear hK K
        (try simp only [Act.put, List.setIfInBounds_toArray, List.set_cons_zero, List.set_cons_succ])
        refine wpAnyH_take (i := 5) (oi := { dst := some 46, op := Go.Op.indexAddr 35 (Go.Operand.tmp 41) (Go.Operand.tmp 42), type := 0, pos := _, after := #[{ on := 0, ground := Go.Ground.data }, { on := 1, ground := Go.Ground.data }, { on := 0, ground := Go.Ground.phase }, { on := 1, ground := Go.Ground.phase }, { on := 2, ground := Go.Ground.phase }, { on := 3, ground := Go.Ground.phase }, { on := 4, ground := Go.Ground.phase }], guard := none }) (v := ?v40) rfl (by kernel_rfl) (by kernel_rfl) (by kernel_rfl) (fun _ _ _ h => h) (Or.inl ⟨by kernel_rfl, ?hy40⟩) (by assumption) ?_
        case hy40 => intro w hSw; (try dsimp only at hSw); first | (go_simp; done) | (go_simp; with_reducible rfl)
        (try simp only [Act.put, List.setIfInBounds_toArray, List.set_cons_zero, List.set_cons_succ])
        refine wpAnyH_ready (rs := [6]) (by kernel_rfl) (by simp) ?_
        refine AllReadyH.cons (o := { dst := none, op := Go.Op.store 32 (Go.Operand.tmp 46) (Go.Operand.tmp 45), type := 0, pos := _, after := #[{ on := 5, ground := Go.Ground.data }, { on := 4, ground := Go.Ground.data }, { on := 4, ground := Go.Ground.chain }, { on := 0, ground := Go.Ground.phase }, { on := 1, ground := Go.Ground.phase }, { on := 2, ground := Go.Ground.phase }, { on := 3, ground := Go.Ground.phase }, { on := 4, ground := Go.Ground.phase }], guard := none }) rfl (fun K hK => ?_) AllReadyH.nil
        go_simp
        skip
        (try go_wp2_with fail)
        refine hK.out _ _ ?hS42 (fun hHeld => ?_)
        case hS42 => (try dsimp only); (obtain ⟨s0, s1⟩ := hHeld; exact ⟨grownBy_trans s0 (grownBy_setCell1 _ _ _), kcG (grownBy_setCell1 _ _ _) s1 (fun e => by injection e with e; dsimp only at e; omega)⟩)
        clear hK K
        (try simp only [Act.put, List.setIfInBounds_toArray, List.set_cons_zero, List.set_cons_succ])
        refine wpAnyH_done (by kernel_rfl) ?_ _
        obtain ⟨hgr7, _⟩ := hHeld
        have hgr := grownBy_trans (HG6.out.by' (some (w.heap.size + 1 + 1))) hgr7
        exact ⟨keeps_others hgr hcA, ⟨hgr.block _ hs2 (fun e => by injection e with e; omega), hgr.block _ (Nat.lt_of_lt_of_le hhb HG.out.size) (fun e => by injection e with e; omega)⟩, by have := HKJ.out; omega, Lib.hid ⟨_, HP3.out.put HEL.out HB3.out (by decide), by rw [HNJ.out.2]; exact HER.out.next (by rw [HM.out]; omega) rfl⟩, Lib.hid (H1.out.grown hgr (fun e => by injection e with e; omega)), Lib.hid (H2.out.grown hgr (fun e => by injection e with e; omega)), Lib.hid (H4.out.grown hgr (fun e => by injection e with e; omega)), Lib.hid (HG3.out.setCell (p := ⟨w.heap.size + 1 + 1, j, none⟩) (by show w.heap.size ≤ w.heap.size + 1 + 1; omega) _), Nat.lt_of_lt_of_le hs2 hgr.size⟩
  case done =>
    rintro D V hD ⟨hk, _⟩ hK
    omega
  case stop =>
    rintro D c V hD ⟨rfl, HE, H4, HG, hs2⟩ hK
    refine (wpIn_wide (n := 9)).2 ?_
    obtain ⟨es, h2, h3⟩ := HE.out
    have e0 := H4.out.c0
    have hDw : w.heap.size + 1 + 1 + 1 + 1 + 1 ≤ D := by rw [HSZ1.out] at hD; exact hD
    have hput : V.grownBy (V.putObj D (.deferred none)) (some D) := ⟨rfl, rfl, rfl, by simp, fun k _ hk => World.putObj_heap_other (fun e => hk (by rw [e]))⟩
    have hp := h2.kept hput (fun g e => by injection e with e; subst e; exact ⟨by omega, fun cur h => (by rw [hK] at h; cases h), fun cur h => (by rw [hK] at h; cases h)⟩)
    have hel : ∀ j, j < es.length → (va es j).zs.length ≤ 1048576 ∧ Fit (va es j).zs := fun j hj => by
      rw [h3.1] at hj
      by_cases e1 : 1 ≤ j
      · rw [h3.2.1 j e1 (by omega), erV_len (by omega)]
        exact ⟨(HS.out j (by rw [HM.out] at hj; omega)).2, erV_fit (by omega)⟩
      · rw [h3.2.2 j (by omega)]
        exact ⟨Nat.zero_le _, fit_nil⟩
    have HER : Hid (Errs (V.putObj D (.deferred none)) (some ⟨w.heap.size + 1 + 1, 0, none⟩) N es zs ps xs ys q) := Lib.hid ⟨hp.lot (by rw [h3.1, HM.out]; omega) (fun j hj => (hel j hj).1) (fun j hj => (hel j hj).2), h3.1, fun j h1 h2 => h3.2.1 j h1 h2⟩
    have HGE : Hid (Grew w (V.putObj D (.deferred none))) := Lib.hid (Grew.trans_below HG.out (below_put (B := w.heap.size) (by omega) hK) (Nat.le_refl _))
    clear h2 h3 hput hp hel
    go_wp2
    refine ⟨by simp, .inl ⟨_, _, rfl, run_takeDeferred hK, ?_⟩⟩
    exact ⟨.slice (some ⟨w.heap.size + 1 + 1, 0, none⟩) N N, by simp [results, Try.results36, go_sem], ⟨_, es, rfl, HER.out⟩, HGE.out⟩
end Go.Proofs.Ytciocdjpgknihaa
