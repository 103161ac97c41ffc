/- Sizes in memory: outside, slices.ContainsFunc, slices.Clone and slices.Equal at integers; blocks of three cells; a box. Condition: at most 2^44 sizes. -/
import Derived.Test.YtfgadjpdpocdbaaDoorNa
import Derived.Test.YtfgadjpdpocdbaaDoorHa
import Derived.Deep.QuietTactic
import Derived.BigQuiet
import Derived.Lib.SliceRun
namespace Go.Proofs.YtfgadjpdpocdbaaDoor
open Go.RowKit

theorem RdK.two {q : IntKind} {B k j : Nat} {W : World} {a : Option Addr} {zs : List Int} (h : RdK q B W a zs) (hk : k < zs.length) (hj : j < zs.length) :
    ∃ b off, a = some ⟨b, off, none⟩ ∧ b < B ∧ W.cell? ⟨b, off + k, none⟩ = some (.int q (el zs k)) ∧ W.cell? ⟨b, off + j, none⟩ = some (.int q (el zs j)) := by
  rcases h with rfl | ⟨b, off, ha, hb, hc⟩
  · simp at hk
  · exact ⟨b, off, ha, hb, hc k hk, hc j hj⟩
theorem RdK.take {q : IntKind} {B k : Nat} {W : World} {a : Option Addr} {zs : List Int} (h : RdK q B W a zs) : RdK q B W a (zs.take k) := by
  rcases h with rfl | ⟨b, off, ha, hb, hc⟩
  · exact .inl (by simp)
  · refine .inr ⟨b, off, ha, hb, fun j hj => ?_⟩
    rw [List.length_take] at hj
    rw [show el (zs.take k) j = el zs j by unfold el; rw [List.getElem?_take_of_lt (by omega)]]
    exact hc j (by omega)
/-- Block b holds a struct of three cells. -/
def Three (W : World) (b : Nat) (t : TypeId) (x y z : Value) : Prop := W.heap[b]? = some (.cells #[x, y, z] t (0, 0))
section
variable {W W' : World} {b : Nat} {t : TypeId} {x y z : Value}
theorem Three.lt (h : Three W b t x y z) : b < W.heap.size := (Array.getElem?_eq_some_iff.1 h).1
theorem Three.c0 (h : Three W b t x y z) : W.cell? ⟨b, 0, none⟩ = some x := by simp [World.cell?, show W.heap[b]? = _ from h]
theorem Three.c1 (h : Three W b t x y z) : W.cell? ⟨b, 1, none⟩ = some y := by simp [World.cell?, show W.heap[b]? = _ from h]
theorem Three.c2 (h : Three W b t x y z) : W.cell? ⟨b, 2, none⟩ = some z := by simp [World.cell?, show W.heap[b]? = _ from h]
theorem Three.f0 (h : Three W b t x y z) : W.frozen? ⟨b, 0, none⟩ = false := by simp [World.frozen?, show W.heap[b]? = _ from h]
theorem Three.f1 (h : Three W b t x y z) : W.frozen? ⟨b, 1, none⟩ = false := by simp [World.frozen?, show W.heap[b]? = _ from h]
theorem Three.f2 (h : Three W b t x y z) : W.frozen? ⟨b, 2, none⟩ = false := by simp [World.frozen?, show W.heap[b]? = _ from h]
theorem Three.set0 (h : Three W b t x y z) (v : Value) : Three (W.setCell ⟨b, 0, none⟩ v) b t v y z := by
  have := heap_setCell_same W b 0 #[x, y, z] t v h
  unfold Three
  rw [this]; rfl
theorem Three.set1 (h : Three W b t x y z) (v : Value) : Three (W.setCell ⟨b, 1, none⟩ v) b t x v z := by
  have := heap_setCell_same W b 1 #[x, y, z] t v h
  unfold Three
  rw [this]; rfl
theorem Three.set2 (h : Three W b t x y z) (v : Value) : Three (W.setCell ⟨b, 2, none⟩ v) b t x y v := by
  have := heap_setCell_same W b 2 #[x, y, z] t v h
  unfold Three
  rw [this]; rfl
theorem Three.all (h : Three W b t x y z) (u v s : Value) : Three (((W.setCell ⟨b, 0, none⟩ u).setCell ⟨b, 1, none⟩ v).setCell ⟨b, 2, none⟩ s) b t u v s := ((h.set0 u).set1 v).set2 s
theorem Three.other (h : Three W b t x y z) (p : Addr) (v : Value) (hne : b ≠ p.block) : Three (W.setCell p v) b t x y z := (heap_setCell_other W p b v hne).trans h
theorem Three.alloc (h : Three W b t x y z) (o : Obj) : Three (W.alloc o) b t x y z := (Below.heap_alloc W o b h.lt).trans h
theorem Three.grow (h : Three W b t x y z) (g : Grew W W') : Three W' b t x y z := (Below.block g b h.lt).trans h
theorem Three.below {B : Nat} (h : Three W b t x y z) (g : Below B W W') (hB : b < B) : Three W' b t x y z := (Below.block g b hB).trans h
theorem Three.grown {r : Option Nat} (h : Three W b t x y z) (g : W.grownBy W' r) (hne : some b ≠ r) : Three W' b t x y z := (g.block b h.lt hne).trans h
theorem Three.new (W : World) (t : TypeId) (x y z : Value) : Three (W.alloc (.cells #[x, y, z] t)) W.heap.size t x y z := (MapKept.heap_alloc W _).1
end

theorem soutside_any (z : Int) (w : World) : Calls Tryd.prog 29 #[.int .i64 z] w fun e w' => e = .returned (.bool (offS z)) ∧ w = w' := by
  have HE : Hid (offS z = (decide (z < 1) || decide (1048576 < z))) := Lib.hid rfl
  by_cases h1 : z < 1
  · go_enter Tryd.func29, Tryd.ntmps29
    go_wp2
    go_ret
    exact ⟨ret_bool (by rw [HE.out, decide_eq_true h1]; rfl), rfl⟩
  · by_cases h2 : 1048576 < z
    · go_enter Tryd.func29, Tryd.ntmps29
      go_wp2
      go_ret
      exact ⟨ret_bool (by rw [HE.out, decide_eq_true h2]; simp), rfl⟩
    · go_enter Tryd.func29, Tryd.ntmps29
      go_wp2
      go_ret
      exact ⟨ret_bool (by rw [HE.out, decide_eq_false (show ¬ z < 1 by omega), decide_eq_false (show ¬ 1048576 < z by omega)]; rfl), rfl⟩

theorem sindex_any (a : Option Addr) (c : Nat) (bs : List Int) (w : World) (hl : bs.length ≤ 17592186044416) (h : RdK .i64 w.heap.size w a bs) :
    Calls Tryd.prog 38 #[.slice a bs.length c, .func (.func 29) #[] #[]] w fun e w' => (∃ r : Int, e = .returned (.int .i64 r) ∧ decide (0 ≤ r) = badS bs) ∧ w = w' := by
  have HX := Lib.hid h
  clear h
  go_enter Tryd.func38, Tryd.ntmps38
  go_wp2
  go_loopw [8] (fun x wr => ∃ k : Nat, k ≤ bs.length ∧ x = .int .i64 k ∧ Hid (∀ j, j < k → offS (el bs j) = false) ∧ wr = w) (fun x _ => bs.length - (intOf x).toNat)
  case atStart => exact ⟨0, Nat.zero_le _, rfl, Lib.hid (fun j hj => absurd hj (Nat.not_lt_zero _)), rfl⟩
  case round =>
    obtain ⟨k, hk, rfl, HM, rfl⟩ := hrel
    by_cases hlt : k < bs.length
    · obtain ⟨b, off, rfl, hb, hc⟩ := HX.out.at hlt
      by_cases h1 : offS (el bs k) = true
      · have HE := Lib.hid (badS_yes hlt h1)
        have H1 := Lib.hid h1
        generalize el bs k = z at *
        clear h1
        go_wp2_with fail
        refine (soutside_any z _).mono ?_
        rintro e w1 ⟨rfl, rfl⟩
        rw [H1.out]
        go_wp2
        go_ret
        exact ⟨⟨_, rfl, by rw [HE.out]; simp⟩, rfl⟩
      · have h1 : offS (el bs k) = false := by simpa using h1
        have HM' : Hid (∀ j, j < k + 1 → offS (el bs j) = false) := Lib.hid (fun j hj => by
          by_cases e : j = k
          · subst e; exact h1
          · exact HM.out j (by omega))
        have H1 := Lib.hid h1
        generalize el bs k = z at *
        clear h1
        go_wp2_with fail
        refine (soutside_any z _).mono ?_
        rintro e w1 ⟨rfl, rfl⟩
        rw [H1.out]
        go_wp2
        go_roundw
        case rel => exact ⟨k + 1, by omega, by go_num, HM', trivial⟩
        case measure => simp [intOf]; omega
    · have HE : Hid (badS bs = false) := Lib.hid (badS_no (fun j hj => offS_no.1 (HM.out j (by omega))))
      go_wp2
      go_ret
      exact ⟨⟨_, rfl, by rw [HE.out]; simp⟩, rfl⟩

theorem scontains_any (a : Option Addr) (c : Nat) (bs : List Int) (w : World) (hl : bs.length ≤ 17592186044416) (h : RdK .i64 w.heap.size w a bs) :
    Calls Tryd.prog 28 #[.slice a bs.length c, .func (.func 29) #[] #[]] w fun e w' => e = .returned (.bool (badS bs)) ∧ w = w' := by
  have HX := Lib.hid h
  clear h
  go_enter Tryd.func28, Tryd.ntmps28
  go_wp2_with fail
  refine (sindex_any a c bs _ hl HX.out).mono ?_
  rintro e w1 ⟨⟨r, rfl, hr⟩, rfl⟩
  have HR := Lib.hid hr
  clear hr
  go_wp2
  go_ret
  exact ⟨ret_bool HR.out, rfl⟩

theorem info_int : (Tryd.prog.info? 3).map (fun i => (i.zero, i.size, i.bytes)) = some (some (.int .i64 0), 1, 8) := by kernel_rfl
set_option maxHeartbeats 1000000 in
theorem iclone_any (a : Option Addr) (cap : Nat) (zs : List Int) (w : World) (hl : zs.length ≤ 17592186044416) (h : RdK .i64 w.heap.size w a zs) :
    Calls Tryd.prog 30 #[.slice a zs.length cap] w fun e w' => (∃ a' cap', e = .returned (.slice a' zs.length cap') ∧ BufK .i64 3 w.heap.size w' a' zs.length cap' zs) ∧ Grew w w' := by
  obtain ⟨i0, hi, hz0, hz1, hz2⟩ := info_parts info_int
  have g0 : Grew w (w.alloc (.cells #[] 3)) := (Grew.refl w).alloc _
  have hown : (w.alloc (.cells #[] 3)).ownsRow w.heap.size 3 1 (.slice (some ⟨w.heap.size, 0, none⟩) 0 0) 0 [] := World.ownsRow_made w #[] 0 (Nat.le_refl _) (Nat.zero_le _) (by simp)
  have q22 : ∀ (w : World) (a : Option Addr) (n c n' c' : Nat), (binOp .eql 22 (.slice a n c) (.slice none n' c')).run Tryd.prog w = .ok (.bool a.isNone) w := fun w a n c n' c' => Lib.run_eql_slice_nil w _ _ a n c n' c' Tryd.underlying22
  cases a with
  | none =>
    obtain rfl : zs = [] := by
      rcases h with h | ⟨b, off, e, _⟩
      · exact h
      · cases e
    clear h hown g0
    simp only [List.length_nil]
    go_enter Tryd.func30, Tryd.ntmps30
    go_wp2
    go_ret
    exact ⟨⟨_, _, rfl, World.ownsRow_nil _ _ _ _⟩, Grew.refl _⟩
  | some x =>
    have HN : Hid (∀ (j : Nat) (u : Value), (zs.map (Value.int .i64))[j]? = some u → (w.alloc (.cells #[] 3)).cell? (x.add j) = some u) := Lib.hid (by
      intro j u hj
      have hlt : j < zs.length := by
        rcases Nat.lt_or_ge j zs.length with h' | h'
        · exact h'
        · rw [List.getElem?_eq_none (by simpa using h')] at hj; cases hj
      obtain ⟨b, off, e, hb, hc⟩ := (h.grow g0).at hlt
      injection e with e
      subst e
      rw [List.getElem?_map, el_lt hlt] at hj
      rw [Addr.add_lit, hc]
      exact hj)
    have HO := Lib.hid hown
    have HG := Lib.hid g0
    clear h hown g0
    go_enter Tryd.func30, Tryd.ntmps30
    go_wp2_with (at_builtin; refine wpList_append_own _ rfl _ _ 22 rfl w.heap.size 3 i0 (.int .i64 0) 1 8 Tryd.underlying22 hi hz0 hz1 hz2 rfl (by decide) _ _ _ rfl HO.out x zs.length cap (zs.map (Value.int .i64)) rfl ?qc1 ?qc2 ?qc3 ?qc4 ?qc5 ?qc6 ?_)
    case qc1 => simp
    case qc2 => exact HN.out
    case qc3 => intro u hu; obtain ⟨z, _, rfl⟩ := List.mem_map.1 hu; rfl
    case qc4 => unfold maxLen; omega
    case qc5 => omega
    case qc6 => simp
    intro v' w1 hown hgrow hnil
    have HG1 : Hid (Grew w w1) := Lib.hid (Below.grown HG.out hgrow (by simp) (by intro k hk; simp [Value.ownBlock] at hk; omega))
    obtain ⟨a', c', rfl, hb⟩ := own_ints (n := zs.length) (zs := zs) (q := .i64) hown
    have HB := Lib.hid hb
    clear hown hgrow hnil hb
    go_wp2
    go_ret
    exact ⟨⟨_, _, rfl, HB.out⟩, HG1.out⟩

theorem iequal_any (a a' : Option Addr) (c c' : Nat) (xs ys : List Int) (w : World) (hl : xs.length ≤ 17592186044416) (hl2 : ys.length ≤ 17592186044416) (hx : RdK .i64 w.heap.size w a xs) (hy : RdK .i64 w.heap.size w a' ys) :
    Calls Tryd.prog 11 #[.slice a xs.length c, .slice a' ys.length c'] w fun e w' => e = .returned (.bool (decide (xs = ys))) ∧ Grew w w' := by
  by_cases hlen : xs.length = ys.length
  · have HX := Lib.hid hx
    have HY := Lib.hid hy
    clear hx hy
    rw [← hlen] 
    have HL := Lib.hid hlen
    clear hlen
    go_enter Tryd.func11, Tryd.ntmps11
    go_wp2
    go_loopw [13] (fun i wr => ∃ k : Nat, k ≤ xs.length ∧ i = .int .i64 k ∧ Hid (Grew w wr) ∧ Hid (∀ j, j < k → el xs j = el ys j)) (fun i _ => xs.length - (intOf i).toNat)
    case atStart => exact ⟨0, Nat.zero_le _, rfl, Lib.hid (Grew.refl _), Lib.hid (fun j hj => by omega)⟩
    case round =>
      obtain ⟨k, hk, rfl, HG, HM⟩ := hrel
      by_cases hlt : k < xs.length
      · obtain ⟨b, off, rfl, hb, hc⟩ := (HX.out.grow HG.out).at hlt
        obtain ⟨b', off', rfl, hb', hd⟩ := (HY.out.grow HG.out).at (k := k) (by rw [← HL.out]; exact hlt)
        by_cases h1 : el xs k = el ys k
        · have HM' : Hid (∀ j, j < k + 1 → el xs j = el ys j) := Lib.hid (fun j hj => by
            by_cases e : j = k
            · subst e; exact h1
            · exact HM.out j (by omega))
          rw [← h1] at hd
          generalize el xs k = z at *
          clear h1
          go_wp2
          go_quiet (fail)
          go_wp2
          go_roundw
          case rel => exact ⟨k + 1, by omega, by go_num, Lib.hid (HG.out.drewN _), HM'⟩
          case measure => simp [intOf]; omega
        · have HE : Hid (decide (xs = ys) = false) := Lib.hid (decide_eq_false (by rintro rfl; exact h1 rfl))
          generalize el xs k = z at *
          generalize el ys k = z' at *
          go_wp2
          go_quiet (fail)
          go_wp2
          go_ret
          exact ⟨ret_bool HE.out.symm, HG.out.drewN _⟩
      · have HE : Hid (xs = ys) := Lib.hid (el_ext HL.out (by rw [show xs.length = k from by omega]; exact HM.out))
        go_wp2
        go_ret
        exact ⟨ret_bool (decide_eq_true HE.out).symm, HG.out⟩
  · have HE : Hid (decide (xs = ys) = false) := Lib.hid (decide_eq_false (by rintro rfl; exact hlen rfl))
    go_enter Tryd.func11, Tryd.ntmps11
    go_wp2
    go_ret
    exact ⟨ret_bool HE.out.symm, Grew.refl _⟩

theorem iclone_n {n : Nat} (a : Option Addr) (cap : Nat) (zs : List Int) (w : World) (hn : zs.length = n) (hl : n ≤ 17592186044416) (h : RdK .i64 w.heap.size w a zs) :
    Calls Tryd.prog 30 #[.slice a n cap] w fun e w' => (∃ a' cap', e = .returned (.slice a' n cap') ∧ BufK .i64 3 w.heap.size w' a' n cap' zs) ∧ Grew w w' := by
  subst hn; exact iclone_any a cap zs w hl h
theorem iequal_n {n m : Nat} (a a' : Option Addr) (c c' : Nat) (xs ys : List Int) (w : World) (hn : xs.length = n) (hm : ys.length = m) (hl : n ≤ 17592186044416) (hl2 : m ≤ 17592186044416) (hx : RdK .i64 w.heap.size w a xs) (hy : RdK .i64 w.heap.size w a' ys) :
    Calls Tryd.prog 11 #[.slice a n c, .slice a' m c'] w fun e w' => e = .returned (.bool (decide (xs = ys))) ∧ Grew w w' := by
  subst hn hm; exact iequal_any a a' c c' xs ys w hl hl2 hx hy
theorem scontains_n {n : Nat} (a : Option Addr) (c : Nat) (bs : List Int) (w : World) (hn : bs.length = n) (hl : n ≤ 17592186044416) (h : RdK .i64 w.heap.size w a bs) :
    Calls Tryd.prog 28 #[.slice a n c, .func (.func 29) #[] #[]] w fun e w' => e = .returned (.bool (badS bs)) ∧ w = w' := by
  subst hn; exact scontains_any a c bs w hl h
end Go.Proofs.YtfgadjpdpocdbaaDoor
