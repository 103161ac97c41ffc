/- Lists of int64 numbers in memory: slices.Clone, slices.Equal, the reference's Clone and Same; Same of two examples, the program's and the reference's. Condition: at most 2^40 numbers. -/
import Derived.Test.YthdkanmpapioeaaDoorEb
import Derived.Test.YthdkanmpapioeaaDoorVb
import Derived.Deep.QuietTactic
import Derived.BigQuiet
import Derived.Lib.SliceRun
import Derived.OwnWalk
import Derived.Maps.AppendAt
namespace Go.Proofs.YthdkanmpapioeaaDoor
open Go.RowKit

theorem info_i64 : (Tryd.prog.info? 2).map (fun i => (i.zero, i.size, i.bytes)) = some (some (.int .i64 0), 1, 8) := by kernel_rfl
set_option maxHeartbeats 1000000 in
theorem jclone_any (a : Option Addr) (cap : Nat) (zs : List Int) (w : World) (hl : zs.length ≤ 17592186044416) (h : RdK .i64 w.heap.size w a zs) :
    Calls Tryd.prog 38 #[.slice a zs.length cap] w fun e w' => (∃ a' cap', e = .returned (.slice a' zs.length cap') ∧ BufK .i64 2 w.heap.size w' a' zs.length cap' zs) ∧ Grew w w' := by
  obtain ⟨i0, hi, hz0, hz1, hz2⟩ := info_parts info_i64
  have g0 : Grew w (w.alloc (.cells #[] 2)) := (Grew.refl w).alloc _
  have hown : (w.alloc (.cells #[] 2)).ownsRow w.heap.size 2 1 (.slice (some ⟨w.heap.size, 0, none⟩) 0 0) 0 [] := World.ownsRow_made w #[] 0 (Nat.le_refl _) (Nat.zero_le _) (by simp)
  have q22 : ∀ (w : World) (a : Option Addr) (n c n' c' : Nat), (binOp .eql 22 (.slice a n c) (.slice none n' c')).run Tryd.prog w = .ok (.bool a.isNone) w := fun w a n c n' c' => Lib.run_eql_slice_nil w _ _ a n c n' c' Tryd.underlying22
  cases a with
  | none =>
    obtain rfl : zs = [] := by
      rcases h with h | ⟨b, off, e, _⟩
      · exact h
      · cases e
    clear h hown g0
    simp only [List.length_nil]
    go_enter Tryd.func38, Tryd.ntmps38
    go_wp2
    go_ret
    exact ⟨⟨_, _, rfl, World.ownsRow_nil _ _ _ _⟩, Grew.refl _⟩
  | some x =>
    have HN : Hid (∀ (j : Nat) (u : Value), (zs.map (Value.int .i64))[j]? = some u → (w.alloc (.cells #[] 2)).cell? (x.add j) = some u) := Lib.hid (by
      intro j u hj
      have hlt : j < zs.length := by
        rcases Nat.lt_or_ge j zs.length with h' | h'
        · exact h'
        · rw [List.getElem?_eq_none (by simpa using h')] at hj; cases hj
      obtain ⟨b, off, e, hb, hc⟩ := (h.grow g0).at hlt
      obtain rfl := Option.some.inj e
      rw [List.getElem?_map, el_lt hlt] at hj
      rw [Addr.add_lit, hc]
      exact hj)
    have HO := Lib.hid hown
    have HG := Lib.hid g0
    clear h hown g0
    go_enter Tryd.func38, Tryd.ntmps38
    go_wp2_with (at_builtin; refine wpList_append_own _ rfl _ _ 22 rfl w.heap.size 2 i0 (.int .i64 0) 1 8 Tryd.underlying22 hi hz0 hz1 hz2 rfl (by decide) _ _ _ rfl HO.out x zs.length cap (zs.map (Value.int .i64)) rfl ?qc1 ?qc2 ?qc3 ?qc4 ?qc5 ?qc6 ?_)
    case qc1 => simp
    case qc2 => exact HN.out
    case qc3 => intro u hu; obtain ⟨z, _, rfl⟩ := List.mem_map.1 hu; rfl
    case qc4 => unfold maxLen; omega
    case qc5 => omega
    case qc6 => simp
    intro v' w1 hown hgrow hnil
    have HG1 : Hid (Grew w w1) := Lib.hid (Below.grown HG.out hgrow (by simp) (by intro k hk; simp [Value.ownBlock] at hk; omega))
    obtain ⟨a', c', rfl, hb⟩ := own_ints (n := zs.length) (zs := zs) (q := .i64) hown
    have HB := Lib.hid hb
    clear hown hgrow hnil hb
    go_wp2
    go_ret
    exact ⟨⟨_, _, rfl, HB.out⟩, HG1.out⟩

theorem jequal_any (a a' : Option Addr) (c c' : Nat) (xs ys : List Int) (w : World) (hl : xs.length ≤ 17592186044416) (hl2 : ys.length ≤ 17592186044416) (hx : RdK .i64 w.heap.size w a xs) (hy : RdK .i64 w.heap.size w a' ys) :
    Calls Tryd.prog 39 #[.slice a xs.length c, .slice a' ys.length c'] w fun e w' => e = .returned (.bool (decide (xs = ys))) ∧ Grew w w' := by
  by_cases hlen : xs.length = ys.length
  · have HX := Lib.hid hx
    have HY := Lib.hid hy
    clear hx hy
    rw [← hlen] 
    have HL := Lib.hid hlen
    clear hlen
    go_enter Tryd.func39, Tryd.ntmps39
    go_wp2
    go_loopw [13] (fun i wr => ∃ k : Nat, k ≤ xs.length ∧ i = .int .i64 k ∧ Hid (Grew w wr) ∧ Hid (∀ j, j < k → el xs j = el ys j)) (fun i _ => xs.length - (intOf i).toNat)
    case atStart => exact ⟨0, Nat.zero_le _, rfl, Lib.hid (Grew.refl _), Lib.hid (fun j hj => by omega)⟩
    case round =>
      obtain ⟨k, hk, rfl, HG, HM⟩ := hrel
      by_cases hlt : k < xs.length
      · obtain ⟨b, off, rfl, hb, hc⟩ := (HX.out.grow HG.out).at hlt
        obtain ⟨b', off', rfl, hb', hd⟩ := (HY.out.grow HG.out).at (k := k) (by rw [← HL.out]; exact hlt)
        by_cases h1 : el xs k = el ys k
        · have HM' : Hid (∀ j, j < k + 1 → el xs j = el ys j) := Lib.hid (fun j hj => by
            by_cases e : j = k
            · subst e; exact h1
            · exact HM.out j (by omega))
          rw [← h1] at hd
          generalize el xs k = z at *
          clear h1
          go_wp2
          go_quiet (fail)
          go_wp2
          go_roundw
          case rel => exact ⟨k + 1, by omega, by go_num, Lib.hid (HG.out.drewN _), HM'⟩
          case measure => simp [intOf]; omega
        · have HE : Hid (decide (xs = ys) = false) := Lib.hid (decide_eq_false (by rintro rfl; exact h1 rfl))
          generalize el xs k = z at *
          generalize el ys k = z' at *
          go_wp2
          go_quiet (fail)
          go_wp2
          go_ret
          exact ⟨ret_bool HE.out.symm, HG.out.drewN _⟩
      · have HE : Hid (xs = ys) := Lib.hid (el_ext HL.out (by rw [show xs.length = k from by omega]; exact HM.out))
        go_wp2
        go_ret
        exact ⟨ret_bool (decide_eq_true HE.out).symm, HG.out⟩
  · have HE : Hid (decide (xs = ys) = false) := Lib.hid (decide_eq_false (by rintro rfl; exact hlen rfl))
    go_enter Tryd.func39, Tryd.ntmps39
    go_wp2
    go_ret
    exact ⟨ret_bool HE.out.symm, Grew.refl _⟩

theorem jclone_n {n : Nat} (a : Option Addr) (cap : Nat) (zs : List Int) (w : World) (hn : zs.length = n) (hl : n ≤ 17592186044416) (h : RdK .i64 w.heap.size w a zs) :
    Calls Tryd.prog 38 #[.slice a n cap] w fun e w' => (∃ a' cap', e = .returned (.slice a' n cap') ∧ BufK .i64 2 w.heap.size w' a' n cap' zs) ∧ Grew w w' := by
  subst hn; exact jclone_any a cap zs w hl h
theorem jequal_n {n m : Nat} (a a' : Option Addr) (c c' : Nat) (xs ys : List Int) (w : World) (hn : xs.length = n) (hm : ys.length = m) (hl : n ≤ 17592186044416) (hl2 : m ≤ 17592186044416) (hx : RdK .i64 w.heap.size w a xs) (hy : RdK .i64 w.heap.size w a' ys) :
    Calls Tryd.prog 39 #[.slice a n c, .slice a' m c'] w fun e w' => e = .returned (.bool (decide (xs = ys))) ∧ Grew w w' := by
  subst hn hm; exact jequal_any a a' c c' xs ys w hl hl2 hx hy
set_option maxHeartbeats 1000000 in
theorem rclone_any (a : Option Addr) (cap : Nat) (zs : List Int) (w : World) (hl : zs.length ≤ 1099511627776) (ha : a = none → cap = 0) (h : Rd w.heap.size w a zs) :
    Calls Tryd.prog 33 #[.slice a zs.length cap] w fun e w' => (∃ a' cap', e = .returned (.slice a' zs.length cap') ∧ Buf w.heap.size w' a' zs.length cap' zs) ∧ Grew w w' := by
  obtain ⟨i0, hi, hz0, hz1, hz2⟩ := info_parts info_i64
  have g0 : Grew w (w.alloc (.cells #[] 2)) := (Grew.refl w).alloc _
  have hown : (w.alloc (.cells #[] 2)).ownsRow w.heap.size 2 1 (.slice (some ⟨w.heap.size, 0, none⟩) 0 0) 0 [] := World.ownsRow_made w #[] 0 (Nat.le_refl _) (Nat.zero_le _) (by simp)
  cases a with
  | none =>
    obtain rfl := ha rfl
    obtain rfl : zs = [] := by
      rcases h with h | ⟨b, off, e, _⟩
      · exact h
      · cases e
    have HO := Lib.hid hown
    have HG := Lib.hid g0
    clear ha h hown g0
    simp only [List.length_nil]
    go_enter Tryd.func33, Tryd.ntmps33
    go_wp2
    go_ret
    exact ⟨⟨_, _, rfl, HO.out⟩, HG.out⟩
  | some x =>
    have HN : Hid (∀ (j : Nat) (u : Value), (zs.map (Value.int .i64))[j]? = some u → (w.alloc (.cells #[] 2)).cell? (x.add j) = some u) := Lib.hid (by
      intro j u hj
      have hlt : j < zs.length := by
        rcases Nat.lt_or_ge j zs.length with h' | h'
        · exact h'
        · rw [List.getElem?_eq_none (by simpa using h')] at hj; cases hj
      obtain ⟨b, off, e, hb, hc⟩ := (h.keep g0).at hlt
      obtain rfl := Option.some.inj e
      rw [List.getElem?_map, el_lt hlt] at hj
      rw [Addr.add_lit, hc]
      exact hj)
    have HO := Lib.hid hown
    have HG := Lib.hid g0
    clear ha h hown g0
    go_enter Tryd.func33, Tryd.ntmps33
    go_wp2_with (at_builtin; refine wpList_append_own _ rfl _ _ 22 rfl w.heap.size 2 i0 (.int .i64 0) 1 8 Tryd.underlying22 hi hz0 hz1 hz2 rfl (by decide) _ _ _ rfl HO.out x zs.length cap (zs.map (Value.int .i64)) rfl ?qc1 ?qc2 ?qc3 ?qc4 ?qc5 ?qc6 ?_)
    case qc1 => simp
    case qc2 => exact HN.out
    case qc3 => intro u hu; obtain ⟨z, _, rfl⟩ := List.mem_map.1 hu; rfl
    case qc4 => unfold maxLen; omega
    case qc5 => omega
    case qc6 => simp
    intro v' w1 hown hgrow hnil
    have HG1 : Hid (Grew w w1) := Lib.hid (Below.grown HG.out hgrow (by simp) (by intro k hk; simp [Value.ownBlock] at hk; omega))
    rcases hown.2 with ⟨rfl, _⟩ | ⟨g, c, cur, rfl, _⟩
    · exact (hnil rfl).elim
    · have HB : Hid (Buf w.heap.size w1 (some ⟨g, 0, none⟩) zs.length c zs) := Lib.hid hown
      clear hown hgrow hnil
      go_wp2
      go_ret
      exact ⟨⟨_, _, rfl, HB.out⟩, HG1.out⟩

theorem rsame_n {n m : Nat} (a a' : Option Addr) (c c' : Nat) (xs ys : List Int) (w : World) (hn : xs.length = n) (hm : ys.length = m) (hx : n ≤ 35184372088832) (hy : m ≤ 35184372088832) (rx : Rd w.heap.size w a xs) (ry : Rd w.heap.size w a' ys) :
    Calls Tryd.prog 30 #[.slice a n c, .slice a' m c'] w fun e w' => e = .returned (.bool (decide (xs = ys))) ∧ Grew w w' := by subst hn hm; exact rsame_any a a' c c' xs ys w hx hy rx ry

set_option maxHeartbeats 1000000 in
theorem dsame_any (e f : Ex) (xa ya xb yb : Option Addr) (xc yc xd yd : Nat) (w : World) (h1 : e.1.length ≤ 17592186044416) (h2 : e.2.length ≤ 17592186044416) (h3 : f.1.length ≤ 17592186044416) (h4 : f.2.length ≤ 17592186044416)
    (r1 : RdK .i64 w.heap.size w xa e.1) (r2 : RdK .i64 w.heap.size w ya e.2) (r3 : RdK .i64 w.heap.size w xb f.1) (r4 : RdK .i64 w.heap.size w yb f.2) :
    Calls Tryd.prog 25 #[.agg #[.slice xa e.1.length xc, .slice ya e.2.length yc], .agg #[.slice xb f.1.length xd, .slice yb f.2.length yd]] w fun u w' => u = .returned (.bool (decide (e = f))) ∧ Grew w w' := by
  obtain ⟨x, y⟩ := e
  obtain ⟨x', y'⟩ := f
  dsimp only at h1 h2 h3 h4 r1 r2 r3 r4 ⊢
  have hg : Grew w ((w.alloc (.cells #[.slice xa x.length xc, .slice ya y.length yc] 24)).alloc (.cells #[.slice xb x'.length xd, .slice yb y'.length yd] 24)) := ((Grew.refl w).alloc _).alloc _
  have ht := (Two.new w 24 (.slice xa x.length xc) (.slice ya y.length yc)).alloc (.cells #[.slice xb x'.length xd, .slice yb y'.length yd] 24)
  have hu := Two.new (w.alloc (.cells #[.slice xa x.length xc, .slice ya y.length yc] 24)) 24 (.slice xb x'.length xd) (.slice yb y'.length yd)
  rw [World.size_alloc] at hu
  have HG := Lib.hid hg
  have HT := Lib.hid ht
  have HU := Lib.hid hu
  have R1 := Lib.hid (r1.grow hg)
  have R2 := Lib.hid (r2.grow hg)
  have R3 := Lib.hid (r3.grow hg)
  have R4 := Lib.hid (r4.grow hg)
  clear hg ht hu r1 r2 r3 r4
  by_cases hx : x = x'
  · have HX : Hid (decide (x = x') = true) := Lib.hid (decide_eq_true hx)
    have HE : Hid (decide ((x, y) = (x', y')) = decide (y = y')) := Lib.hid (by subst hx; simp)
    clear hx
    go_enter Tryd.func25, Tryd.ntmps25
    go_wp2_with fail
    refine (jequal_any xa xb xc xd x x' _ h1 h3 R1.out R3.out).mono ?_
    rintro u w1 ⟨rfl, g1⟩
    rw [HX.out]
    have HT1 := HT.out.grow g1
    have HU1 := HU.out.grow g1
    have c1 := HT1.c1
    have d1 := HU1.c1
    have R21 := Lib.hid (R2.out.grow g1)
    have R41 := Lib.hid (R4.out.grow g1)
    have HG1 := Lib.hid (HG.out.trans g1)
    clear g1 HT1 HU1
    go_wp2_with fail
    refine (jequal_any ya yb yc yd y y' _ h2 h4 R21.out R41.out).mono ?_
    rintro u w2 ⟨rfl, g2⟩
    go_wp2
    go_ret
    exact ⟨ret_bool (by rw [HE.out]), HG1.out.trans g2⟩
  · have HX : Hid (decide (x = x') = false) := Lib.hid (decide_eq_false hx)
    have HE : Hid (decide ((x, y) = (x', y')) = false) := Lib.hid (decide_eq_false (fun e => hx (congrArg Prod.fst e)))
    clear hx
    go_enter Tryd.func25, Tryd.ntmps25
    go_wp2_with fail
    refine (jequal_any xa xb xc xd x x' _ h1 h3 R1.out R3.out).mono ?_
    rintro u w1 ⟨rfl, g1⟩
    rw [HX.out]
    go_wp2
    go_ret
    exact ⟨ret_bool (by rw [HE.out]), HG.out.trans g1⟩

set_option maxHeartbeats 1000000 in
theorem rsameE_any (e f : Ex) (xa ya xb yb : Option Addr) (xc yc xd yd : Nat) (w : World) (h1 : e.1.length ≤ 17592186044416) (h2 : e.2.length ≤ 17592186044416) (h3 : f.1.length ≤ 17592186044416) (h4 : f.2.length ≤ 17592186044416)
    (r1 : RdK .i64 w.heap.size w xa e.1) (r2 : RdK .i64 w.heap.size w ya e.2) (r3 : RdK .i64 w.heap.size w xb f.1) (r4 : RdK .i64 w.heap.size w yb f.2) :
    Calls Tryd.prog 14 #[.agg #[.slice xa e.1.length xc, .slice ya e.2.length yc], .agg #[.slice xb f.1.length xd, .slice yb f.2.length yd]] w fun u w' => u = .returned (.bool (decide (e = f))) ∧ Grew w w' := by
  obtain ⟨x, y⟩ := e
  obtain ⟨x', y'⟩ := f
  dsimp only at h1 h2 h3 h4 r1 r2 r3 r4 ⊢
  have hg : Grew w ((w.alloc (.cells #[.slice xa x.length xc, .slice ya y.length yc] 24)).alloc (.cells #[.slice xb x'.length xd, .slice yb y'.length yd] 24)) := ((Grew.refl w).alloc _).alloc _
  have ht := (Two.new w 24 (.slice xa x.length xc) (.slice ya y.length yc)).alloc (.cells #[.slice xb x'.length xd, .slice yb y'.length yd] 24)
  have hu := Two.new (w.alloc (.cells #[.slice xa x.length xc, .slice ya y.length yc] 24)) 24 (.slice xb x'.length xd) (.slice yb y'.length yd)
  rw [World.size_alloc] at hu
  have HG := Lib.hid hg
  have HT := Lib.hid ht
  have HU := Lib.hid hu
  have R1 := Lib.hid (r1.grow hg)
  have R2 := Lib.hid (r2.grow hg)
  have R3 := Lib.hid (r3.grow hg)
  have R4 := Lib.hid (r4.grow hg)
  clear hg ht hu r1 r2 r3 r4
  by_cases hx : x = x'
  · have HX : Hid (decide (x = x') = true) := Lib.hid (decide_eq_true hx)
    have HE : Hid (decide ((x, y) = (x', y')) = decide (y = y')) := Lib.hid (by subst hx; simp)
    clear hx
    go_enter Tryd.func14, Tryd.ntmps14
    go_wp2_with fail
    refine (rsame_any xa xb xc xd x x' _ (by omega) (by omega) R1.out R3.out).mono ?_
    rintro u w1 ⟨rfl, g1⟩
    rw [HX.out]
    have HT1 := HT.out.grow g1
    have HU1 := HU.out.grow g1
    have c1 := HT1.c1
    have d1 := HU1.c1
    have R21 := Lib.hid (R2.out.grow g1)
    have R41 := Lib.hid (R4.out.grow g1)
    have HG1 := Lib.hid (HG.out.trans g1)
    clear g1 HT1 HU1
    go_wp2_with fail
    refine (rsame_any ya yb yc yd y y' _ (by omega) (by omega) R21.out R41.out).mono ?_
    rintro u w2 ⟨rfl, g2⟩
    go_wp2
    go_ret
    exact ⟨ret_bool (by rw [HE.out]), HG1.out.trans g2⟩
  · have HX : Hid (decide (x = x') = false) := Lib.hid (decide_eq_false hx)
    have HE : Hid (decide ((x, y) = (x', y')) = false) := Lib.hid (decide_eq_false (fun e => hx (congrArg Prod.fst e)))
    clear hx
    go_enter Tryd.func14, Tryd.ntmps14
    go_wp2_with fail
    refine (rsame_any xa xb xc xd x x' _ (by omega) (by omega) R1.out R3.out).mono ?_
    rintro u w1 ⟨rfl, g1⟩
    rw [HX.out]
    go_wp2
    go_ret
    exact ⟨ret_bool (by rw [HE.out]), HG.out.trans g1⟩
end Go.Proofs.YthdkanmpapioeaaDoor
