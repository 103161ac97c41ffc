/- Mul, Turn and Outer of the reference. Conditions: elements are within the bounds of int64; at most 2^40 of them. -/
import Derived.Test.YtklledigcabllaaUc
import Derived.Test.YtklledigcabllaaUm
import Derived.Deep.RegionHeld3
namespace Go.Proofs.Ytklledigcabllaa
open Go.RowKit

theorem Grew.drew' {a b : World} (h : Grew a b) : Grew a b.drew := ⟨h.os, h.tape, h.output, h.size, h.block⟩
theorem keep_h4 {V W W' : World} {a b c d : Addr} {x y z u : Value} (k : Grew W W') (h : Grew V W ∧ W.cell? a = some x ∧ W.cell? b = some y ∧ W.cell? c = some z ∧ W.cell? d = some u) :
    Grew V W' ∧ W'.cell? a = some x ∧ W'.cell? b = some y ∧ W'.cell? c = some z ∧ W'.cell? d = some u :=
  ⟨h.1.trans k, (Below.cell k (World.block_lt_of_cell? W a h.2.1)).trans h.2.1, (Below.cell k (World.block_lt_of_cell? W b h.2.2.1)).trans h.2.2.1, (Below.cell k (World.block_lt_of_cell? W c h.2.2.2.1)).trans h.2.2.2.1, (Below.cell k (World.block_lt_of_cell? W d h.2.2.2.2)).trans h.2.2.2.2⟩

set_option maxHeartbeats 1000000 in
theorem rmul_no (R C : Int) (a a' : Option Addr) (n cap n' cap' : Nat) (q : Int) (w : World) (hn : n ≤ 35184372088832) (h : rightB R C n = false ∨ C ≠ (n' : Int)) :
    Calls Try.prog 22 #[.agg #[.int .i64 R, .int .i64 C, .slice a n cap], .slice a' n' cap', .int .i64 q] w fun e w' => e = .returned (.tuple #[.slice none 0 0, .bool false]) ∧ Grew w w' := by
  have HT := Lib.hid (Three.new w 24 (.int .i64 R) (.int .i64 C) (.slice a n cap))
  have HG : Hid (Grew w (w.alloc (.cells #[.int .i64 R, .int .i64 C, .slice a n cap] 24))) := Lib.hid ((Grew.refl w).alloc _)
  cases hR : rightB R C n with
  | false =>
    have HR := Lib.hid hR
    clear hR h
    go_enter Try.func22, Try.ntmps22
    go_wp2_with fail
    refine (rright_any R C a n cap _ hn).mono ?_
    rintro e w1 ⟨rfl, g1⟩
    rw [HR.out]
    have HG1 := Lib.hid (HG.out.trans g1)
    clear g1
    go_wp2
    go_ret2
    exact ⟨rfl, HG1.out⟩
  | true =>
    have HR := Lib.hid hR
    have hne : ((n' : Int) != C) = true := bne_iff_ne.2 (fun e => by rcases h with h | h; · rw [hR] at h; cases h
                                                                     · exact h e.symm)
    clear hR h
    go_enter Try.func22, Try.ntmps22
    go_wp2_with fail
    refine (rright_any R C a n cap _ hn).mono ?_
    rintro e w1 ⟨rfl, g1⟩
    rw [HR.out]
    have HG1 := Lib.hid (HG.out.trans g1)
    have ht := HT.out.grow g1
    have c1 := ht.c1
    clear g1 ht
    go_wp2
    go_ret2
    exact ⟨rfl, HG1.out⟩

theorem own_grow {B n size : Nat} {e : TypeId} {W W' : World} {v : Value} {xs : List Value} (h : W.ownsRow B e size v n xs) (k : Grew W W') : W'.ownsRow B e size v n xs := by
  refine ⟨h.1, ?_⟩
  rcases h.2 with e | ⟨g, c, cur, e, hb, hg, rest⟩
  · exact .inl e
  · refine .inr ⟨g, c, cur, e, hb, ?_, rest⟩
    have hlt : g < W.heap.size := by
      rcases Nat.lt_or_ge g W.heap.size with h' | h'
      · exact h'
      · rw [Array.getElem?_eq_none h'] at hg; cases hg
    rw [Below.block k g hlt]; exact hg
/-- A row of integers is in no block of a struct. -/
theorem own_not {B n b : Nat} {W : World} {v x y z : Value} {xs : List Value} (h : W.ownsRow B 2 1 v n xs) (hT : Three W b 24 x y z) (he : some b = v.ownBlock) : False := by
  rcases h.2 with ⟨rfl, _⟩ | ⟨g, c, cur, rfl, _, hg, _⟩
  · cases he
  · simp only [Value.ownBlock] at he
    injection he with he
    subst he
    rw [show W.heap[b]? = _ from hT] at hg
    injection hg with hg
    injection hg with _ ht
    exact absurd ht (by decide)

/-- The first sums. -/
def rL (zs : List Int) (C : Nat) (x : List Int) (q : Int) (k : Nat) : List Int := (List.range k).map fun r => pS (fun c => el zs (r * C + c)) x q C
theorem rL_succ (zs : List Int) (C : Nat) (x : List Int) (q : Int) (k : Nat) : rL zs C x q (k + 1) = rL zs C x q k ++ [pS (fun c => el zs (k * C + c)) x q C] := by simp [rL, List.range_succ]

set_option maxRecDepth 100000 in
set_option maxHeartbeats 4000000 in
theorem rmul_yes {R C cap cap' : Nat} {a a' : Option Addr} {zs xs : List Int} {q : Int} (w : World) (hz : zs.length = R * C) (hx : xs.length = C) (hR1 : 1 ≤ R) (hR2 : R ≤ 1048576) (hC : 1 ≤ C) (hC2 : C ≤ 1048576) (hl : zs.length ≤ 1099511627776)
    (hzr : Rd w.heap.size w a zs) (hxr : Rd w.heap.size w a' xs) (hzf : Fit zs) (hxf : Fit xs) :
    Calls Try.prog 22 #[.agg #[.int .i64 R, .int .i64 C, .slice a zs.length cap], .slice a' C cap', .int .i64 q] w fun e w' => (∃ s c, e = .returned (.tuple #[.slice s R c, .bool true]) ∧ Buf w.heap.size w' s R c (mulL zs R C xs q)) ∧ Grew w w' := by
  have HT := Lib.hid (Three.new w 24 (.int .i64 R) (.int .i64 C) (.slice a zs.length cap))
  have HG : Hid (Grew w (w.alloc (.cells #[.int .i64 R, .int .i64 C, .slice a zs.length cap] 24))) := Lib.hid ((Grew.refl w).alloc _)
  have hR : rightB (R : Int) (C : Int) zs.length = true := by rw [hz]; exact rightB_of hR1 hR2 hC hC2
  have HR := Lib.hid hR
  have HA : Hid (∀ r c : Nat, r < R → c < C → atV zs R C r c = el zs (r * C + c)) := Lib.hid (fun r c hr hc => atV_in hR hr hc)
  have HZR := Lib.hid hzr
  have HXR := Lib.hid hxr
  have HZF := Lib.hid hzf
  have HXF := Lib.hid hxf
  have HZ := Lib.hid hz
  have HXL := Lib.hid hx
  have hcne : ((C : Int) != (C : Int)) = false := bne_self_eq_false _
  obtain ⟨i0, hi, hz0, hz1, hz2⟩ := info_parts info_int
  clear hzr hxr hzf hxf hz hx hR
  go_enter Try.func22, Try.ntmps22
  go_wp2_with fail
  refine (rright_any (R : Int) (C : Int) a zs.length cap _ (by omega)).mono ?_
  rintro e w1 ⟨rfl, g1⟩
  rw [HR.out]
  have HG1 := Lib.hid (HG.out.trans g1)
  have ht := HT.out.grow g1
  have c0 := ht.c0
  have c1 := ht.c1
  have HT1 := Lib.hid ht
  clear g1 ht
  go_wp2_with fail
  clear c0 c1
  go_loopw [8, 9] (fun v i wr => ∃ r : Nat, r ≤ R ∧ i = .int .i64 (r : Int) ∧ Hid (wr.ownsRow w.heap.size 2 1 v r ((rL zs C xs q r).map (Value.int .i64))) ∧ Hid (Three wr w.heap.size 24 (.int .i64 R) (.int .i64 C) (.slice a zs.length cap)) ∧ Hid (Grew w wr)) (fun _ i _ => R - (intOf i).toNat)
  case atStart => exact ⟨0, Nat.zero_le _, by simp, Lib.hid (World.ownsRow_nil _ _ _ _), HT1, HG1⟩
  case round =>
    obtain ⟨r, hr, rfl, HB, HTr, HGr⟩ := hrel
    have c0 := HTr.out.c0
    have c1 := HTr.out.c1
    have c2 := HTr.out.c2
    by_cases hlt : r < R
    · go_wp2_with fail
      clear c0 c1 c2
      rename World => W1
      go_loopw [10, 11] (fun s i wi => ∃ c : Nat, c ≤ C ∧ i = .int .i64 (c : Int) ∧ s = .int .i64 (pS (fun c => el zs (r * C + c)) xs q c) ∧ Hid (Grew W1 wi)) (fun _ i _ => C - (intOf i).toNat)
      case atStart => exact ⟨0, Nat.zero_le _, by simp, rfl, Lib.hid (Grew.refl _)⟩
      case round =>
        obtain ⟨c, hc, rfl, rfl, HGc⟩ := hrel
        have htc := HTr.out.grow HGc.out
        have c0 := htc.c0
        have c1 := htc.c1
        have c2 := htc.c2
        clear htc
        by_cases hlc : c < C
        · have HPL := Lib.hid (place_lt hlt hlc)
          obtain ⟨xb, xo, rfl, hxb, hxc⟩ := (HXR.out.grow (HGr.out.trans HGc.out)).at (k := c) (by rw [HXL.out]; exact hlc)
          have HFZ := Lib.hid (HZF.out (r * C + c) (by rw [HZ.out]; exact HPL.out))
          have HFX := Lib.hid (HXF.out c (by rw [HXL.out]; exact hlc))
          have HAt := Lib.hid (HA.out r c hlt hlc)
          have HS : Hid (pS (fun c => el zs (r * C + c)) xs q (c + 1) = wrap64 (pS (fun c => el zs (r * C + c)) xs q c + mulV (el zs (r * C + c)) (el xs c) q)) := Lib.hid rfl
          have HZRc := Lib.hid (HZR.out.grow (Grew.drew' (HGr.out.trans HGc.out)))
          generalize pS (fun c => el zs (r * C + c)) xs q c = s at *
          generalize el zs (r * C + c) = zv at *
          generalize el xs c = xv at *
          go_wp2_with fail
          go_region_held3 (fun W' => Grew wr W' ∧ W'.cell? ⟨w.heap.size, 0, none⟩ = some (.int .i64 R) ∧ W'.cell? ⟨w.heap.size, 1, none⟩ = some (.int .i64 C) ∧ W'.cell? ⟨w.heap.size, 2, none⟩ = some (.slice a zs.length cap) ∧ W'.cell? ⟨xb, xo + c, none⟩ = some (.int .i64 xv))
            (first
              | exact ⟨Grew.drew' (Grew.refl _), c0, c1, c2, hxc⟩
              | exact keep_h4 (by assumption) (by assumption)
              | assumption)
            (first
              | (go_at_call 17; refine (rat_any (R : Int) (C : Int) (r : Int) (c : Int) a cap zs _ (by omega) HZRc.out).mono ?_; rintro e w2 ⟨rfl, g2⟩; rw [HAt.out])
              | (go_at_call 40; refine (rmul_any zv xv q _ HFZ.out.1 HFZ.out.2 HFX.out.1 HFX.out.2).mono ?_; rintro e w3 ⟨rfl, rfl⟩))
          all_goals go_wp2
          all_goals exact ⟨⟨c + 1, by omega, by go_num, by rw [HS.out, IntWalk.i64_left], Lib.hid ((Grew.drew' HGc.out).trans (by assumption))⟩, by simp [intOf]; omega⟩
        · obtain rfl : c = C := by omega
          have HS := Lib.hid (rL_succ zs c xs q r)
          have HBw := Lib.hid (own_grow HB.out HGc.out)
          have HGw := Lib.hid (HGr.out.trans HGc.out)
          have HTw := Lib.hid (HTr.out.grow HGc.out)
          generalize pS (fun d => el zs (r * c + d)) xs q c = s at *
          go_wp2_with (at_builtin; refine wpList_append_own _ rfl _ _ 22 rfl w.heap.size 2 i0 (.int .i64 0) 1 8 Try.underlying22 hi hz0 hz1 hz2 rfl (by decide) _ r _ rfl (HBw.out.alloc _) ⟨wr.heap.size, 0, none⟩ 1 1 [.int .i64 s] rfl ?qc1 ?qc2 ?qc3 ?qc4 ?qc5 ?qc6 ?_)
          case qc1 => rfl
          case qc2 => exact (cell_one_new _ _ _)
          case qc3 => intro u hu; simp only [List.mem_singleton] at hu; subst hu; rfl
          case qc4 => unfold maxLen; omega
          case qc5 => omega
          case qc6 => have := HGw.out.size; simp; omega
          intro v' w2 hown hgrow hnil
          have HO : Hid (w2.ownsRow w.heap.size 2 1 v' (r + 1) ((rL zs c xs q (r + 1)).map (Value.int .i64))) := Lib.hid (by rw [HS.out, List.map_append]; exact hown)
          have hbe : Grew w w2 := Below.grown (Below.alloc HGw.out HGw.out.size _) hgrow (by have := HGw.out.size; simp; omega) (fun j hj => (World.ownsRow.lt HBw.out j hj).1)
          have HG2 := Lib.hid hbe
          have HT2 : Hid (Three w2 w.heap.size 24 (.int .i64 R) (.int .i64 c) (.slice a zs.length cap)) := Lib.hid ((HTw.out.alloc (.cells #[.int .i64 s] 2)).grown hgrow (fun e => ?nb))
          case nb => exact own_not HBw.out HTw.out e
          clear hown hgrow hnil hbe c0 c1 c2
          go_wp2_with fail
          go_roundw
          case rel => exact ⟨r + 1, by omega, by go_num, HO, HT2, HG2⟩
          case measure => simp [intOf]; omega
    · obtain rfl : r = R := by omega
      obtain ⟨s', c', rfl, hb⟩ := own_slice HB.out
      have HB' : Hid (Buf w.heap.size wr s' r c' (mulL zs r C xs q)) := Lib.hid hb
      clear hb
      go_wp2
      go_ret2
      exact ⟨⟨_, _, rfl, HB'.out⟩, HGr.out⟩

theorem keep_r5 {V W W' : World} {a b c d e : Addr} {x y z u v : Value} (k : Grew W W') (h : Grew V W ∧ W.cell? a = some x ∧ W.cell? b = some y ∧ W.cell? c = some z ∧ W.cell? d = some u ∧ W.cell? e = some v) :
    Grew V W' ∧ W'.cell? a = some x ∧ W'.cell? b = some y ∧ W'.cell? c = some z ∧ W'.cell? d = some u ∧ W'.cell? e = some v :=
  ⟨h.1.trans k, (Below.cell k (World.block_lt_of_cell? W a h.2.1)).trans h.2.1, (Below.cell k (World.block_lt_of_cell? W b h.2.2.1)).trans h.2.2.1, (Below.cell k (World.block_lt_of_cell? W c h.2.2.2.1)).trans h.2.2.2.1, (Below.cell k (World.block_lt_of_cell? W d h.2.2.2.2.1)).trans h.2.2.2.2.1, (Below.cell k (World.block_lt_of_cell? W e h.2.2.2.2.2)).trans h.2.2.2.2.2⟩
end Go.Proofs.Ytklledigcabllaa
