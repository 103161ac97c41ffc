/- Place of a shape at a weight and at a bias. Conditions: the sizes are right. -/
import Derived.Test.YtfgadjpdpocdbaaDoorHg
namespace Go.Proofs.YtfgadjpdpocdbaaDoor
open Go.RowKit

theorem at_lim {zs : List Int} {i c : Int} {k r : Nat} (hR : Right zs) (ha : At zs i k r c) : k ≤ 16 ∧ r ≤ 1048576 ∧ c ≤ 1048576 ∧ 0 ≤ i ∧ i ≤ 1048576 := by
  have h1 := next_in hR.2.2.1 ha.1
  have h2 := this_in hR.2.2.1 ha.1
  have h3 := ha.1
  have h4 := ha.range hR.2.2.1
  have h5 := hR.2.1
  have h6 := hR.2.2.2
  unfold lnk at h3
  refine ⟨by omega, by have := ha.2.1; omega, ?_, h4.1, by omega⟩
  obtain ⟨_, _, ⟨_, h4, _⟩ | ⟨h4, _⟩⟩ := ha <;> omega

set_option maxHeartbeats 4000000 in
theorem place_w {D b k r : Nat} {i c : Int} {zs : List Int} {w : World} (hR : Right zs) (h : Shp D w b zs) (ha : At zs i k r c) (hc : 0 ≤ c) :
    Calls Tryd.prog 23 #[.pointer (some ⟨b, 0, none⟩), .int .i64 i] w fun e w' => e = .returned (.tuple #[.int .i64 k, .int .i64 r, .int .i64 c, .bool true]) ∧ Grew w w' := by
  have HW := Lib.hid (at_ofW hR.2.2.1 ha hc)
  have hkm : k < lnk zs := ha.1
  have hm16 : lnk zs ≤ 16 := by have := hR.2.1; unfold lnk; omega
  have hx := this_in hR.2.2.1 hkm
  have hn := cntN_in hR.2.2.1 (Nat.le_of_lt hkm)
  have hlim := at_lim hR ha
  have hkz : k < zs.length := by unfold lnk at hkm; omega
  have hd : ∃ A : Int, i - cntN zs k = A ∧ 0 ≤ A ∧ A ≤ 1048576 ∧ A.tdiv (el zs k) = (r : Int) ∧ A.tmod (el zs k) = c := by
    obtain ⟨_, hr, ⟨_, h1, rfl⟩ | ⟨rfl, _⟩⟩ := ha
    · have h2 := row_in hR.2.2.1 hkm hr hc h1
      have h3 := row_div (z := el zs k) (r := r) hc h1
      refine ⟨(r : Int) * el zs k + c, by omega, h2.1, by omega, ?_, ?_⟩
      · rw [Int.tdiv_eq_ediv_of_nonneg h2.1]; exact h3.1
      · rw [Int.tmod_eq_emod_of_nonneg h2.1]; exact h3.2
    · omega
  obtain ⟨A, hA, hA0, hA1, hq, hm⟩ := hd
  have hwA : IntKind.i64.wrap A = A := IntWalk.i64_in _ (by omega)
  have hvA : wrap64 A = A := IntWalk.wrap64_in _ ⟨by omega, by omega⟩
  have hwr : IntKind.i64.wrap (r : Int) = (r : Int) := IntWalk.i64_in _ (by omega)
  have hvr : wrap64 (r : Int) = (r : Int) := IntWalk.wrap64_in _ ⟨by omega, by omega⟩
  have HS := Lib.hid h
  obtain ⟨h0, sa, cs, aw, cw, ab, cb, h1, h2, h3, h4⟩ := h
  have HRW := Lib.hid h3.rd
  have c1 := h1.c1
  have hlt := h1.lt
  clear h1 h2 h3 h4 hR ha
  go_enter Tryd.func23, Tryd.ntmps23
  go_wp2_with fail
  refine (of_n i aw cw _ _ (wts_len _ _) (by omega) HRW.out).mono ?_
  rintro e w1 ⟨rfl, g1⟩
  rw [HW.out]
  have HG1 := Lib.hid g1
  obtain ⟨_, sa, cs, aw, cw, ab, cb, h1, h2, h3, h4⟩ := HS.out.grow g1
  obtain ⟨gs, rfl, _, hgs, d0, _⟩ := h2.at hkz
  obtain ⟨gw, rfl, _, hgw⟩ := h3.block (by omega)
  have d1 := (h3.at hkm).1
  rw [wts_at hkm] at d1
  rw [show (rangeW zs k).1 = cntN zs k from rfl] at d1
  clear c1 hlt g1
  have c0 := h1.c0
  have c1 := h1.c1
  have hlt := h1.lt
  generalize cntN zs k = N at *
  generalize el zs k = x at *
  generalize zs.length = L at *
  generalize lnk zs = m at *
  clear h1 h2 h3 h4 HS HRW
  go_wp2
  go_quiet (fail)
  go_wp2
  go_quiet (fail)
  go_wp2
  exact bodyPost_ret (v := .tuple #[.int .i64 k, .int .i64 r, .int .i64 c, .bool true]) (by simp [results, Tryd.results23, go_sem]) rfl ⟨rfl, (HG1.out.drewN _).drewN _⟩

set_option maxHeartbeats 4000000 in
theorem place_b {D b k r : Nat} {i : Int} {zs : List Int} {w : World} (hR : Right zs) (h : Shp D w b zs) (ha : At zs i k r (-1)) :
    Calls Tryd.prog 23 #[.pointer (some ⟨b, 0, none⟩), .int .i64 i] w fun e w' => e = .returned (.tuple #[.int .i64 k, .int .i64 r, .int .i64 (-1), .bool true]) ∧ Grew w w' := by
  have HW := Lib.hid (at_noW hR.2.2.1 ha)
  have HB := Lib.hid (at_ofB hR.2.2.1 ha)
  have hkm : k < lnk zs := ha.1
  have hm16 : lnk zs ≤ 16 := by have := hR.2.1; unfold lnk; omega
  have hn := cntN_in hR.2.2.1 (Nat.le_of_lt hkm)
  have hw := wgt_in hR.2.2.1 hkm
  have hlim := at_lim hR ha
  have hA : i - (cntN zs k + wgt zs k) = (r : Int) := by
    obtain ⟨_, hr, ⟨h1, _⟩ | ⟨_, rfl⟩⟩ := ha
    · omega
    · omega
  have hwr : IntKind.i64.wrap (r : Int) = (r : Int) := IntWalk.i64_in _ (by omega)
  have hvr : wrap64 (r : Int) = (r : Int) := IntWalk.wrap64_in _ ⟨by omega, by omega⟩
  have HS := Lib.hid h
  obtain ⟨h0, sa, cs, aw, cw, ab, cb, h1, h2, h3, h4⟩ := h
  have HRW := Lib.hid h3.rd
  have c1 := h1.c1
  have hlt := h1.lt
  clear h1 h2 h3 h4 hR ha
  go_enter Tryd.func23, Tryd.ntmps23
  go_wp2_with fail
  refine (of_n i aw cw _ _ (wts_len _ _) (by omega) HRW.out).mono ?_
  rintro e w1 ⟨rfl, g1⟩
  rw [HW.out]
  have HS1 := Lib.hid (HS.out.grow g1)
  have HG1 := Lib.hid g1
  clear c1 hlt g1
  obtain ⟨_, sa, cs, aw, cw, ab, cb, h1, h2, h3, h4⟩ := HS1.out
  have HRB := Lib.hid h4.rd
  have c2 := h1.c2
  have hlt := h1.lt
  clear h1 h2 h3 h4
  go_wp2_with fail
  refine (of_n i ab cb _ _ (bss_len _ _) (by omega) HRB.out).mono ?_
  rintro e w2 ⟨rfl, g2⟩
  rw [HB.out]
  have HG2 := Lib.hid (HG1.out.trans g2)
  obtain ⟨_, sa, cs, aw, cw, ab, cb, h1, h2, h3, h4⟩ := HS1.out.grow g2
  obtain ⟨gb, rfl, _, hgb⟩ := h4.block (by omega)
  have d2 := (h4.at hkm).1
  rw [bss_at hkm] at d2
  rw [show (rangeB zs k).1 = cntN zs k + wgt zs k from rfl] at d2
  clear c2 hlt g2
  have c2 := h1.c2
  have hlt := h1.lt
  generalize cntN zs k + wgt zs k = N at *
  generalize lnk zs = m at *
  clear h1 h2 h3 h4 HS HS1 HRW HRB
  go_wp2
  go_quiet (fail)
  go_wp2
  exact bodyPost_ret (v := .tuple #[.int .i64 k, .int .i64 r, .int .i64 (-1), .bool true]) (by simp [results, Tryd.results23, go_sem]) rfl ⟨rfl, HG2.out.drewN _⟩
end Go.Proofs.YtfgadjpdpocdbaaDoor
