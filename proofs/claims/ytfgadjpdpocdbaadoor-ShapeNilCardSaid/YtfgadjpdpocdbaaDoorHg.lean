/- New by its code; Place of a shape, way by way; places of none. Conditions: the sizes are right; the index is within the bounds of int64. -/
import Derived.Test.YtfgadjpdpocdbaaDoorHf
namespace Go.Proofs.YtfgadjpdpocdbaaDoor
open Go.RowKit

theorem rdK_some {q : IntKind} {B : Nat} {W : World} {a : Option Addr} {zs : List Int} (h : RdK q B W a zs) (hn : 0 < zs.length) : ∃ b off, a = some ⟨b, off, none⟩ ∧ b < B ∧ ∀ j, j < zs.length → W.cell? ⟨b, off + j, none⟩ = some (.int q (el zs j)) := by
  rcases h with rfl | h
  · simp at hn
  · exact h
theorem new_ok {n : Nat} (a : Option Addr) (c : Nat) (zs : List Int) (w : World) (hn : zs.length = n) (hc : n ≤ c) (hm : c ≤ maxLen) (hR : codeV zs = 0) (h : RdK .i64 w.heap.size w a zs) :
    Calls Tryd.prog 9 #[.slice a n c] w fun e w' => (∃ b, e = .returned (.tuple #[.pointer (some ⟨b, 0, none⟩), .int .i64 0]) ∧ Shp w.heap.size w' b zs) ∧ Grew w w' := by
  subst hn
  have hR := codeV_zero hR
  obtain ⟨D, off, rfl, hD, hcell⟩ := rdK_some h (by have := hR.1; omega)
  refine (new_long c zs w hR.1 hR.2.1 hc hm hD hR.2.2.1 h hcell).mono ?_
  rintro e w1 ⟨h1 | h1, g⟩
  · obtain ⟨b, he, hs, _⟩ := h1
    exact ⟨⟨b, he, hs⟩, g⟩
  · have h4 := hR.2.2.2; omega
theorem new_bad {n : Nat} (a : Option Addr) (c : Nat) (zs : List Int) (w : World) (hn : zs.length = n) (hl : n ≤ 17592186044416) (hc : n ≤ c) (hm : c ≤ maxLen) (hR : codeV zs ≠ 0) (h : RdK .i64 w.heap.size w a zs) :
    Calls Tryd.prog 9 #[.slice a n c] w fun e w' => e = .returned (.tuple #[.pointer none, .int .i64 (codeV zs)]) ∧ Grew w w' := by
  subst hn
  by_cases hs : zs.length < 2 ∨ 16 < zs.length ∨ badS zs = true
  · have hv : codeV zs = 5 := by unfold codeV; rw [if_pos hs]
    rw [hv]
    exact new_short a c zs w hl h hs
  · have hb : badS zs = false := by
      cases hb : badS zs with
      | false => rfl
      | true => exact absurd (.inr (.inr hb)) hs
    have hok := badS_false hb
    obtain ⟨D, off, rfl, hD, hcell⟩ := rdK_some h (by omega)
    refine (new_long c zs w (by omega) (by omega) hc hm hD hok h hcell).mono ?_
    rintro e w1 ⟨h1 | h1, g⟩
    · obtain ⟨b, he, hs', hc0⟩ := h1
      exact absurd (codeV_ok ⟨by omega, by omega, hok, hc0⟩) hR
    · rw [codeV_many (by omega) (by omega) hok h1.2]
      exact ⟨h1.1, g⟩

theorem place_nil (i : Int) (w : World) : Calls Tryd.prog 23 #[.pointer none, .int .i64 i] w fun e w' => e = .returned (.tuple #[.int .i64 0, .int .i64 0, .int .i64 0, .bool false]) ∧ w = w' := by
  go_enter Tryd.func23, Tryd.ntmps23
  go_wp2
  exact bodyPost_ret (v := .tuple #[.int .i64 0, .int .i64 0, .int .i64 0, .bool false]) (by simp [results, Tryd.results23, go_sem]) rfl ⟨rfl, rfl⟩

theorem of_n {m : Nat} (i : Int) (a : Option Addr) (c : Nat) (rs : List Rg) (w : World) (hm : rs.length = m) (hl : m ≤ 35184372088832) (h : RdR w.heap.size w a rs) :
    Calls Tryd.prog 33 #[.int .i64 i, .slice a m c] w fun e w' => e = .returned (.int .i64 (ofV i rs)) ∧ Grew w w' := by
  subst hm; exact of_any i a c rs w hl h

set_option maxHeartbeats 2000000 in
theorem place_no {D b : Nat} {i : Int} {zs : List Int} {w : World} (hR : Right zs) (h : Shp D w b zs) (ho : i < 0 ∨ cnt zs ≤ i) :
    Calls Tryd.prog 23 #[.pointer (some ⟨b, 0, none⟩), .int .i64 i] w fun e w' => e = .returned (.tuple #[.int .i64 0, .int .i64 0, .int .i64 0, .bool false]) ∧ Grew w w' := by
  have HW := Lib.hid (out_noW hR.2.2.1 ho)
  have HB := Lib.hid (out_noB hR.2.2.1 ho)
  have hm16 : lnk zs ≤ 16 := by have := hR.2.1; unfold lnk; omega
  obtain ⟨h0, sa, cs, aw, cw, ab, cb, h1, h2, h3, h4⟩ := h
  have HT := Lib.hid h1
  have HRW := Lib.hid h3.rd
  have HRB := Lib.hid h4.rd
  have c1 := h1.c1
  have hlt := h1.lt
  clear h1 h2 h3 h4 hR ho
  go_enter Tryd.func23, Tryd.ntmps23
  go_wp2_with fail
  refine (of_n i aw cw _ _ (wts_len _ _) (by omega) HRW.out).mono ?_
  rintro e w1 ⟨rfl, g1⟩
  rw [HW.out]
  have c2 := (HT.out.grow g1).c2
  have hlt1 := (HT.out.grow g1).lt
  have HG1 := Lib.hid g1
  clear g1 c1
  go_wp2_with fail
  refine (of_n i ab cb _ _ (bss_len _ _) (by omega) (HRB.out.grow HG1.out)).mono ?_
  rintro e w2 ⟨rfl, g2⟩
  rw [HB.out]
  go_wp2
  exact bodyPost_ret (v := .tuple #[.int .i64 0, .int .i64 0, .int .i64 0, .bool false]) (by simp [results, Tryd.results23, go_sem]) rfl ⟨rfl, HG1.out.trans g2⟩
end Go.Proofs.YtfgadjpdpocdbaaDoor
