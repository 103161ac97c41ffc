/- What a shape is in memory (Shp); a closure's box (One); Links, has, Sizes, Weights, Biases, Count of a shape, and of none. Condition: the sizes of a shape are right. -/
import Derived.Test.YthcahpgandappaaHc
import Derived.Test.YthcahpgandappaaOe
import Derived.Test.YthcahpgandappaaPc
namespace Go.Proofs.Ythcahpgandappaa
open Go.RowKit

/-- Block b is the shape of zs; all that it has lies in blocks from D on. -/
def Shp (D : Nat) (W : World) (b : Nat) (zs : List Int) : Prop :=
  D ≤ b ∧ ∃ sa cs aw cw ab cb, Three W b 56 (.slice sa zs.length cs) (.slice aw (lnk zs) cw) (.slice ab (lnk zs) cb) ∧ BufK .i64 3 D W sa zs.length cs zs ∧ BufR 58 D W aw (lnk zs) cw (wts zs (lnk zs)) ∧ BufR 58 D W ab (lnk zs) cb (bss zs (lnk zs))
section
variable {D D' b r : Nat} {W W' : World} {zs : List Int}
theorem Shp.lt (h : Shp D W b zs) : b < W.heap.size := by obtain ⟨_, _, _, _, _, _, _, h, _⟩ := h; exact h.lt
theorem Shp.grow (h : Shp D W b zs) (g : Grew W W') : Shp D W' b zs := by
  obtain ⟨h0, sa, cs, aw, cw, ab, cb, h1, h2, h3, h4⟩ := h
  exact ⟨h0, sa, cs, aw, cw, ab, cb, h1.grow g, h2.grow g, h3.grow g, h4.grow g⟩
theorem Shp.mono (h : Shp D W b zs) (hD : D' ≤ D) : Shp D' W b zs := by
  obtain ⟨h0, sa, cs, aw, cw, ab, cb, h1, h2, h3, h4⟩ := h
  exact ⟨Nat.le_trans hD h0, sa, cs, aw, cw, ab, cb, h1, h2.mono hD, h3.mono hD, h4.mono hD⟩
/-- An older block is written. -/
theorem Shp.grown (h : Shp D W b zs) (g : W.grownBy W' (some r)) (hr : r < D) : Shp D W' b zs := by
  obtain ⟨h0, sa, cs, aw, cw, ab, cb, h1, h2, h3, h4⟩ := h
  exact ⟨h0, sa, cs, aw, cw, ab, cb, h1.grown g (fun e => by injection e with e; omega), own_aside h2 g hr, own_aside h3 g hr, own_aside h4 g hr⟩
end

theorem links_nil (w : World) : Calls Try.prog 32 #[.pointer none] w fun e w' => e = .returned (.int .i64 0) ∧ w = w' := by
  go_enter Try.func32, Try.ntmps32
  go_wp2
  go_ret
  exact ⟨rfl, rfl⟩
theorem links_any {D b : Nat} {zs : List Int} {w : World} (h : Shp D w b zs) : Calls Try.prog 32 #[.pointer (some ⟨b, 0, none⟩)] w fun e w' => e = .returned (.int .i64 (lnk zs : Nat)) ∧ w = w' := by
  obtain ⟨h0, sa, cs, aw, cw, ab, cb, h1, h2, h3, h4⟩ := h
  have c1 := h1.c1
  go_enter Try.func32, Try.ntmps32
  go_wp2
  go_ret
  exact ⟨rfl, rfl⟩
theorem has_nil (k : Int) (w : World) : Calls Try.prog 34 #[.pointer none, .int .i64 k] w fun e w' => e = .returned (.bool false) ∧ w = w' := by
  by_cases h : 0 ≤ k
  · go_enter Try.func34, Try.ntmps34
    go_wp2_with fail
    refine (links_nil _).mono ?_
    rintro e w1 ⟨rfl, rfl⟩
    go_wp2
    go_ret
    exact ⟨ret_bool (by simp; try omega), rfl⟩
  · go_enter Try.func34, Try.ntmps34
    go_wp2
    go_ret
    exact ⟨ret_bool (by simp; try omega), rfl⟩
theorem has_yes {D b k : Nat} {zs : List Int} {w : World} (h : Shp D w b zs) (hk : k < lnk zs) : Calls Try.prog 34 #[.pointer (some ⟨b, 0, none⟩), .int .i64 k] w fun e w' => e = .returned (.bool true) ∧ w = w' := by
  have HS := Lib.hid h
  clear h
  go_enter Try.func34, Try.ntmps34
  go_wp2_with fail
  refine (links_any HS.out).mono ?_
  rintro e w1 ⟨rfl, rfl⟩
  generalize lnk zs = m at *
  go_wp2
  go_ret
  exact ⟨ret_bool (by simp; try omega), rfl⟩
theorem has_no {D b : Nat} {k : Int} {zs : List Int} {w : World} (h : Shp D w b zs) (hk : k < 0 ∨ (lnk zs : Int) ≤ k) : Calls Try.prog 34 #[.pointer (some ⟨b, 0, none⟩), .int .i64 k] w fun e w' => e = .returned (.bool false) ∧ w = w' := by
  have HS := Lib.hid h
  clear h
  by_cases h : 0 ≤ k
  · have hk2 : (lnk zs : Int) ≤ k := by omega
    clear hk
    go_enter Try.func34, Try.ntmps34
    go_wp2_with fail
    refine (links_any HS.out).mono ?_
    rintro e w1 ⟨rfl, rfl⟩
    generalize lnk zs = m at *
    go_wp2
    go_ret
    exact ⟨ret_bool (by simp; try omega), rfl⟩
  · clear hk
    go_enter Try.func34, Try.ntmps34
    go_wp2
    go_ret
    exact ⟨ret_bool (by simp; try omega), rfl⟩

/-- The range of the weights, or of the biases, of a link; a zero range, if there is none. -/
def rgW (zs : List Int) (k : Int) : Rg := if 0 ≤ k ∧ k < (lnk zs : Int) then rangeW zs k.toNat else (0, 0)
def rgB (zs : List Int) (k : Int) : Rg := if 0 ≤ k ∧ k < (lnk zs : Int) then rangeB zs k.toNat else (0, 0)
theorem rgW_yes {zs : List Int} {k : Nat} (h : k < lnk zs) : rgW zs (k : Int) = rangeW zs k := by unfold rgW; rw [if_pos (by omega), Int.toNat_natCast]
theorem rgB_yes {zs : List Int} {k : Nat} (h : k < lnk zs) : rgB zs (k : Int) = rangeB zs k := by unfold rgB; rw [if_pos (by omega), Int.toNat_natCast]
theorem rgW_no {zs : List Int} {k : Int} (h : k < 0 ∨ (lnk zs : Int) ≤ k) : rgW zs k = (0, 0) := by unfold rgW; rw [if_neg (by omega)]
theorem rgB_no {zs : List Int} {k : Int} (h : k < 0 ∨ (lnk zs : Int) ≤ k) : rgB zs k = (0, 0) := by unfold rgB; rw [if_neg (by omega)]
theorem link_or (zs : List Int) (k : Int) : (∃ j : Nat, k = (j : Int) ∧ j < lnk zs) ∨ (k < 0 ∨ (lnk zs : Int) ≤ k) := by
  by_cases h : 0 ≤ k ∧ k < (lnk zs : Int)
  · exact .inl ⟨k.toNat, by omega, by omega⟩
  · exact .inr (by omega)

theorem biases_nil (k : Int) (w : World) : Calls Try.prog 31 #[.pointer none, .int .i64 k] w fun e w' => e = .returned (.agg #[.int .i64 0, .int .i64 0]) ∧ Grew w w' := by
  have HT := Lib.hid (Two.new w 58 (.int .i64 0) (.int .i64 0))
  have HG : Hid (Grew w (w.alloc (.cells #[.int .i64 0, .int .i64 0] 58))) := Lib.hid ((Grew.refl w).alloc _)
  go_enter Try.func31, Try.ntmps31
  go_wp2_with fail
  refine (has_nil k _).mono ?_
  rintro e w1 ⟨rfl, rfl⟩
  go_wp2
  have c0 := HT.out.c0
  have c1 := HT.out.c1
  exact bodyPost_ret (v := .agg #[.int .i64 0, .int .i64 0]) (by simp [results, Try.results31, go_sem, c0, c1]) rfl ⟨rfl, HG.out⟩
theorem biases_any {D b : Nat} {zs : List Int} {w : World} (k : Int) (h : Shp D w b zs) : Calls Try.prog 31 #[.pointer (some ⟨b, 0, none⟩), .int .i64 k] w fun e w' => e = .returned (.agg #[.int .i64 (rgB zs k).1, .int .i64 (rgB zs k).2]) ∧ Grew w w' := by
  rcases link_or zs k with ⟨k, rfl, hk⟩ | hk
  · rw [rgB_yes hk]
    have HS : Hid (Shp D (w.alloc (.cells #[.int .i64 0, .int .i64 0] 58)) b zs) := Lib.hid (h.grow ((Grew.refl w).alloc _))
    obtain ⟨h0, sa, cs, aw, cw, ab, cb, h1, h2, h3, h4⟩ := h
    have c1 := h1.c2
    have hlt := h1.lt
    obtain ⟨g, rfl, _, hg⟩ := h4.block (by omega)
    obtain ⟨d0, d1, _, _⟩ := h4.at hk
    rw [bss_at hk] at d0 d1
    generalize (rangeB zs k).1 = lo at *
    generalize (rangeB zs k).2 = hi at *
    have HT := Lib.hid (Two.new w 58 (.int .i64 lo) (.int .i64 hi))
    have HG : Hid (Grew w (w.alloc (.cells #[.int .i64 lo, .int .i64 hi] 58))) := Lib.hid ((Grew.refl w).alloc _)
    have HK := Lib.hid hk
    clear h1 h2 h3 h4
    go_enter Try.func31, Try.ntmps31
    go_wp2_with fail
    refine (has_yes HS.out HK.out).mono ?_
    rintro e w1 ⟨rfl, rfl⟩
    generalize lnk zs = m at *
    go_wp2
    have e0 := HT.out.c0
    have e1 := HT.out.c1
    exact bodyPost_ret (v := .agg #[.int .i64 lo, .int .i64 hi]) (by simp [results, Try.results31, go_sem, e0, e1]) rfl ⟨rfl, HG.out⟩
  · rw [rgB_no hk]
    have HS : Hid (Shp D (w.alloc (.cells #[.int .i64 0, .int .i64 0] 58)) b zs) := Lib.hid (h.grow ((Grew.refl w).alloc _))
    have HT := Lib.hid (Two.new w 58 (.int .i64 0) (.int .i64 0))
    have HG : Hid (Grew w (w.alloc (.cells #[.int .i64 0, .int .i64 0] 58))) := Lib.hid ((Grew.refl w).alloc _)
    have HK := Lib.hid hk
    clear h hk
    go_enter Try.func31, Try.ntmps31
    go_wp2_with fail
    refine (has_no HS.out HK.out).mono ?_
    rintro e w1 ⟨rfl, rfl⟩
    go_wp2
    have c0 := HT.out.c0
    have c1 := HT.out.c1
    exact bodyPost_ret (v := .agg #[.int .i64 0, .int .i64 0]) (by simp [results, Try.results31, go_sem, c0, c1]) rfl ⟨rfl, HG.out⟩

theorem field_hi (w : World) (x y : Int) : (Instr.field 58 (.agg #[.int .i64 x, .int .i64 y]) 1).run Try.prog w = .ok (.int .i64 y) w := by kernel_rfl
theorem count_nil (w : World) : Calls Try.prog 22 #[.pointer none] w fun e w' => e = .returned (.int .i64 0) ∧ Grew w w' := by
  have hfd := field_hi
  go_enter Try.func22, Try.ntmps22
  go_wp2_with fail
  refine (links_nil _).mono ?_
  rintro e w1 ⟨rfl, rfl⟩
  go_wp2_with fail
  refine (biases_nil _ _).mono ?_
  rintro e w1 ⟨rfl, g1⟩
  go_wp2
  go_ret
  exact ⟨rfl, g1⟩
theorem count_any {D b : Nat} {zs : List Int} {w : World} (hR : Right zs) (h : Shp D w b zs) : Calls Try.prog 22 #[.pointer (some ⟨b, 0, none⟩)] w fun e w' => e = .returned (.int .i64 (cnt zs)) ∧ Grew w w' := by
  have HS := Lib.hid h
  obtain ⟨m, hm⟩ : ∃ m, lnk zs = m + 1 := ⟨lnk zs - 1, by have := hR.1; unfold lnk; omega⟩
  have hm16 : m ≤ 16 := by have := hR.2.1; unfold lnk at hm; omega
  have HM := Lib.hid (show ((lnk zs : Nat) : Int) = ((m + 1 : Nat) : Int) by rw [hm])
  have HV : Hid (rgB zs ((m : Nat) : Int) = (cntN zs m + wgt zs m, cnt zs)) := Lib.hid (by rw [rgB_yes (by omega)]; unfold cnt rangeB; rw [hm]; rfl)
  clear h hR hm
  have hfd := field_hi
  go_enter Try.func22, Try.ntmps22
  go_wp2_with fail
  refine (links_any HS.out).mono ?_
  rintro e w1 ⟨rfl, rfl⟩
  rw [HM.out]
  go_wp2_with fail
  refine (biases_any (m : Int) HS.out).mono ?_
  rintro e w1 ⟨rfl, g1⟩
  rw [HV.out]
  go_wp2
  go_ret
  exact ⟨rfl, g1⟩
end Go.Proofs.Ythcahpgandappaa
