/- For the statements of layer 8: slices of sizes that came in, New in one contract, what a store elsewhere leaves of a shape, the ranges of all links. -/
import Derived.Test.YtfgadjpdpocdbaaDoorHo
import Derived.Test.YtfgadjpdpocdbaaDoorHm
namespace Go.Proofs.YtfgadjpdpocdbaaDoor
open Go.RowKit Go.Shelf

/-- A slice of sizes that came in. -/
def CameS (w : World) (a : Option Addr) (len cap : Nat) (zs : List Int) : Prop :=
  zs.length = len ∧ len ≤ cap ∧ cap ≤ maxLen ∧ (a = none → cap = 0 ∧ len = 0) ∧ RdK .i64 w.heap.size w a zs
theorem cameS_none (w : World) : CameS w none 0 0 [] := ⟨rfl, Nat.le_refl _, Nat.zero_le _, fun _ => ⟨rfl, rfl⟩, .inl rfl⟩
theorem cameS_some {w : World} {a : Addr} {len cap : Nat} {zs : List Int} (hl : len ≤ cap) (hm : cap ≤ maxLen) (hz : zs.length = cap)
    (hc : ∀ i, i < zs.length → w.cell? (a.add i) = some (.int .i64 (zs.getD i 0))) : CameS w (some a) len cap (zs.take len) := by
  have hlen : (zs.take len).length = len := by rw [List.length_take]; omega
  have hel : ∀ j, j < len → el (zs.take len) j = zs.getD j 0 := fun j hj => by unfold el; rw [List.getElem?_take_of_lt hj, List.getD_eq_getElem?_getD]
  refine ⟨hlen, hl, hm, (fun h => nomatch h), ?_⟩
  by_cases h0 : len = 0
  · exact .inl (List.eq_nil_of_length_eq_zero (hlen.trans h0))
  · obtain ⟨b, off, spot⟩ := a
    have h1 := hc 0 (by omega)
    have hspot : spot = none := by simpa [Addr.add] using World.cell?_spot h1
    subst hspot
    rw [Addr.add_lit] at h1
    refine .inr ⟨b, off, rfl, block_in h1, fun j hj => ?_⟩
    rw [hlen] at hj
    have h2 := hc j (by omega)
    rw [Addr.add_lit] at h2
    rw [h2, hel j hj]

/-- What New has returned: a shape where the sizes are right, else nil. -/
def Newed (D : Nat) (W : World) (p : Value) (zs : List Int) : Prop := (codeV zs = 0 → ∃ b, p = .pointer (some ⟨b, 0, none⟩) ∧ Shp D W b zs) ∧ (codeV zs ≠ 0 → p = .pointer none)
theorem new_any {n : Nat} (a : Option Addr) (c : Nat) (zs : List Int) (w : World) (hn : zs.length = n) (hl : n ≤ 17592186044416) (hc : n ≤ c) (hm : c ≤ maxLen) (h : RdK .i64 w.heap.size w a zs) :
    Calls Tryd.prog 9 #[.slice a n c] w fun e w' => (∃ p, e = .returned (.tuple #[p, .int .i64 (codeV zs)]) ∧ Newed w.heap.size w' p zs) ∧ Grew w w' := by
  by_cases h0 : codeV zs = 0
  · refine (new_ok a c zs w hn hc hm h0 h).mono ?_
    rintro e w1 ⟨⟨b, rfl, hS⟩, g⟩
    exact ⟨⟨_, by rw [h0], fun _ => ⟨b, rfl, hS⟩, fun h => absurd h0 h⟩, g⟩
  · refine (new_bad a c zs w hn hl hc hm h0 h).mono ?_
    rintro e w1 ⟨rfl, g⟩
    exact ⟨⟨_, rfl, fun h => absurd h h0, fun _ => rfl⟩, g⟩
theorem Shp.left {D b : Nat} {W W' : World} {zs : List Int} {r : Option Nat} (h : Shp D W b zs) (g : W.grownBy W' r) (hr : ∀ x, r = some x → x < D) : Shp D W' b zs := by
  cases r with
  | some x => exact h.grown g (hr x rfl)
  | none => exact h.grow ⟨g.os, g.tape, g.output, g.size, fun k hk => g.block k hk (fun e => nomatch e)⟩
theorem Newed.left {D : Nat} {W W' : World} {p : Value} {zs : List Int} {r : Option Nat} (h : Newed D W p zs) (g : W.grownBy W' r) (hr : ∀ x, r = some x → x < D) : Newed D W' p zs :=
  ⟨fun h0 => by obtain ⟨b, hp, hS⟩ := h.1 h0; exact ⟨b, hp, hS.left g hr⟩, h.2⟩
theorem Newed.grow {D : Nat} {W W' : World} {p : Value} {zs : List Int} (h : Newed D W p zs) (g : Grew W W') : Newed D W' p zs :=
  ⟨fun h0 => by obtain ⟨b, hp, hS⟩ := h.1 h0; exact ⟨b, hp, hS.grow g⟩, h.2⟩
theorem below_of_grown {B : Nat} {a b : World} {r : Option Nat} (h : a.grownBy b r) (hr : ∀ x, r = some x → B ≤ x) (hs : B ≤ a.heap.size) : Below B a b :=
  ⟨h.os, h.tape, h.output, h.size, fun k hk => h.block k (Nat.lt_of_lt_of_le hk hs) (fun e => by have := hr k e.symm; omega)⟩
theorem buf_block {q : IntKind} {e : TypeId} {B : Nat} {W : World} {a : Option Addr} {n cap : Nat} {zs : List Int} (h : BufK q e B W a n cap zs) : ∀ x, (Value.slice a n cap).ownBlock = some x → B ≤ x ∧ x < W.heap.size := World.ownsRow.lt h

/-- The ranges of the first m links, weights and biases in turn. -/
def allR (zs : List Int) : Nat → List Rg
  | 0 => []
  | m + 1 => allR zs m ++ [rangeW zs m, rangeB zs m]
theorem allR_len (zs : List Int) : ∀ m, (allR zs m).length = m * 2
  | 0 => rfl
  | m + 1 => by simp only [allR, List.length_append, allR_len zs m]; simp; omega
theorem allR_old {zs : List Int} {m j : Nat} (h : j < m * 2) : rg (allR zs (m + 1)) j = rg (allR zs m) j := by
  unfold rg
  simp only [allR]
  rw [List.getElem?_append_left (by rw [allR_len]; exact h)]
theorem allR_w (zs : List Int) (m : Nat) : rg (allR zs (m + 1)) (m * 2) = rangeW zs m := by
  unfold rg
  simp only [allR]
  rw [List.getElem?_append_right (by rw [allR_len]; exact Nat.le_refl _), allR_len]
  simp
theorem allR_b (zs : List Int) (m : Nat) : rg (allR zs (m + 1)) (m * 2 + 1) = rangeB zs m := by
  unfold rg
  simp only [allR]
  rw [List.getElem?_append_right (by rw [allR_len]; omega), allR_len]
  simp
theorem stepB_yes {rs : List Rg} {k : Nat} (h1 : (rg rs k).1 = endV rs k) (h2 : endV rs k ≤ (rg rs k).2) : stepB rs k = true := by simp [stepB, h1, h2]
theorem endV_old {xs ys : List Rg} {k : Nat} (h : ∀ j, j < k → rg xs j = rg ys j) : endV xs k = endV ys k := by
  cases k with
  | zero => rfl
  | succ k => simp only [endV]; rw [h k (by omega)]
theorem stepB_old {xs ys : List Rg} {k : Nat} (h : ∀ j, j < k + 1 → rg xs j = rg ys j) : stepB xs k = stepB ys k := by
  unfold stepB
  rw [endV_old (fun j hj => h j (by omega)), h k (by omega)]
/-- All ranges follow each other, from 0 to the number of parameters. -/
theorem allR_chain {zs : List Int} (h : OkS zs) : ∀ {m : Nat}, m ≤ lnk zs → endV (allR zs m) (m * 2) = cntN zs m ∧ ∀ j, j < m * 2 → stepB (allR zs m) j = true
  | 0, _ => ⟨rfl, fun j hj => absurd hj (Nat.not_lt_zero _)⟩
  | m + 1, hm => by
    obtain ⟨h1, h2⟩ := allR_chain h (m := m) (by omega)
    have hw := wgt_in h (k := m) (by omega)
    have hy := next_in h (k := m) (by omega)
    have hend : endV (allR zs (m + 1)) (m * 2) = cntN zs m := (endV_old (fun j hj => allR_old hj)).trans h1
    refine ⟨?_, fun j hj => ?_⟩
    · show endV (allR zs (m + 1)) ((m + 1) * 2) = _
      rw [show (m + 1) * 2 = m * 2 + 1 + 1 by omega]
      simp only [endV]
      rw [allR_b]
      rfl
    · by_cases h3 : j < m * 2
      · rw [stepB_old (ys := allR zs m) (fun i hi => allR_old (by omega))]
        exact h2 j h3
      · by_cases h4 : j = m * 2
        · subst h4
          exact stepB_yes (by rw [hend, allR_w]; rfl) (by rw [hend, allR_w]; show cntN zs m ≤ cntN zs m + wgt zs m; omega)
        · obtain rfl : j = m * 2 + 1 := by omega
          have he : endV (allR zs (m + 1)) (m * 2 + 1) = cntN zs m + wgt zs m := by simp only [endV]; rw [allR_w]; rfl
          exact stepB_yes (by rw [he, allR_b]; rfl) (by rw [he, allR_b]; show cntN zs m + wgt zs m ≤ cntN zs m + (wgt zs m + el zs (m + 1)); omega)
theorem allR_covers {zs : List Int} (h : OkS zs) : coversV (cnt zs) (allR zs (lnk zs)) = true := by
  obtain ⟨h1, h2⟩ := allR_chain h (m := lnk zs) (Nat.le_refl _)
  unfold coversV
  rw [allR_len, chainB_all h2, h1]
  unfold cnt
  simp
theorem covers_n {m : Nat} (n : Int) (a : Option Addr) (c : Nat) (rs : List Rg) (w : World) (hm : rs.length = m) (hl : m ≤ 35184372088832) (h : RdR w.heap.size w a rs) :
    Calls Tryd.prog 20 #[.int .i64 n, .slice a m c] w fun e w' => e = .returned (.bool (coversV n rs)) ∧ Grew w w' := by
  subst hm; exact covers_any n a c rs w hl h
end Go.Proofs.YtfgadjpdpocdbaaDoor
