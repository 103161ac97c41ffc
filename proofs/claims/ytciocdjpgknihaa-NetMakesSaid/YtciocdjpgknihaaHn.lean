/- The reference of layer 8, third part: Places. Conditions: the sizes are right. -/
import Derived.Test.YtciocdjpgknihaaHe
import Derived.Test.YtciocdjpgknihaaHd
import Derived.Test.YtciocdjpgknihaaHg
namespace Go.Proofs.Ytciocdjpgknihaa
open Go.RowKit

/-- Three numbers each, as cells. -/
abbrev Tr := Int × Int × Int
def tr (ts : List Tr) (k : Nat) : Tr := ts[k]?.getD (0, 0, 0)
def tcells : List Tr → List Value
  | [] => []
  | t :: ts => .int .i64 t.1 :: .int .i64 t.2.1 :: .int .i64 t.2.2 :: tcells ts
theorem tcells_append (xs ys : List Tr) : tcells (xs ++ ys) = tcells xs ++ tcells ys := by
  induction xs with
  | nil => rfl
  | cons r rs ih => simp [tcells, ih]
theorem tcells_length (ts : List Tr) : (tcells ts).length = ts.length * 3 := by
  induction ts with
  | nil => rfl
  | cons r rs ih => simp only [tcells, List.length_cons, ih]; omega
theorem tcells_at {ts : List Tr} {k : Nat} (h : k < ts.length) : (tcells ts)[k * 3]? = some (.int .i64 (tr ts k).1) ∧ (tcells ts)[k * 3 + 1]? = some (.int .i64 (tr ts k).2.1) ∧ (tcells ts)[k * 3 + 2]? = some (.int .i64 (tr ts k).2.2) := by
  induction ts generalizing k with
  | nil => simp at h
  | cons r rs ih =>
    cases k with
    | zero => exact ⟨rfl, rfl, rfl⟩
    | succ k =>
      have := ih (k := k) (by simpa using h)
      rw [show (k + 1) * 3 + 2 = k * 3 + 2 + 1 + 1 + 1 by omega, show (k + 1) * 3 + 1 = k * 3 + 1 + 1 + 1 + 1 by omega, show (k + 1) * 3 = k * 3 + 1 + 1 + 1 by omega]
      simp only [tcells, List.getElem?_cons_succ]
      exact this
/-- They can be read: there are none, or they lie in a block below B. -/
def RdT (B : Nat) (W : World) (a : Option Addr) (ts : List Tr) : Prop :=
  ts = [] ∨ ∃ b off, a = some ⟨b, off, none⟩ ∧ b < B ∧ ∀ j, j < ts.length → W.cell? ⟨b, off + j * 3, none⟩ = some (.int .i64 (tr ts j).1) ∧ W.cell? ⟨b, off + j * 3 + 1, none⟩ = some (.int .i64 (tr ts j).2.1) ∧ W.cell? ⟨b, off + j * 3 + 2, none⟩ = some (.int .i64 (tr ts j).2.2)
section
variable {B n : Nat} {W W' : World} {a : Option Addr} {e : TypeId} {v : Value} {ts : List Tr}
theorem RdT.at {k : Nat} (h : RdT B W a ts) (hk : k < ts.length) : ∃ b off, a = some ⟨b, off, none⟩ ∧ b < B ∧ W.cell? ⟨b, off + k * 3, none⟩ = some (.int .i64 (tr ts k).1) ∧ W.cell? ⟨b, off + k * 3 + 1, none⟩ = some (.int .i64 (tr ts k).2.1) ∧ W.cell? ⟨b, off + k * 3 + 2, none⟩ = some (.int .i64 (tr ts k).2.2) := by
  rcases h with rfl | ⟨b, off, ha, hb, hc⟩
  · simp at hk
  · exact ⟨b, off, ha, hb, hc k hk⟩
theorem RdT.grow (h : RdT W.heap.size W a ts) (g : Grew W W') : RdT W'.heap.size W' a ts := by
  rcases h with h | ⟨b, off, ha, hb, hc⟩
  · exact .inl h
  · exact .inr ⟨b, off, ha, Nat.lt_of_lt_of_le hb g.size, fun j hj => ⟨(Below.cell g (p := ⟨b, off + j * 3, none⟩) hb).trans (hc j hj).1, (Below.cell g (p := ⟨b, off + j * 3 + 1, none⟩) hb).trans (hc j hj).2.1, (Below.cell g (p := ⟨b, off + j * 3 + 2, none⟩) hb).trans (hc j hj).2.2⟩⟩
theorem own_tr (h : W.ownsRow B e 3 v n (tcells ts)) : ts.length = n ∧ ∃ a cap, v = .slice a n cap ∧ RdT W.heap.size W a ts ∧ n ≤ cap ∧ cap ≤ maxLen := by
  have hl : ts.length = n := by have := h.1; rw [tcells_length] at this; omega
  refine ⟨hl, ?_⟩
  rcases h.2 with ⟨rfl, h0⟩ | ⟨g, cap, cur, rfl, hb, hg, hnc, hcm, _⟩
  · exact ⟨none, 0, by rw [h0], .inl (List.eq_nil_of_length_eq_zero (hl.trans h0)), by omega, by unfold maxLen; omega⟩
  · refine ⟨_, _, rfl, .inr ⟨g, 0, rfl, ?_, fun j hj => ?_⟩, hnc, hcm⟩
    · rcases Nat.lt_or_ge g W.heap.size with h' | h'
      · exact h'
      · rw [Array.getElem?_eq_none h'] at hg; cases hg
    · have hx := tcells_at hj
      rw [Nat.zero_add]
      refine ⟨?_, ?_, ?_⟩
      · rw [World.ownsRow.cellAt h _ (by omega)]; exact hx.1
      · rw [World.ownsRow.cellAt h _ (by omega)]; exact hx.2.1
      · rw [World.ownsRow.cellAt h _ (by omega)]; exact hx.2.2
end
theorem info_place : (Try.prog.info? 76).map (fun i => (i.zero, i.size, i.bytes)) = some (some (.agg #[.int .i64 0, .int .i64 0, .int .i64 0]), 3, 24) := by kernel_rfl
theorem cell_three_new (w : World) (x y z : Value) (t : TypeId) : ∀ j u, [x, y, z][j]? = some u → (w.alloc (.cells #[x, y, z] t)).cell? ((⟨w.heap.size, 0, none⟩ : Addr).add j) = some u := by
  intro j u hj
  match j, hj with
  | 0, hj => simp at hj; subst hj; simp [Addr.add]
  | 1, hj => simp at hj; subst hj; simp [Addr.add]
  | 2, hj => simp at hj; subst hj; simp [Addr.add]
theorem three_cells {x y z : Int} : ∀ u ∈ ([.int .i64 x, .int .i64 y, .int .i64 z] : List Value), u.oneCell' = true := by
  intro u hu
  simp only [List.mem_cons, List.not_mem_nil, or_false] at hu
  rcases hu with rfl | rfl | rfl <;> rfl

/-- What the first n parameters belong to. -/
def pls (zs : List Int) (n : Nat) : List Tr := (List.range n).map fun i : Nat => plT zs (i : Int)
theorem pls_len (zs : List Int) (n : Nat) : (pls zs n).length = n := by simp [pls]
theorem pls_at {zs : List Int} {n k : Nat} (h : k < n) : tr (pls zs n) k = plT zs (k : Int) := by simp [pls, tr, h]
theorem pls_snoc {zs : List Int} {n k r : Nat} {c : Int} (h : OkS zs) (ha : At zs (n : Int) k r c) : tcells (pls zs (n + 1)) = tcells (pls zs n) ++ [.int .i64 k, .int .i64 r, .int .i64 c] := by
  have : pls zs (n + 1) = pls zs n ++ [((k : Int), (r : Int), c)] := by
    rw [← at_plT h ha]
    simp [pls, List.range_succ]
  rw [this, tcells_append]
  rfl

set_option maxRecDepth 100000 in
set_option maxHeartbeats 8000000 in
theorem rplaces_any {n : Nat} (a : Option Addr) (c : Nat) (zs : List Int) (w : World) (hn : zs.length = n) (hR : Right zs) (h : RdK .i64 w.heap.size w a zs) :
    Calls Try.prog 39 #[.slice a n c] w fun e w' => (∃ (N : Nat) (a' : Option Addr) (c' : Nat), (N : Int) = cnt zs ∧ e = .returned (.slice a' N c') ∧ RdT w'.heap.size w' a' (pls zs N) ∧ N ≤ c' ∧ c' ≤ maxLen) ∧ Grew w w' := by
  obtain ⟨i0, hi, hz0, hz1, hz2⟩ := info_parts info_place
  obtain ⟨b, off, rfl, hb, hcell⟩ := rdK_some h (by have := hR.1; omega)
  have HC := Lib.hid hcell
  have HN := Lib.hid hn
  have HO := Lib.hid hR.2.2.1
  have HR := Lib.hid hR
  have hn16 : n ≤ 16 := by have := hR.2.1; omega
  have hn2 : 2 ≤ n := by have := hR.1; omega
  have HL : Hid (lnk zs + 1 = n) := Lib.hid (by unfold lnk; omega)
  clear h hn hR hcell
  go_enter Try.func39, Try.ntmps39
  go_wp2
  go_loopw [3, 4] (fun v kv wr => ∃ k m : Nat, k + 1 ≤ n ∧ kv = .int .i64 k ∧ Hid ((m : Int) = cntN zs k) ∧ Hid (wr.ownsRow w.heap.size 76 3 v m (tcells (pls zs m))) ∧ Hid (Grew w wr)) (fun _ kv _ => n - (intOf kv).toNat)
  case atStart => exact ⟨0, 0, by omega, rfl, Lib.hid rfl, Lib.hid (World.ownsRow_nil _ _ _ _), Lib.hid (Grew.refl _)⟩
  case round =>
    obtain ⟨k, m, hk, rfl, HM, HB, HG⟩ := hrel
    by_cases hlt : k + 1 < n
    · have hkl : k < lnk zs := by have := HL.out; omega
      have hlti : (k : Int) + 1 < (n : Int) := by omega
      have hx := this_in HO.out hkl
      have hy := next_in HO.out hkl
      have hroom := cntN_room HR.out hkl
      have hcn := (cntN_in HO.out (Nat.le_of_lt hkl)).1
      obtain ⟨X, hX⟩ : ∃ X : Nat, el zs k = (X : Int) := ⟨(el zs k).toNat, by omega⟩
      obtain ⟨Y, hY⟩ : ∃ Y : Nat, el zs (k + 1) = (Y : Int) := ⟨(el zs (k + 1)).toNat, by omega⟩
      have HAw : Hid (∀ (q r c : Nat), r < Y → c < X → (q : Int) = cntN zs k + (r * X + c : Nat) → At zs (q : Int) k r (c : Int)) := Lib.hid (fun q r c hr hc hq => ⟨hkl, by rw [hY]; omega, .inl ⟨by omega, by rw [hX]; omega, by rw [hq, hX]; push_cast; rfl⟩⟩)
      have HAb : Hid (∀ (q r : Nat), r < Y → (q : Int) = cntN zs k + (Y * X + r : Nat) → At zs (q : Int) k r (-1)) := Lib.hid (fun q r hr hq => ⟨hkl, by rw [hY]; omega, .inr ⟨rfl, by rw [hq]; unfold wgt; rw [hX, hY, Int.mul_comm (X : Int)]; push_cast; omega⟩⟩)
      have HE : Hid (cntN zs (k + 1) = cntN zs k + (Y * X + Y : Nat)) := Lib.hid (by simp only [cntN, wgt]; rw [hX, hY, Int.mul_comm (X : Int)]; push_cast; rfl)
      have HRm : Hid (cntN zs k + (Y * X + Y : Nat) ≤ 1048576) := Lib.hid (by rw [← HE.out]; simp only [cntN]; exact hroom)
      have HCell : Hid (∀ W, Grew w W → b < W.heap.size ∧ W.cell? ⟨b, off + k, none⟩ = some (.int .i64 (X : Int)) ∧ W.cell? ⟨b, off + (k + 1), none⟩ = some (.int .i64 (Y : Int))) := Lib.hid (fun W g =>
        ⟨Nat.lt_of_lt_of_le hb g.size, by rw [← hX]; exact (Below.cell g (p := ⟨b, off + k, none⟩) hb).trans (HC.out k (by have := HN.out; omega)), by rw [← hY]; exact (Below.cell g (p := ⟨b, off + (k + 1), none⟩) hb).trans (HC.out (k + 1) (by have := HN.out; omega))⟩)
      rw [hX] at hx
      rw [hY] at hy
      clear hX hY hroom
      go_wp2
      rename World => wa
      go_loopw [3, 5] (fun v rv wr => ∃ r m : Nat, r ≤ Y ∧ rv = .int .i64 r ∧ Hid ((m : Int) = cntN zs k + (r * X : Nat)) ∧ Hid (wr.ownsRow w.heap.size 76 3 v m (tcells (pls zs m))) ∧ Hid (Grew w wr)) (fun _ rv _ => Y - (intOf rv).toNat)
      case atStart => exact ⟨0, m, by omega, rfl, Lib.hid (by rw [HM.out]; simp), HB, HG⟩
      case round =>
        obtain ⟨r, m, hr, rfl, HM, HB, HG⟩ := hrel
        obtain ⟨hbw, e1, e2⟩ := HCell.out _ HG.out
        by_cases hrY : r < Y
        · go_wp2
          rename World => wb
          go_loopw [3, 6] (fun v cv wr => ∃ c m : Nat, c ≤ X ∧ cv = .int .i64 c ∧ Hid ((m : Int) = cntN zs k + (r * X + c : Nat)) ∧ Hid (wr.ownsRow w.heap.size 76 3 v m (tcells (pls zs m))) ∧ Hid (Grew w wr)) (fun _ cv _ => X - (intOf cv).toNat)
          case atStart => exact ⟨0, m, by omega, rfl, HM, HB, HG⟩
          case round =>
            obtain ⟨c, m, hc, rfl, HM, HB, HG⟩ := hrel
            obtain ⟨hbw, e1, e2⟩ := HCell.out _ HG.out
            by_cases hcX : c < X
            · have HA := Lib.hid (HAw.out m r c hrY hcX HM.out)
              have HS := Lib.hid (pls_snoc HO.out HA.out)
              have hm20 : m ≤ 1048576 := by
                have := (HA.out.range HO.out).2
                have := HR.out.2.2.2
                omega
              go_wp2_with (at_builtin; refine wpList_append_own _ rfl _ _ 72 rfl w.heap.size 76 i0 (.agg #[.int .i64 0, .int .i64 0, .int .i64 0]) 3 24 Try.underlying72 hi hz0 hz1 hz2 rfl (by decide) _ m _ rfl (HB.out.alloc _) ⟨wr.heap.size, 0, none⟩ 1 1 [.int .i64 k, .int .i64 r, .int .i64 c] rfl rfl (cell_three_new _ _ _ _ _) three_cells (by unfold maxLen; omega) (by omega) (by have := HG.out.size; simp; omega) ?_)
              intro v' w1 hown hgrow hnil
              have HO1 : Hid (w1.ownsRow w.heap.size 76 3 v' (m + 1) (tcells (pls zs (m + 1)))) := Lib.hid (by rw [HS.out]; exact hown)
              have HG1 : Hid (Grew w w1) := Lib.hid (Below.grown (HG.out.alloc _) hgrow (by have := HG.out.size; simp; omega) (fun j hj => (World.ownsRow.lt HB.out j hj).1))
              have HM1 : Hid (((m + 1 : Nat) : Int) = cntN zs k + (r * X + (c + 1) : Nat)) := Lib.hid (by have := HM.out; omega)
              clear hown hgrow hnil
              go_wp2_with fail
              go_roundw
              case rel => exact ⟨c + 1, m + 1, by omega, by go_num, HM1, HO1, HG1⟩
              case measure => simp [intOf]; omega
            · obtain rfl : c = X := by omega
              have HM1 : Hid ((m : Int) = cntN zs k + ((r + 1) * c : Nat)) := Lib.hid (by have := HM.out; rw [Nat.add_mul, Nat.one_mul]; exact this)
              go_wp2
              go_roundw
              case rel => exact ⟨r + 1, m, by omega, by go_num, HM1, HB, HG⟩
              case measure => simp [intOf]; omega
        · obtain rfl : r = Y := by omega
          go_wp2
          rename World => wb
          go_loopw [3, 7] (fun v cv wr => ∃ q m : Nat, q ≤ r ∧ cv = .int .i64 q ∧ Hid ((m : Int) = cntN zs k + (r * X + q : Nat)) ∧ Hid (wr.ownsRow w.heap.size 76 3 v m (tcells (pls zs m))) ∧ Hid (Grew w wr)) (fun _ cv _ => r - (intOf cv).toNat)
          case atStart => exact ⟨0, m, by omega, rfl, HM, HB, HG⟩
          case round =>
            obtain ⟨q, m, hq, rfl, HM, HB, HG⟩ := hrel
            obtain ⟨hbw, e1, e2⟩ := HCell.out _ HG.out
            by_cases hqY : q < r
            · have HA := Lib.hid (HAb.out m q hqY HM.out)
              have HS := Lib.hid (pls_snoc HO.out HA.out)
              have hm20 : m ≤ 1048576 := by
                have := (HA.out.range HO.out).2
                have := HR.out.2.2.2
                omega
              go_wp2_with (at_builtin; refine wpList_append_own _ rfl _ _ 72 rfl w.heap.size 76 i0 (.agg #[.int .i64 0, .int .i64 0, .int .i64 0]) 3 24 Try.underlying72 hi hz0 hz1 hz2 rfl (by decide) _ m _ rfl (HB.out.alloc _) ⟨wr.heap.size, 0, none⟩ 1 1 [.int .i64 k, .int .i64 q, .int .i64 (-1)] rfl rfl (cell_three_new _ _ _ _ _) three_cells (by unfold maxLen; omega) (by omega) (by have := HG.out.size; simp; omega) ?_)
              intro v' w1 hown hgrow hnil
              have HO1 : Hid (w1.ownsRow w.heap.size 76 3 v' (m + 1) (tcells (pls zs (m + 1)))) := Lib.hid (by rw [HS.out]; exact hown)
              have HG1 : Hid (Grew w w1) := Lib.hid (Below.grown (HG.out.alloc _) hgrow (by have := HG.out.size; simp; omega) (fun j hj => (World.ownsRow.lt HB.out j hj).1))
              have HM1 : Hid (((m + 1 : Nat) : Int) = cntN zs k + (r * X + (q + 1) : Nat)) := Lib.hid (by have := HM.out; omega)
              clear hown hgrow hnil
              go_wp2_with fail
              go_roundw
              case rel => exact ⟨q + 1, m + 1, by omega, by go_num, HM1, HO1, HG1⟩
              case measure => simp [intOf]; omega
            · obtain rfl : q = r := by omega
              have HM1 : Hid ((m : Int) = cntN zs (k + 1)) := Lib.hid (by rw [HE.out]; exact HM.out)
              go_wp2
              go_roundw
              case rel => exact ⟨k + 1, m, by omega, by go_num, HM1, HB, HG⟩
              case measure => simp [intOf]; omega
    · have HE : Hid ((m : Int) = cnt zs) := Lib.hid (by unfold cnt; rw [show lnk zs = k by have := HL.out; omega]; exact HM.out)
      obtain ⟨_, a', c', rfl, hrd, h1, h2⟩ := own_tr HB.out
      have HRd := Lib.hid hrd
      clear hrd
      go_wp2
      go_ret
      exact ⟨⟨m, a', c', HE.out, rfl, HRd.out, h1, h2⟩, HG.out⟩
end Go.Proofs.Ytciocdjpgknihaa
