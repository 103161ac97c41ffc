/- The reference's Pick: the examples with some indices, or nothing. Condition: at most 100 examples and 100 indices, each list of at most 1000 numbers. -/
import Derived.Test.YthdkanmpapioeaaDoorEp
namespace Go.Proofs.YthdkanmpapioeaaDoor
open Go.RowKit

/-- What the reference's Pick answers. -/
def RPick (D B : Nat) (W : World) (es : List Ex) (is : List Int) (e : Ending) : Prop := ∃ v rs ok, e = .returned (.tuple #[v, .bool ok]) ∧ LotE D W v rs ∧ RdL B W rs ∧ SmE (rs.map Prod.snd) ∧ ((ok = true ∧ pickV es is = some (rs.map Prod.snd)) ∨ (ok = false ∧ pickV es is = none ∧ rs = []))
theorem sm_nil : SmE [] := ⟨by decide, fun k hk => by simp at hk⟩
theorem rdl_nil (B : Nat) (W : World) : RdL B W [] := fun j r hj => by simp at hj
set_option maxRecDepth 100000 in
set_option maxHeartbeats 4000000 in
theorem rPick_any {B n m : Nat} (a ia : Option Addr) (c ic : Nat) (es : List Ex) (is : List Int) (w : World) (hn : es.length = n) (hm : is.length = m) (hs : SmE es) (hl : m ≤ 100) (hB : B ≤ w.heap.size) (hr : RdE B w a es) (hi : RdK .i64 w.heap.size w ia is) :
    Calls Tryd.prog 20 #[.slice a n c, .slice ia m ic] w fun e w' => RPick w.heap.size B w' es is e ∧ Grew w w' := by
  obtain ⟨i0, hi0, hz0, hz1, hz2⟩ := info_parts info_ex
  have hn1 := hs.1
  rw [hn] at hn1
  obtain ⟨P, hP⟩ := atP_of hr
  have HP := Lib.hid hP
  have HI := Lib.hid hi
  have HN := Lib.hid hn
  have HM := Lib.hid hm
  have HS := Lib.hid hs
  have HB := Lib.hid hB
  clear hr hi hn hm hs hP
  go_enter Tryd.func20, Tryd.ntmps20
  go_wp2
  go_loopw [6, 7] (fun v i wr => ∃ rs : List (Pl × Ex), rs.length ≤ m ∧ i = .int .i64 rs.length ∧ Hid (LotE w.heap.size wr v rs) ∧ Hid (∀ j, j < rs.length → atR es P (el is j) = some (rs[j]?.getD nilR)) ∧ Hid (Grew w wr)) (fun _ i _ => m - (intOf i).toNat)
  case atStart => exact ⟨[], Nat.zero_le _, rfl, Lib.hid (World.ownsRow_nil _ _ _ _), Lib.hid (fun j hj => absurd hj (Nat.not_lt_zero _)), Lib.hid (Grew.refl _)⟩
  case round =>
    obtain ⟨rs, hk, rfl, HL, HA, HG⟩ := hrel
    obtain ⟨va, vc, rfl, _, _⟩ := HL.out.form
    have hsw := HG.out.size
    by_cases hlt : rs.length < m
    · obtain ⟨ib, io, rfl, hib, hic⟩ := (HI.out.grow HG.out).at (k := rs.length) (by rw [HM.out]; exact hlt)
      by_cases h : 0 ≤ el is rs.length ∧ el is rs.length < es.length
      · obtain ⟨k, hk'⟩ := Int.eq_ofNat_of_zero_le h.1
        have hkn : k < n := by rw [← HN.out]; have := h.2; omega
        obtain ⟨bb, off, rfl, hbb, d0w, d1w, _⟩ := HP.out k (by rw [HN.out]; exact hkn)
        have hbw : bb < w.heap.size := Nat.lt_of_lt_of_le hbb HB.out
        have d0 : wr.cell? ⟨bb, off + k * 2, none⟩ = some (.slice (P k).xa (lx es k) (P k).xc) := (Below.cell HG.out (p := ⟨bb, off + k * 2, none⟩) hbw).trans d0w
        have d1 : wr.cell? ⟨bb, off + k * 2 + 1, none⟩ = some (.slice (P k).ya (ly es k) (P k).yc) := (Below.cell HG.out (p := ⟨bb, off + k * 2 + 1, none⟩) hbw).trans d1w
        have HA2 : Hid (∀ j, j < (rs ++ [(P k, ex es k)]).length → atR es P (el is j) = some ((rs ++ [(P k, ex es k)])[j]?.getD nilR)) := Lib.hid (fun j hj => by
          by_cases e : j = rs.length
          · subst e
            rw [List.getElem?_append_right (Nat.le_refl _), Nat.sub_self]
            unfold atR
            rw [if_pos h, hk', Int.toNat_natCast]; rfl
          · rw [List.length_append] at hj
            have hj2 : j < rs.length := by simp at hj; omega
            rw [List.getElem?_append_left hj2]
            exact HA.out j hj2)
        rw [hk'] at hic
        have HLN : Hid (∀ (W : World) (g cp : Nat), W.ownsRow w.heap.size 24 2 (.slice (some ⟨g, 0, none⟩) (rs.length + 1) cp) (rs.length + 1) (ecells rs ++ [.slice (P k).xa (lx es k) (P k).xc, .slice (P k).ya (ly es k) (P k).yc]) → LotE w.heap.size W (.slice (some ⟨g, 0, none⟩) (rs.length + 1) cp) (rs ++ [(P k, ex es k)])) := Lib.hid (fun W g cp h => by
          unfold LotE
          rw [ecells_append, List.length_append]
          exact h)
        have HC2 : Hid (∀ (j : Nat) (u : Value), [Value.slice (P k).xa (lx es k) (P k).xc, .slice (P k).ya (ly es k) (P k).yc][j]? = some u → (wr.alloc (.cells #[.slice (P k).xa (lx es k) (P k).xc, .slice (P k).ya (ly es k) (P k).yc] 24)).cell? (Addr.add ⟨wr.heap.size, 0, none⟩ j) = some u) := Lib.hid (cells_two _ _ _ _)
        have hneg : ¬ ((k : Int) < 0) := by omega
        have hge : ¬ ((n : Int) ≤ (k : Int)) := by omega
        clear h hk' d0w d1w
        generalize lx es k = m1 at *
        generalize ly es k = m2 at *
        generalize (P k).xa = xa at *
        generalize (P k).xc = xc at *
        generalize (P k).ya = ya at *
        generalize (P k).yc = yc at *
        go_wp2_with (at_builtin; refine wpList_append_own _ rfl _ _ 26 rfl w.heap.size 24 i0 (.agg #[.slice none 0 0, .slice none 0 0]) 2 48 Tryd.underlying26 hi0 hz0 hz1 hz2 rfl (by decide) _ _ _ rfl (World.ownsRow.alloc HL.out _) ⟨wr.heap.size, 0, none⟩ 1 1 [.slice xa m1 xc, .slice ya m2 yc] rfl rfl HC2.out one_two ?qc4 ?qc5 ?qc6 ?_)
        case qc4 => unfold maxLen; omega
        case qc5 => omega
        case qc6 => first | (simp; omega) | omega
        intro v' w1 hown hgrow hnil
        obtain ⟨g', c', rfl⟩ := ownsRow_succ hown
        have HL1 := Lib.hid (HLN.out w1 g' c' hown)
        have HG1 := Lib.hid (Below.grown (HG.out.alloc (.cells #[.slice xa m1 xc, .slice ya m2 yc] 24)) hgrow (by simp; omega) (fun x hx => (World.ownsRow.lt HL.out x hx).1))
        clear hown hgrow hnil
        go_wp2
        go_roundw
        case rel => exact ⟨rs ++ [(P k, ex es k)], by rw [List.length_append]; simp; omega, by rw [List.length_append]; go_num, HL1, HA2, HG1⟩
        case measure => simp [intOf]; omega
      · have HV : Hid (pickV es is = none) := Lib.hid (pick_none (P := P) (by rw [HM.out]; exact hlt) (by unfold atR; rw [if_neg h]))
        by_cases h0 : el is rs.length < 0
        · clear h
          generalize el is rs.length = x at *
          go_wp2
          go_ret2
          exact ⟨⟨_, [], false, rfl, World.ownsRow_nil _ _ _ _, rdl_nil _ _, sm_nil, .inr ⟨rfl, HV.out, rfl⟩⟩, HG.out⟩
        · have h1 : (n : Int) ≤ el is rs.length := by rw [← HN.out]; omega
          clear h
          generalize el is rs.length = x at *
          go_wp2
          go_ret2
          exact ⟨⟨_, [], false, rfl, World.ownsRow_nil _ _ _ _, rdl_nil _ _, sm_nil, .inr ⟨rfl, HV.out, rfl⟩⟩, HG.out⟩
    · have hm : rs.length = is.length := by rw [HM.out]; omega
      have HV := Lib.hid (pick_some (P := P) hm (fun j hj => HA.out j (by omega)))
      have HRL := Lib.hid (rdL_of (HP.out.below (HG.out.mono HB.out)) hm (fun j hj => HA.out j (by omega)))
      have HSM := Lib.hid (smE_of (P := P) HS.out (by rw [HM.out]; exact hl) hm (fun j hj => HA.out j (by omega)))
      clear hm
      go_wp2
      go_ret2
      exact ⟨⟨_, rs, true, rfl, HL.out, HRL.out, HSM.out, .inl ⟨rfl, HV.out⟩⟩, HG.out⟩
end Go.Proofs.YthdkanmpapioeaaDoor
