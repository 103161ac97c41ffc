/- The reference's Draws. Condition: at most 2^44 numbers. -/
import Derived.Test.YthhhbopigehbhaaTh
import Derived.Test.YthhhbopigehbhaaTj
namespace Go.Proofs.Ythhhbopigehbhaa
open Go.RowKit

theorem info_u646 : (Try.prog.info? 29).map (fun i => (i.zero, i.size, i.bytes)) = some (some (.int .u64 0), 1, 8) := by kernel_rfl
theorem place_n {n : Nat} (a : Option Addr) (c : Nat) (zs : List Int) (x : Int) (w : World) (hz : zs.length = n) (hl : n ≤ 17592186044416) (h : RdK .i64 w.heap.size w a zs) :
    Calls Try.prog 25 #[.slice a n c, .int .i64 x] w fun e w' => (∃ r, e = .returned (.int .i64 r) ∧ PlcAt zs x r) ∧ w = w' := by
  subst hz; exact place_any a c zs x w hl h
theorem BufK.belowD {q : IntKind} {e : TypeId} {B D n cap g : Nat} {W W' : World} {zs : List Int} (h : BufK q e B W (some ⟨g, 0, none⟩) n cap zs) (hb : Below D W W') (hg : g < D) : BufK q e B W' (some ⟨g, 0, none⟩) n cap zs := by
  refine ⟨h.1, ?_⟩
  rcases h.2 with e | ⟨g', c, cur, e1, hb1, hg1, rest⟩
  · exact .inl e
  · have e2 := e1
    injection e2 with e2
    injection e2 with e2
    injection e2 with e2
    subst e2
    exact .inr ⟨g, c, cur, e1, hb1, (Below.block hb g hg).trans hg1, rest⟩

theorem rdraws_no (a : Option Addr) (c : Nat) (zs : List Int) (w : World) (hl : zs.length ≤ 17592186044416) (h : RdK .i64 w.heap.size w a zs) (hv : validB zs = false) :
    Calls Try.prog 9 #[.slice a zs.length c] w fun e w' => e = .returned (.tuple #[.slice none 0 0, .bool false]) ∧ w = w' := by
  have HV := Lib.hid (rvalid_any a c zs w hl h)
  rw [hv] at HV
  clear h hv
  go_enter Try.func9, Try.ntmps9
  go_wp2_with fail
  refine HV.out.mono ?_
  rintro e w1 ⟨rfl, rfl⟩
  go_wp2
  go_ret2
  exact ⟨rfl, rfl⟩

set_option maxHeartbeats 2000000 in
theorem rdraws_yes (a : Option Addr) (c : Nat) (zs : List Int) (w : World) (hl : zs.length ≤ 17592186044416) (h : RdK .i64 w.heap.size w a zs) (hv : IsP zs) :
    Calls Try.prog 9 #[.slice a zs.length c] w fun e w' => (∃ a' c', e = .returned (.tuple #[.slice a' (zs.length - 1 : Nat) c', .bool true]) ∧ BufK .u64 29 w.heap.size w' a' (zs.length - 1) c' (drawsL zs)) ∧ Grew w w' := by
  have HV := Lib.hid (rvalid_any a c zs w hl h)
  rw [validB_yes hv] at HV
  have HX := Lib.hid h
  have HP := Lib.hid hv
  obtain ⟨i0, hi, hz0, hz1, hz2⟩ := info_parts info_int6
  obtain ⟨i0', hi', hz0', hz1', hz2'⟩ := info_parts info_u646
  obtain ⟨n, hn⟩ : ∃ n, n = zs.length := ⟨_, rfl⟩
  obtain ⟨m, hm⟩ : ∃ m, m = n - 1 := ⟨_, rfl⟩
  have HLn := Lib.hid hn
  rw [← hn] at HV hl ⊢
  rw [← hm]
  have hmn : m ≤ n := by omega
  have hmm : m + 1 = n ∨ n = 0 := by omega
  have HM : Hid (∀ k, k < m → k < zs.length - 1) := Lib.hid (fun k hk => by omega)
  have HLd : Hid ((drawsL zs).length = m) := Lib.hid (by rw [drawsL_len, hm, hn])
  have HD0 : Hid (dL zs 0 = nums n) := Lib.hid (by rw [hn]; rfl)
  clear h hv hn hm
  go_enter Try.func9, Try.ntmps9
  go_wp2_with fail
  refine HV.out.mono ?_
  rintro e w1 ⟨rfl, rfl⟩
  go_wp2
  go_loopw [4, 5] (fun v i wr => ∃ k : Nat, k ≤ n ∧ i = .int .i64 k ∧ Hid (wr.ownsRow w.heap.size 3 1 v k ((nums k).map (Value.int .i64))) ∧ Hid (Grew w wr)) (fun _ i _ => n - (intOf i).toNat)
  case atStart => exact ⟨0, Nat.zero_le _, rfl, Lib.hid (World.ownsRow_nil _ _ _ _), Lib.hid (Grew.refl _)⟩
  case round =>
    obtain ⟨k, hk, rfl, HO, HG⟩ := hrel
    by_cases hlt : k < n
    · have hsz := HG.out.size
      go_wp2_with (at_builtin; refine wpList_append_own _ rfl _ _ 22 rfl w.heap.size 3 i0 (.int .i64 0) 1 8 Try.underlying22 hi hz0 hz1 hz2 rfl (by decide) _ k _ rfl (HO.out.alloc _) ⟨wr.heap.size, 0, none⟩ 1 1 [.int .i64 k] rfl ?qc1 ?qc2 ?qc3 ?qc4 ?qc5 ?qc6 ?_)
      case qc1 => rfl
      case qc2 => exact cell_one_at _ _ _
      case qc3 => intro u hu; simp only [List.mem_singleton] at hu; subst hu; rfl
      case qc4 => unfold maxLen; omega
      case qc5 => omega
      case qc6 => simp; omega
      intro v' w2 hown hgrow hnil
      have HO2 : Hid (w2.ownsRow w.heap.size 3 1 v' (k + 1) ((nums (k + 1)).map (Value.int .i64))) := Lib.hid (by rw [nums_snoc, List.map_append]; exact hown)
      have HG2 : Hid (Grew w w2) := Lib.hid (Below.grown (HG.out.alloc _) hgrow (by simp; omega) (fun b hb => (World.ownsRow.lt HO.out b hb).1))
      clear hown hgrow hnil
      go_wp2_with fail
      go_roundw
      case measure => simp [intOf]; omega
      case rel => exact ⟨k + 1, by omega, by go_num, HO2, HG2⟩
    · obtain rfl : k = n := by omega
      rename World => w2
      obtain ⟨a2, c2, rfl, hbf⟩ := own_ints HO.out
      rw [← HD0.out] at hbf
      have HB2 := Lib.hid hbf
      have HG2 := Lib.hid HG.out
      have hs2 := HG.out.size
      have hA2 : 0 < k → ∃ g, a2 = some ⟨g, 0, none⟩ ∧ w.heap.size ≤ g ∧ g < w2.heap.size := fun h0 => by
        obtain ⟨g, e, h1, h2, _⟩ := hbf.at h0
        exact ⟨g, e, h1, h2⟩
      clear hbf
      go_wp2
      go_loopw [6, 7] (fun v i wr => ∃ j : Nat, j ≤ m ∧ i = .int .i64 ((k : Int) - 1 - (j : Int)) ∧ Hid (BufK .i64 3 w.heap.size wr a2 k c2 (dL zs j)) ∧ Hid (wr.ownsRow w2.heap.size 29 1 v j (((drawsL zs).take j).map (Value.int .u64))) ∧ Hid (Grew w wr) ∧ w2.heap.size ≤ wr.heap.size) (fun _ i _ => (intOf i).toNat)
      case atStart => exact ⟨0, Nat.zero_le _, by simp, HB2, Lib.hid (World.ownsRow_nil _ _ _ _), HG2, Nat.le_refl _⟩
      case round =>
        obtain ⟨j, hj, rfl, HB, HO3, HG3, hs3⟩ := hrel
        by_cases hlt2 : j < m
        · have hk1 := HM.out j hlt2
          obtain ⟨g, rfl, hgl, hgs⟩ := hA2 (by omega)
          have hI := dInv_all HP.out j (by omega)
          obtain ⟨pb, off, rfl, hpb, hc⟩ := (HX.out.below HG3.out).at (k := k - 1 - j) (by rw [← HLn.out]; omega)
          obtain ⟨y, hy, hz⟩ := isP_ran HP.out (j := k - 1 - j) (by rw [← HLn.out]; omega)
          obtain ⟨hj1, hj2⟩ := dJ_at HP.out hk1 hI
          rw [← HLn.out, hz] at hj2
          rw [← HLn.out] at hj1
          have HS := Lib.hid (dL_succ zs j)
          have HT := Lib.hid (take_el (zs := drawsL zs) (k := j) (by rw [HLd.out]; exact hlt2))
          rw [drawsL_el hk1] at HT
          have HI := Lib.hid hI.1.2
          have HLj : Hid ((dL zs j).length = k) := Lib.hid (by rw [dL_len, HLn.out])
          rw [← HLn.out] at HS
          obtain ⟨jj, hjj⟩ : ∃ jj, jj = dJ zs j := ⟨_, rfl⟩
          rw [← hjj] at hj1 hj2 HS HT
          have HJ2 := Lib.hid hj2
          have er : ((k : Int) - 1 - (j : Int)).toNat = k - 1 - j := by omega
          have p0 : (0 : Int) ≤ (k : Int) - 1 - (j : Int) := by omega
          have p1 : (k : Int) - 1 - (j : Int) < (k : Int) := by omega
          have p2 : (0 : Int) < (k : Int) - 1 - (j : Int) := by omega
          rw [hz] at hc
          clear hI hj2 hjj
          go_wp2_with fail
          refine (place_n (some ⟨g, 0, none⟩) c2 (dL zs j) y _ HLj.out hl HB.out.rd).mono ?_
          rintro e w3 ⟨⟨r, rfl, hr⟩, rfl⟩
          obtain rfl := place_yes HI.out (k := jj) (by rw [HLj.out]; omega) HJ2.out hr
          clear hr
          go_wp2_with (at_builtin; refine wpList_append_own _ rfl _ _ 24 rfl w2.heap.size 29 i0' (.int .u64 0) 1 8 Try.underlying24 hi' hz0' hz1' hz2' rfl (by decide) _ j _ rfl (HO3.out.alloc _) ⟨wr.heap.size, 0, none⟩ 1 1 [.int .u64 jj] rfl ?qc1 ?qc2 ?qc3 ?qc4 ?qc5 ?qc6 ?_)
          case qc1 => rfl
          case qc2 => exact cell_one_at _ _ _
          case qc3 => intro u hu; simp only [List.mem_singleton] at hu; subst hu; rfl
          case qc4 => unfold maxLen; omega
          case qc5 => omega
          case qc6 => simp; omega
          intro v' w3 hown hgrow hnil
          have hb3 : Below w2.heap.size wr w3 := Below.grown ((Below.refl _ _).alloc hs3 _) hgrow (by simp; omega) (fun b hb => (World.ownsRow.lt HO3.out b hb).1)
          have HO4 : Hid (w3.ownsRow w2.heap.size 29 1 v' (j + 1) (((drawsL zs).take (j + 1)).map (Value.int .u64))) := Lib.hid (by rw [HT.out, List.map_append, List.map_take]; exact hown)
          have hbq := HB.out.belowD hb3 hgs
          have hs4 := hb3.size
          have HG4 := Lib.hid (HG3.out.trans_below hb3 hs2)
          have hcp := (hb3.cell (p := ⟨pb, off + (k - 1 - j), none⟩) (show pb < w2.heap.size by omega)).trans hc
          obtain ⟨g', e', _, hg5, hci, hfi⟩ := hbq.at (k := k - 1 - j) (by omega)
          obtain rfl : g = g' := by injection e' with e'; injection e'
          obtain ⟨g', e', _, _, hcj, hfj⟩ := hbq.at (k := jj) (by omega)
          obtain rfl : g = g' := by injection e' with e'; injection e'
          obtain ⟨z, hzz⟩ : ∃ z, el (dL zs j) (k - 1 - j) = z := ⟨_, rfl⟩
          rw [hzz] at hci
          have hbq1 := hbq.set jj z
          obtain ⟨g', e', _, _, hci1, hfi1⟩ := hbq1.at (k := k - 1 - j) (by omega)
          obtain rfl : g = g' := by injection e' with e'; injection e'
          have hcp1 : (w3.setCell ⟨g, jj, none⟩ (.int .i64 z)).cell? ⟨pb, off + (k - 1 - j), none⟩ = some (.int .i64 y) := (World.cell?_setCell_other _ _ _ _ (by intro e; injection e with e; omega)).trans hcp
          have HB6 : Hid (BufK .i64 3 w.heap.size ((w3.setCell ⟨g, jj, none⟩ (.int .i64 z)).setCell ⟨g, k - 1 - j, none⟩ (.int .i64 y)) (some ⟨g, 0, none⟩) k c2 (dL zs (j + 1))) := Lib.hid (by
            rw [HS.out, ← swapL_back, hzz, HJ2.out]
            exact hbq1.set (k - 1 - j) y)
          have HO6 := Lib.hid (ownsRow_setCell_below (a := ⟨g, k - 1 - j, none⟩) (ownsRow_setCell_below (a := ⟨g, jj, none⟩) HO4.out hgs (.int .i64 z)) hgs (.int .i64 y))
          have HG6 := Lib.hid (Below.setCell (Below.setCell HG4.out (p := ⟨g, jj, none⟩) hgl (.int .i64 z)) (p := ⟨g, k - 1 - j, none⟩) hgl (.int .i64 y))
          clear hown hgrow hnil hb3 hbq hbq1 hzz hc e'
          go_wp2
          go_roundw
          case measure => simp [intOf]; omega
          case rel => exact ⟨j + 1, by omega, by go_num, HB6, HO6, HG6, by simp; omega⟩
        · obtain rfl : j = m := by omega
          obtain ⟨a4, c4, rfl, hbf⟩ := own_ints HO3.out
          have HBf := Lib.hid hbf
          have p1 : decide ((0 : Int) < (k : Int) - 1 - (j : Int)) = false := by simp; omega
          clear hbf
          go_wp2
          go_ret2
          exact ⟨⟨_, _, rfl, by have := HBf.out.mono hs2; rwa [List.take_of_length_le (by rw [HLd.out]; exact Nat.le_refl _)] at this⟩, HG3.out⟩
end Go.Proofs.Ythhhbopigehbhaa
