/- Many of the reference. Conditions: at most 2^44 draws and bounds. -/
import Derived.Test.YtfgkpbmjdgfdmaaSc
import Derived.Deep.RegionWith
import Derived.Deep.CutBlock
import Derived.Deep.DeepCutAuto
namespace Go.Proofs.Ytfgkpbmjdgfdmaa
open Go.RowKit

theorem info_int3 : (Try.prog.info? 3).map (fun i => (i.zero, i.size, i.bytes)) = some (some (.int .i64 0), 1, 8) := by kernel_rfl

set_option maxHeartbeats 2000000 in
theorem rmany_any {k : Nat} {zs bs : List Int} (a : Option Addr) (c : Nat) (a' : Option Addr) (c' : Nat) {w : World} (hl : zs.length ≤ 17592186044416) (hlb : bs.length ≤ 17592186044416) (hu : U64 zs) (hn : ∀ j, j < bs.length → el bs j ≤ 9223372036854775807) (hk : k ≤ zs.length) (h : RdK .u64 w.heap.size w a zs) (hb : RdK .i64 w.heap.size w a' bs) :
    Calls Try.prog 14 #[.agg #[.slice a zs.length c, .int .i64 k], .slice a' bs.length c'] w fun e w' => (∃ a2 c2, e = .returned (.tuple #[.agg #[.slice a zs.length c, .int .i64 (nxM zs k bs : Nat)], .slice a2 (resM zs k bs).length c2, .bool (okM zs k bs)]) ∧ BufK .i64 3 w.heap.size w' a2 (resM zs k bs).length c2 (resM zs k bs)) ∧ Grew w w' := by
  have HX := Lib.hid h
  have HB := Lib.hid hb
  obtain ⟨i0, hi, hz0, hz1, hz2⟩ := info_parts info_int3
  clear h hb
  go_enter Try.func14, Try.ntmps14
  go_wp2
  go_loopw [8, 9] (fun v i wr => ∃ j : Nat, j ≤ bs.length ∧ k + j ≤ zs.length ∧ i = .int .i64 j ∧ Hid (wr.ownsRow (w.heap.size + 1 + 1 + 1) 3 1 v j ((outK zs k bs j).map (Value.int .i64))) ∧
    Hid (Two wr w.heap.size 28 (.slice a zs.length c) (.int .i64 k)) ∧ Hid (Two wr (w.heap.size + 1) 28 (.slice none 0 0) (.int .i64 0)) ∧ Hid (Two wr (w.heap.size + 1 + 1) 28 (.slice a zs.length c) (.int .i64 (k + j : Nat))) ∧
    Hid (∀ i, i < j → okN zs (k + i) (el bs i) = true) ∧ Hid (Grew w wr)) (fun _ i _ => bs.length - (intOf i).toNat)
  case atStart =>
    refine ⟨0, Nat.zero_le _, hk, rfl, Lib.hid (World.ownsRow_nil _ _ _ _), Lib.hid (((Two.new w _ _ _).alloc _).alloc _), Lib.hid ?_, Lib.hid ?_, Lib.hid (fun i hi => by omega), Lib.hid ((((Grew.refl w).alloc _).alloc _).alloc _)⟩
    · have := (Two.new (w.alloc (.cells #[.slice a zs.length c, .int .i64 k] 28)) 28 (.slice none 0 0) (.int .i64 0)).alloc (.cells #[.slice a zs.length c, .int .i64 k] 28)
      rwa [World.size_alloc] at this
    · have := Two.new ((w.alloc (.cells #[.slice a zs.length c, .int .i64 k] 28)).alloc (.cells #[.slice none 0 0, .int .i64 0] 28)) 28 (.slice a zs.length c) (.int .i64 k)
      rwa [World.size_alloc, World.size_alloc] at this
  case round =>
    obtain ⟨j, hj, hkj, rfl, HO, H1, H2, H3, HK, HG⟩ := hrel
    by_cases hlt : j < bs.length
    · obtain ⟨g, off, rfl, hg, hcell⟩ := (HB.out.below HG.out).at hlt
      have t0 := H3.out.c0
      have t1 := H3.out.c1
      have hlt3 := H3.out.lt
      have hg' : g < wr.heap.size := Nat.lt_of_lt_of_le hg HG.out.size
      have hnx := hn j hlt
      have hrn := (fun (W : World) (hW : Grew w W) => rnext_any a c (k + j) zs (el bs j) W hl hkj hu hnx (HX.out.grow hW))
      rw [Int.natCast_add] at hrn
      have HRn := Lib.hid hrn
      clear hrn
      generalize hA : okN zs (k + j) (el bs j) = ok at *
      generalize hB : outN zs (k + j) (el bs j) = x at *
      generalize hC : nxN zs (k + j) (el bs j) = u at *
      generalize hD : el bs j = y at *
      have HA := Lib.hid hA
      have HBx := Lib.hid hB
      have HC := Lib.hid hC
      have HD := Lib.hid hD
      clear hA hB hC hD
      go_upto_region 6 with fail
      go_cut [10, 11, 12] (fun yv xv okv wx => ∃ g', yv = .pointer (some ⟨g', 0, none⟩) ∧ xv = .int .i64 x ∧ okv = .bool ok ∧ Hid (Two wx g' 28 (.slice a zs.length c) (.int .i64 u)) ∧ Hid (Grew wr wx) ∧ wr.heap.size ≤ g')
      case first =>
        go_region_with (go_at_call 11; refine (HRn.out _ (by first | exact Below.drew HG.out | exact Below.drew (HG.out.alloc _))).mono ?_; rintro e w1 ⟨rfl, g1⟩; first | (have hg : Grew (wr.alloc (.cells #[.slice none 0 0, .int .i64 0] 28)) w1 := Grew.trans (Below.drew (Below.refl _ _)) g1; have hy := (Two.new wr 28 (.slice none 0 0) (.int .i64 0)).grow hg; have y0 := hy.c0; have y1 := hy.c1; have yf0 := hy.f0; have yf1 := hy.f1; have HY := Lib.hid hy; clear hy) | skip)
        all_goals (go_wp2_with fail; go_meet)
        all_goals first
          | exact ⟨_, rfl, rfl, rfl, Lib.hid (Two.new _ _ _ _), Lib.hid ((Grew.trans (Below.drew (Below.refl _ _)) g1).alloc _), g1.size⟩
          | exact ⟨_, rfl, rfl, rfl, Lib.hid ((HY.out.set0 _).set1 _), Lib.hid (Below.setCell (Below.setCell (Below.trans ((Below.refl _ _).alloc (Nat.le_refl _) _) (Below.mono hg (by simp))) (p := ⟨wr.heap.size, 0, none⟩) (Nat.le_refl _) _) (p := ⟨wr.heap.size, 1, none⟩) (Nat.le_refl _) _), Nat.le_refl _⟩
      case rest =>
        obtain ⟨g', rfl, rfl, rfl, HY, HGw, hgl⟩ := hcut
        have HG2 := Lib.hid (HG.out.trans HGw.out)
        have H12 := Lib.hid (H1.out.grow HGw.out)
        have H22 := Lib.hid (H2.out.grow HGw.out)
        have H32 := Lib.hid (H3.out.grow HGw.out)
        have y0 := HY.out.c0
        have y1 := HY.out.c1
        have q0 := H12.out.c0
        have q1 := H12.out.c1
        have p0 := H22.out.c0
        have p1 := H22.out.c1
        have fp0 := H22.out.f0
        have fp1 := H22.out.f1
        have t20 := H32.out.c0
        have t21 := H32.out.c1
        have ft0 := H32.out.f0
        have ft1 := H32.out.f1
        clear t0 t1 hcell
        cases ok with
        | false =>
          go_wp2
          have HV : Hid (okM zs k bs = false) := Lib.hid (okM_no hlt (by rw [HD.out]; exact HA.out))
          have HR : Hid (resM zs k bs = [] ∧ nxM zs k bs = k) := Lib.hid ⟨by unfold resM; rw [HV.out]; rfl, by unfold nxM; rw [HV.out]; rfl⟩
          rw [HV.out, HR.out.1, HR.out.2]
          have H4 := (H22.out.set0 (.slice a zs.length c)).set1 (.int .i64 k)
          have z0 := H4.c0
          have z1 := H4.c1
          refine bodyPost_ret (v := .tuple #[.agg #[.slice a zs.length c, .int .i64 k], .slice none 0 0, .bool false]) (by simp [results, Try.results14, go_sem, z0, z1]) rfl ⟨⟨none, 0, rfl, World.ownsRow_nil _ _ _ _⟩, ?_⟩
          exact Below.setCell (Below.setCell HG2.out (p := ⟨w.heap.size + 1, 0, none⟩) (Nat.le_succ _) _) (p := ⟨w.heap.size + 1, 1, none⟩) (Nat.le_succ _) _
        | true =>
          have hux := HC.out
          obtain ⟨hy1, hk1⟩ : 1 ≤ y ∧ k + j < zs.length := by
            have := HA.out
            unfold okN at this
            rw [Bool.and_eq_true, decide_eq_true_eq, decide_eq_true_eq] at this
            exact this
          have hu1 : u = k + j + 1 := by rw [← hux]; unfold nxN; rw [HA.out]; rfl
          have hx1 : x = el zs (k + j) % y := by rw [← HBx.out]; unfold outN; rw [HA.out]; rfl
          subst hu1
          have HO' := Lib.hid (outK_succ zs bs k j)
          rw [HD.out, ← hx1] at HO'
          have HW1 := Lib.hid ((H32.out.set0 (.slice a zs.length c)).set1 (.int .i64 ((k : Int) + (j : Int) + 1)))
          have HW2 := Lib.hid ((H12.out.other ⟨w.heap.size + 1 + 1, 0, none⟩ (.slice a zs.length c) (by show w.heap.size ≠ w.heap.size + 1 + 1; omega)).other ⟨w.heap.size + 1 + 1, 1, none⟩ (.int .i64 ((k : Int) + (j : Int) + 1)) (by show w.heap.size ≠ w.heap.size + 1 + 1; omega))
          have HW3 := Lib.hid ((H22.out.other ⟨w.heap.size + 1 + 1, 0, none⟩ (.slice a zs.length c) (by show w.heap.size + 1 ≠ w.heap.size + 1 + 1; omega)).other ⟨w.heap.size + 1 + 1, 1, none⟩ (.int .i64 ((k : Int) + (j : Int) + 1)) (by show w.heap.size + 1 ≠ w.heap.size + 1 + 1; omega))
          have hrow : wc.ownsRow (w.heap.size + 1 + 1 + 1) 3 1 u8 j ((outK zs k bs j).map (Value.int .i64)) := World.ownsRow.kept HO.out (HGw.out.by' none) (by cases u8.ownBlock <;> simp)
          have HW4 := Lib.hid (ownsRow_setCell_below (a := ⟨w.heap.size + 1 + 1, 1, none⟩) (ownsRow_setCell_below (a := ⟨w.heap.size + 1 + 1, 0, none⟩) hrow (Nat.lt_succ_self _) (.slice a zs.length c)) (Nat.lt_succ_self _) (.int .i64 ((k : Int) + (j : Int) + 1)))
          have HW5 := Lib.hid (Below.setCell (Below.setCell HG2.out (p := ⟨w.heap.size + 1 + 1, 0, none⟩) (show w.heap.size ≤ w.heap.size + 1 + 1 by omega) (.slice a zs.length c)) (p := ⟨w.heap.size + 1 + 1, 1, none⟩) (show w.heap.size ≤ w.heap.size + 1 + 1 by omega) (.int .i64 ((k : Int) + (j : Int) + 1)))
          clear hrow hx1 hux
          go_upto_region 10 with fail
          generalize (wc.setCell ⟨w.heap.size + 1 + 1, 0, none⟩ (.slice a zs.length c)).setCell ⟨w.heap.size + 1 + 1, 1, none⟩ (.int .i64 ((k : Int) + (j : Int) + 1)) = W2 at *
          have HZ := Lib.hid (show w.heap.size + 1 + 1 + 1 ≤ W2.heap.size from HW1.out.lt)
          go_wp2_with (at_builtin; refine wpList_append_own _ rfl _ _ 23 rfl (w.heap.size + 1 + 1 + 1) 3 i0 (.int .i64 0) 1 8 Try.underlying23 hi hz0 hz1 hz2 rfl (by decide) _ j _ rfl (HW4.out.alloc _) ⟨W2.heap.size, 0, none⟩ 1 1 [.int .i64 x] rfl ?qc1 ?qc2 ?qc3 ?qc4 ?qc5 ?qc6 ?_)
          case qc1 => rfl
          case qc2 => exact cell_one_at _ _ _
          case qc3 => intro u hu; simp only [List.mem_singleton] at hu; subst hu; rfl
          case qc4 => unfold maxLen; omega
          case qc5 => omega
          case qc6 => have := HZ.out; simp; omega
          intro v' w1 hown hgrow hnil
          have HO2 : Hid (w1.ownsRow (w.heap.size + 1 + 1 + 1) 3 1 v' (j + 1) ((outK zs k bs (j + 1)).map (Value.int .i64))) := Lib.hid (by rw [HO'.out, List.map_append]; exact hown)
          have HB3 : Hid (Below (w.heap.size + 1 + 1 + 1) W2 w1) := Lib.hid (Below.grown ((Below.refl _ _).alloc HZ.out _) hgrow (by have := HZ.out; simp; omega) (fun b hb => (World.ownsRow.lt HW4.out b hb).1))
          clear hown hgrow hnil
          go_wp2_with fail
          go_roundw
          case measure => simp [intOf]; omega
          case rel =>
            exact ⟨j + 1, by omega, by omega, by go_num, HO2, Lib.hid ((Below.block HB3.out _ (by omega)).trans HW2.out), Lib.hid ((Below.block HB3.out _ (by omega)).trans HW3.out), Lib.hid (by
              have h9 : Two w1 (w.heap.size + 1 + 1) 28 (.slice a zs.length c) (.int .i64 ((k : Int) + (j : Int) + 1)) := (Below.block HB3.out _ (by omega)).trans HW1.out
              rwa [show ((k + (j + 1) : Nat) : Int) = (k : Int) + (j : Int) + 1 by omega]), Lib.hid (fun i hi => by
                by_cases e : i = j
                · subst e; rw [HD.out]; exact HA.out
                · exact HK.out i (by omega)), Lib.hid (Below.trans HW5.out (Below.mono HB3.out (by omega)))⟩
    · obtain rfl : j = bs.length := by omega
      have HV : Hid (okM zs k bs = true) := Lib.hid (okM_yes HK.out)
      have HR : Hid (resM zs k bs = outK zs k bs bs.length ∧ nxM zs k bs = k + bs.length) := Lib.hid ⟨by unfold resM; rw [HV.out]; rfl, by unfold nxM; rw [HV.out]; rfl⟩
      obtain ⟨a2, c2, rfl, hbf⟩ := own_ints HO.out
      have HBf := Lib.hid hbf
      have p0 := H2.out.c0
      have p1 := H2.out.c1
      have fp0 := H2.out.f0
      have fp1 := H2.out.f1
      have t20 := H3.out.c0
      have t21 := H3.out.c1
      have H4 := (H2.out.set0 (.slice a zs.length c)).set1 (.int .i64 (k + bs.length : Nat))
      have z0 := H4.c0
      have z1 := H4.c1
      have HZ0 := Lib.hid z0
      have HZ1 := Lib.hid z1
      clear hbf H4 z0 z1
      go_wp2
      rw [HV.out, HR.out.1, HR.out.2, outK_len]
      have z0 := HZ0.out
      have z1 := HZ1.out
      rw [Int.natCast_add] at z0 z1
      refine bodyPost_ret (v := .tuple #[.agg #[.slice a zs.length c, .int .i64 (k + bs.length : Nat)], .slice a2 bs.length c2, .bool true]) (by simp [results, Try.results14, go_sem, z0, z1]) rfl ⟨⟨a2, c2, rfl, ?_⟩, ?_⟩
      · refine BufK.mono (B := w.heap.size + 1 + 1 + 1) ?_ (by omega)
        exact (ownsRow_setCell_below (a := ⟨w.heap.size + 1, 1, none⟩) (ownsRow_setCell_below (a := ⟨w.heap.size + 1, 0, none⟩) HBf.out (show w.heap.size + 1 < w.heap.size + 1 + 1 + 1 by omega) _) (show w.heap.size + 1 < w.heap.size + 1 + 1 + 1 by omega) _)
      · exact Below.setCell (Below.setCell HG.out (p := ⟨w.heap.size + 1, 0, none⟩) (Nat.le_succ _) _) (p := ⟨w.heap.size + 1, 1, none⟩) (Nat.le_succ _) _
end Go.Proofs.Ytfgkpbmjdgfdmaa
