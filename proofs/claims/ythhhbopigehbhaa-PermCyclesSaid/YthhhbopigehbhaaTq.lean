/- The reference's Cycles. Condition: at most 2^32 numbers. -/
import Derived.Test.YthhhbopigehbhaaTp
import Derived.Test.YthhhbopigehbhaaTe
namespace Go.Proofs.Ythhhbopigehbhaa
open Go.RowKit
set_option linter.unusedVariables false

theorem rcycles_no (a : Option Addr) (c : Nat) (zs : List Int) (w : World) (hl : zs.length ≤ 17592186044416) (h : RdK .i64 w.heap.size w a zs) (hv : validB zs = false) :
    Calls Try.prog 20 #[.slice a zs.length c] w fun e w' => e = .returned (.tuple #[.slice none 0 0, .bool false]) ∧ w = w' := by
  have HV := Lib.hid (rvalid_any a c zs w hl h)
  rw [hv] at HV
  clear h hv
  go_enter Try.func20, Try.ntmps20
  go_wp2_with fail
  refine HV.out.mono ?_
  rintro e w1 ⟨rfl, rfl⟩
  go_wp2
  go_ret2
  exact ⟨rfl, rfl⟩

set_option maxHeartbeats 2000000 in
theorem rcycles_yes (a : Option Addr) (c : Nat) (zs : List Int) (w : World) (hl0 : zs.length ≤ 4294967296) (h : RdK .i64 w.heap.size w a zs) (hv : IsP zs) :
    Calls Try.prog 20 #[.slice a zs.length c] w fun e w' => (∃ v, e = .returned (.tuple #[v, .bool true]) ∧ Lots w.heap.size w' v (cycs zs zs.length)) ∧ Grew w w' := by
  have hl : zs.length ≤ 17592186044416 := by omega
  have HV := Lib.hid (rvalid_any a c zs w hl h)
  rw [validB_yes hv] at HV
  have HX := Lib.hid h
  have HP := Lib.hid hv
  obtain ⟨i0, hi, hz0, hz1, hz2⟩ := info_parts info_rows
  obtain ⟨i0', hi', hz0', hz1', hz2'⟩ := info_parts info_int7
  clear h hv
  go_enter Try.func20, Try.ntmps20
  go_wp2_with fail
  refine HV.out.mono ?_
  rintro e w1 ⟨rfl, rfl⟩
  go_wp2
  go_loopw [4, 5] (fun v i wr => ∃ k : Nat, k ≤ zs.length ∧ i = .int .i64 k ∧ Hid (Lots w.heap.size wr v (cycs zs k)) ∧ Hid (Grew w wr)) (fun _ i _ => zs.length - (intOf i).toNat)
  case atStart => exact ⟨0, Nat.zero_le _, rfl, Lib.hid (Lots.nil _ _), Lib.hid (Grew.refl _)⟩
  case round =>
    obtain ⟨k, hk, rfl, HL, HG⟩ := hrel
    by_cases hlt : k < zs.length
    · have hper := per_is HP.out hlt
      have hfew := cycs_few zs k
      have hp0 := hper.1
      have hpn := hper.2.1
      have HNe := Lib.hid hper.2.2.2
      have HBack := Lib.hid hper.2.2.1
      have HLs : Hid (lsTo zs k (per zs k) = lsB zs k) := Lib.hid rfl
      have HCy : Hid (cycTo zs k (per zs k) = cyc zs k) := Lib.hid rfl
      have HCl := Lib.hid (cyc_len zs k)
      obtain ⟨L, hL⟩ : ∃ L, L = per zs k := ⟨_, rfl⟩
      rw [← hL] at hp0 hpn HNe HBack HLs HCy HCl
      have g0 : Grew wr (wr.alloc (.cells #[.int .i64 k] 3)) := (Grew.refl _).alloc _
      have HGa := Lib.hid g0
      have HO0 : Hid ((wr.alloc (.cells #[.int .i64 k] 3)).ownsRow wr.heap.size 3 1 (.slice (some ⟨wr.heap.size, 0, none⟩) 1 1) 1 ((cycTo zs k 1).map (Value.int .i64))) := Lib.hid (own_one wr k)
      have HLs1 : Hid (lsTo zs k 1 = true) := Lib.hid rfl
      obtain ⟨g, off, rfl, hg, hc⟩ := (HX.out.below (HG.out.trans g0)).at hlt
      have hx1 := it_el HP.out hlt 0
      rw [show it zs k 0 = k from rfl] at hx1
      rw [hx1] at hc
      have hs := HG.out.size
      clear hper hL g0 hx1
      go_wp2
      go_loopg [6, 7, 8] (L - 1) (fun r ls cv x wq => ∃ m : Nat, 1 ≤ m ∧ m ≤ L ∧ r = L - m ∧ ls = .bool (lsTo zs k m) ∧ x = .int .i64 (it zs k m) ∧ Hid (wq.ownsRow wr.heap.size 3 1 cv m ((cycTo zs k m).map (Value.int .i64))) ∧ Hid (Grew wr wq))
      case atStart => exact ⟨1, Nat.le_refl _, hp0, rfl, by rw [HLs1.out], rfl, HO0, HGa⟩
      case round =>
        rename World => wq
        obtain ⟨m, hm1, hmL, rfl, rfl, rfl, HO, HGq⟩ := hrel
        have hitn := it_lt HP.out hlt m
        by_cases hlt2 : m < L
        · have hne := HNe.out m (by omega) hlt2
          have HT := Lib.hid (cycTo_snoc zs k m)
          have HLn := Lib.hid (lsTo_snoc zs k (m := m) (by omega))
          have HNx := Lib.hid (it_el HP.out hlt m)
          have hsq := HGq.out.size
          obtain ⟨y, hy⟩ : ∃ y, y = it zs k m := ⟨_, rfl⟩
          obtain ⟨bl, hbl⟩ : ∃ bl, bl = lsTo zs k m := ⟨_, rfl⟩
          rw [← hy] at HT HLn HNx hitn hne ⊢
          rw [← hbl] at HLn ⊢
          have hne' : ¬ ((y : Int) = (k : Int)) := by omega
          clear hy hbl hne
          go_wp2_with (at_builtin; refine wpList_append_own _ rfl _ _ 22 rfl wr.heap.size 3 i0' (.int .i64 0) 1 8 Try.underlying22 hi' hz0' hz1' hz2' rfl (by decide) _ m _ rfl (HO.out.alloc _) ⟨wq.heap.size, 0, none⟩ 1 1 [.int .i64 y] rfl ?qc1 ?qc2 ?qc3 ?qc4 ?qc5 ?qc6 ?_)
          case qc1 => rfl
          case qc2 => exact cell_one_at _ _ _
          case qc3 => intro u hu; simp only [List.mem_singleton] at hu; subst hu; rfl
          case qc4 => unfold maxLen; omega
          case qc5 => omega
          case qc6 => simp; omega
          intro v' w3 hown hgrow hnil
          have HO3 : Hid (w3.ownsRow wr.heap.size 3 1 v' (m + 1) ((cycTo zs k (m + 1)).map (Value.int .i64))) := Lib.hid (by rw [HT.out, List.map_append]; exact hown)
          have HG3 : Hid (Grew wr w3) := Lib.hid (Below.grown (HGq.out.alloc _) hgrow (by simp; omega) (fun b hb => (World.ownsRow.lt HO.out b hb).1))
          obtain ⟨g', off', e', hg', hcell⟩ := (HX.out.below (HG.out.trans HG3.out)).at hitn
          obtain ⟨rfl, rfl⟩ : g = g' ∧ off = off' := by injection e' with e'; injection e' with e1 e2; exact ⟨e1, e2⟩
          rw [HNx.out] at hcell
          clear hown hgrow hnil e'
          cases bl with
          | true =>
            rw [Bool.true_and] at HLn
            go_wp2
            go_roundg (L - (m + 1))
            case measure => omega
            case rel => exact ⟨m + 1, by omega, by omega, rfl, by rw [HLn.out]; exact congrArg Value.bool (decide_eq_decide.2 (by omega)), rfl, HO3, HG3⟩
          | false =>
            rw [Bool.false_and] at HLn
            go_wp2
            go_roundg (L - (m + 1))
            case measure => omega
            case rel => exact ⟨m + 1, by omega, by omega, rfl, by rw [HLn.out], rfl, HO3, HG3⟩
        · obtain rfl : m = L := by omega
          rw [HBack.out, HLs.out]
          have HOc : Hid (wq.ownsRow wr.heap.size 3 1 u7 m ((cyc zs k).map (Value.int .i64))) := Lib.hid (by rw [← HCy.out]; exact HO.out)
          obtain ⟨a2, c2, rfl, hbf⟩ := own_ints HOc.out
          have HB4 : Hid (BufK .i64 3 0 wq a2 (cyc zs k).length c2 (cyc zs k)) := Lib.hid (by rw [HCl.out]; exact hbf.mono (Nat.zero_le _))
          have HL4 := Lib.hid (HL.out.grow HGq.out)
          have HG4 := Lib.hid (HG.out.trans HGq.out)
          have hs4 := HG4.out.size
          clear hbf
          cases hls : lsB zs k with
          | false =>
            have HE := Lib.hid (cycs_no hls)
            rw [← HE.out] at HL4
            clear hls
            go_wp2
            go_roundw
            case rel => exact ⟨k + 1, by omega, by go_num, HL4, HG4⟩
            case measure => simp [intOf]; omega
          | true =>
            have HE := Lib.hid (cycs_yes hls)
            obtain ⟨A, C, h1, h2⟩ := HL4.out
            have H1 := Lib.hid h1
            have H2 := Lib.hid h2
            clear hls h1 h2
            go_wp2_with (at_builtin; refine wpList_append_own _ rfl _ _ 40 rfl w.heap.size 22 i0 (.slice none 0 0) 1 24 Try.underlying40 hi hz0 hz1 hz2 rfl (by decide) _ (cycs zs k).length _ rfl (H1.out.alloc _) ⟨wq.heap.size, 0, none⟩ 1 1 [.slice a2 m c2] rfl ?qc1 ?qc2 ?qc3 ?qc4 ?qc5 ?qc6 ?_)
            case qc1 => rfl
            case qc2 => exact cell_one_at _ _ _
            case qc3 => intro u hu; simp only [List.mem_singleton] at hu; subst hu; rfl
            case qc4 => unfold maxLen; omega
            case qc5 => omega
            case qc6 => simp; omega
            intro v' w5 hown hgrow hnil
            have g0 : Grew wq (wq.alloc (.cells #[.slice a2 m c2] 22)) := (Grew.refl _).alloc _
            have HL5 : Hid (Lots w.heap.size w5 v' (cycs zs (k + 1))) := Lib.hid (by
              rw [HE.out]
              exact Lots.snoc H1.out H2.out HB4.out g0 hgrow (by rw [HCl.out]; exact hown))
            have HG5 : Hid (Grew w w5) := Lib.hid (Below.grown (HG4.out.alloc _) hgrow (by simp; omega) (fun b hb => (World.ownsRow.lt H1.out b hb).1))
            clear hown hgrow hnil g0
            go_wp2_with fail
            go_roundw
            case measure => simp [intOf]; omega
            case rel => exact ⟨k + 1, by omega, by go_num, HL5, HG5⟩
    · obtain rfl : k = zs.length := by omega
      go_wp2
      go_ret2
      exact ⟨⟨_, rfl, HL.out⟩, HG.out⟩
end Go.Proofs.Ythhhbopigehbhaa
