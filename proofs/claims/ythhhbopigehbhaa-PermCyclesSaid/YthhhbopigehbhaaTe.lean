/- The reference's place, Valid, Inverse and Compose. Condition: at most 2^44 numbers. -/
import Derived.Test.YthhhbopigehbhaaTd
namespace Go.Proofs.Ythhhbopigehbhaa
open Go.RowKit
set_option linter.unusedVariables false

/-- r is the first index of x, or -1. -/
def PlcAt (zs : List Int) (x r : Int) : Prop := (∃ k : Nat, k < zs.length ∧ el zs k = x ∧ r = k) ∨ ((∀ j, j < zs.length → el zs j ≠ x) ∧ r = -1)
set_option maxHeartbeats 1000000 in
theorem place_any (a : Option Addr) (c : Nat) (zs : List Int) (x : Int) (w : World) (hl : zs.length ≤ 17592186044416) (h : RdK .i64 w.heap.size w a zs) :
    Calls Try.prog 25 #[.slice a zs.length c, .int .i64 x] w fun e w' => (∃ r, e = .returned (.int .i64 r) ∧ PlcAt zs x r) ∧ w = w' := by
  have HX := Lib.hid h
  clear h
  go_enter Try.func25, Try.ntmps25
  go_wp2
  go_loopw [5] (fun i wr => ∃ k : Nat, k ≤ zs.length ∧ i = .int .i64 k ∧ Hid (∀ j, j < k → el zs j ≠ x) ∧ wr = w) (fun i _ => zs.length - (intOf i).toNat)
  case atStart => exact ⟨0, Nat.zero_le _, rfl, Lib.hid (fun j hj => by omega), rfl⟩
  case round =>
    obtain ⟨k, hk, rfl, HM, rfl⟩ := hrel
    by_cases hlt : k < zs.length
    · obtain ⟨b, off, rfl, hb, hc⟩ := HX.out.at hlt
      by_cases h1 : el zs k = x
      · have HE : Hid (PlcAt zs x k) := Lib.hid (.inl ⟨k, hlt, h1, rfl⟩)
        rw [h1] at hc
        clear h1
        go_wp2
        go_ret
        exact ⟨⟨_, rfl, HE.out⟩, rfl⟩
      · have HM' : Hid (∀ j, j < k + 1 → el zs j ≠ x) := Lib.hid (fun j hj => by
          by_cases e : j = k
          · subst e; exact h1
          · exact HM.out j (by omega))
        generalize el zs k = z at *
        go_wp2
        go_roundw
        case rel => exact ⟨k + 1, by omega, by go_num, HM', trivial⟩
        case measure => simp [intOf]; omega
    · have HE : Hid (PlcAt zs x (-1)) := Lib.hid (.inr ⟨by rw [show zs.length = k by omega]; exact HM.out, rfl⟩)
      go_wp2
      go_ret
      exact ⟨⟨_, rfl, HE.out⟩, rfl⟩

set_option maxHeartbeats 1000000 in
theorem rvalid_any (a : Option Addr) (c : Nat) (zs : List Int) (w : World) (hl : zs.length ≤ 17592186044416) (h : RdK .i64 w.heap.size w a zs) :
    Calls Try.prog 24 #[.slice a zs.length c] w fun e w' => e = .returned (.bool (validB zs)) ∧ w = w' := by
  have HX := Lib.hid h
  clear h
  go_enter Try.func24, Try.ntmps24
  go_wp2
  go_loopw [3] (fun i wr => ∃ k : Nat, k ≤ zs.length ∧ i = .int .i64 k ∧ Hid (∀ y : Nat, y < k → ∃ j, j < zs.length ∧ el zs j = y) ∧ wr = w) (fun i _ => zs.length - (intOf i).toNat)
  case atStart => exact ⟨0, Nat.zero_le _, rfl, Lib.hid (fun j hj => by omega), rfl⟩
  case round =>
    obtain ⟨k, hk, rfl, HM, rfl⟩ := hrel
    by_cases hlt : k < zs.length
    · go_wp2_with fail
      refine (place_any a c zs k _ hl HX.out).mono ?_
      rintro e w1 ⟨⟨r, rfl, hr⟩, rfl⟩
      rcases hr with ⟨j, hj, e, rfl⟩ | ⟨hn, rfl⟩
      · have HM' : Hid (∀ y : Nat, y < k + 1 → ∃ j, j < zs.length ∧ el zs j = y) := Lib.hid (fun y hy => by
          by_cases e' : y = k
          · subst e'; exact ⟨j, hj, e⟩
          · exact HM.out y (by omega))
        clear e
        go_wp2
        go_roundw
        case rel => exact ⟨k + 1, by omega, by go_num, HM', trivial⟩
        case measure => simp [intOf]; omega
      · have HE : Hid (validB zs = false) := Lib.hid (validB_no (fun hp => by
          obtain ⟨j, hj, e⟩ := sur_of_isP hp k hlt
          exact hn j hj e))
        clear hn
        go_wp2
        go_ret
        exact ⟨ret_bool HE.out.symm, rfl⟩
    · obtain rfl : k = zs.length := by omega
      have HE : Hid (validB zs = true) := Lib.hid (validB_yes (isP_of_sur HM.out))
      go_wp2
      go_ret
      exact ⟨ret_bool HE.out.symm, rfl⟩

theorem info_int6 : (Try.prog.info? 3).map (fun i => (i.zero, i.size, i.bytes)) = some (some (.int .i64 0), 1, 8) := by kernel_rfl
theorem place_yes {zs : List Int} (hp : Inj zs) {k : Nat} (hk : k < zs.length) {x r : Int} (e : el zs k = x) (h : PlcAt zs x r) : r = k := by
  rcases h with ⟨j, hj, e', rfl⟩ | ⟨hn, _⟩
  · rw [hp j k hj hk (e'.trans e.symm)]
  · exact absurd e (hn k hk)

set_option maxHeartbeats 1000000 in
theorem rinverse_any (a : Option Addr) (c : Nat) (zs : List Int) (w : World) (hl : zs.length ≤ 17592186044416) (h : RdK .i64 w.heap.size w a zs) :
    Calls Try.prog 15 #[.slice a zs.length c] w fun e w' => (∃ a' c', e = .returned (.tuple #[.slice a' (if validB zs then invL zs else []).length c', .bool (validB zs)]) ∧ BufK .i64 3 w.heap.size w' a' (if validB zs then invL zs else []).length c' (if validB zs then invL zs else [])) ∧ Grew w w' := by
  have HX := Lib.hid h
  have HV := Lib.hid (rvalid_any a c zs w hl h)
  cases hv : validB zs with
  | false =>
    rw [hv] at HV
    clear h hv
    go_enter Try.func15, Try.ntmps15
    go_wp2_with fail
    refine HV.out.mono ?_
    rintro e w1 ⟨rfl, rfl⟩
    go_wp2
    go_ret2
    exact ⟨⟨_, _, rfl, World.ownsRow_nil _ _ _ _⟩, Grew.refl _⟩
  | true =>
    have hp := validB_is hv
    rw [hv] at HV
    have HI := Lib.hid hp.2
    have HA : Hid (∀ y, y < zs.length → ∃ j, j < zs.length ∧ el zs j = y ∧ el (invL zs) y = j) := Lib.hid (fun y hy => invL_at hp hy)
    have HLn := Lib.hid (invL_len zs)
    obtain ⟨i0, hi, hz0, hz1, hz2⟩ := info_parts info_int6
    clear h hv hp
    simp only [if_true]
    go_enter Try.func15, Try.ntmps15
    go_wp2_with fail
    refine HV.out.mono ?_
    rintro e w1 ⟨rfl, rfl⟩
    go_wp2
    go_loopw [4, 5] (fun v i wr => ∃ k : Nat, k ≤ zs.length ∧ i = .int .i64 k ∧ Hid (wr.ownsRow w.heap.size 3 1 v k (((invL zs).take k).map (Value.int .i64))) ∧ Hid (Grew w wr)) (fun _ i _ => zs.length - (intOf i).toNat)
    case atStart => exact ⟨0, Nat.zero_le _, rfl, Lib.hid (World.ownsRow_nil _ _ _ _), Lib.hid (Grew.refl _)⟩
    case round =>
      obtain ⟨k, hk, rfl, HO, HG⟩ := hrel
      by_cases hlt : k < zs.length
      · go_wp2_with fail
        refine (place_any a c zs k _ hl (HX.out.grow HG.out)).mono ?_
        rintro e w1 ⟨⟨r, rfl, hr⟩, rfl⟩
        obtain ⟨j, hj, e1, e2⟩ := HA.out k hlt
        obtain rfl := place_yes HI.out hj e1 hr
        have HT := Lib.hid (take_el (zs := invL zs) (k := k) (by rw [HLn.out]; exact hlt))
        rw [e2] at HT
        have hsz := HG.out.size
        clear e1 e2 hr
        go_wp2_with (at_builtin; refine wpList_append_own _ rfl _ _ 22 rfl w.heap.size 3 i0 (.int .i64 0) 1 8 Try.underlying22 hi hz0 hz1 hz2 rfl (by decide) _ k _ rfl (HO.out.alloc _) ⟨wr.heap.size, 0, none⟩ 1 1 [.int .i64 j] rfl ?qc1 ?qc2 ?qc3 ?qc4 ?qc5 ?qc6 ?_)
        case qc1 => rfl
        case qc2 => exact cell_one_at _ _ _
        case qc3 => intro u hu; simp only [List.mem_singleton] at hu; subst hu; rfl
        case qc4 => unfold maxLen; omega
        case qc5 => omega
        case qc6 => simp; omega
        intro v' w2 hown hgrow hnil
        have HO2 : Hid (w2.ownsRow w.heap.size 3 1 v' (k + 1) (((invL zs).take (k + 1)).map (Value.int .i64))) := Lib.hid (by rw [HT.out, List.map_append, List.map_take]; exact hown)
        have HG2 : Hid (Grew w w2) := Lib.hid (Below.grown (HG.out.alloc _) hgrow (by simp; omega) (fun b hb => (World.ownsRow.lt HO.out b hb).1))
        clear hown hgrow hnil
        go_wp2_with fail
        go_roundw
        case measure => simp [intOf]; omega
        case rel => exact ⟨k + 1, by omega, by go_num, HO2, HG2⟩
      · obtain rfl : k = zs.length := by omega
        obtain ⟨a2, c2, rfl, hbf⟩ := own_ints HO.out
        have HBf := Lib.hid hbf
        clear hbf
        go_wp2
        go_ret2
        exact ⟨⟨a2, c2, by rw [HLn.out]; first | done | rfl, by rw [HLn.out]; have := HBf.out; rwa [List.take_of_length_le (by rw [HLn.out]; exact Nat.le_refl _)] at this⟩, HG.out⟩

set_option maxHeartbeats 1000000 in
theorem rcompose_no (a : Option Addr) (c : Nat) (ps : List Int) (a' : Option Addr) (c' : Nat) (qs : List Int) (w : World) (hl : ps.length ≤ 17592186044416) (hl' : qs.length ≤ 17592186044416) (h : RdK .i64 w.heap.size w a ps) (h' : RdK .i64 w.heap.size w a' qs) (hv : canB ps qs = false) :
    Calls Try.prog 18 #[.slice a ps.length c, .slice a' qs.length c'] w fun e w' => e = .returned (.tuple #[.slice none 0 0, .bool false]) ∧ w = w' := by
  have HV := Lib.hid (rvalid_any a c ps w hl h)
  have HV' := Lib.hid (rvalid_any a' c' qs w hl' h')
  clear h h'
  cases hp : validB ps with
  | false =>
    rw [hp] at HV
    clear hv hp
    go_enter Try.func18, Try.ntmps18
    go_wp2_with fail
    refine HV.out.mono ?_
    rintro e w1 ⟨rfl, rfl⟩
    go_wp2
    go_ret2
    exact ⟨rfl, rfl⟩
  | true =>
    cases hq : validB qs with
    | false =>
      rw [hp] at HV
      rw [hq] at HV'
      clear hv hp hq
      go_enter Try.func18, Try.ntmps18
      go_wp2_with fail
      refine HV.out.mono ?_
      rintro e w1 ⟨rfl, rfl⟩
      go_wp2_with fail
      refine HV'.out.mono ?_
      rintro e w1 ⟨rfl, rfl⟩
      go_wp2
      go_ret2
      exact ⟨rfl, rfl⟩
    | true =>
      have hne : ps.length ≠ qs.length := by
        intro e
        unfold canB at hv
        rw [hp, hq, decide_eq_true e] at hv
        cases hv
      rw [hp] at HV
      rw [hq] at HV'
      clear hv hp hq
      go_enter Try.func18, Try.ntmps18
      go_wp2_with fail
      refine HV.out.mono ?_
      rintro e w1 ⟨rfl, rfl⟩
      go_wp2_with fail
      refine HV'.out.mono ?_
      rintro e w1 ⟨rfl, rfl⟩
      go_wp2
      go_ret2
      exact ⟨rfl, rfl⟩

theorem rvalid_n {n : Nat} (a : Option Addr) (c : Nat) (zs : List Int) (w : World) (hz : zs.length = n) (hl : n ≤ 17592186044416) (h : RdK .i64 w.heap.size w a zs) :
    Calls Try.prog 24 #[.slice a n c] w fun e w' => e = .returned (.bool (validB zs)) ∧ w = w' := by
  subst hz; exact rvalid_any a c zs w hl h
set_option maxHeartbeats 1000000 in
theorem rcompose_yes (a : Option Addr) (c : Nat) (ps : List Int) (a' : Option Addr) (c' : Nat) (qs : List Int) (w : World) (hl : ps.length ≤ 17592186044416) (h : RdK .i64 w.heap.size w a ps) (h' : RdK .i64 w.heap.size w a' qs) (hlen : qs.length = ps.length) (hp : IsP ps) (hq : IsP qs) :
    Calls Try.prog 18 #[.slice a ps.length c, .slice a' ps.length c'] w fun e w' => (∃ a2 c2, e = .returned (.tuple #[.slice a2 ps.length c2, .bool true]) ∧ BufK .i64 3 w.heap.size w' a2 ps.length c2 (compL ps qs)) ∧ Grew w w' := by
  have HV := Lib.hid (rvalid_any a c ps w hl h)
  have HV' := Lib.hid (rvalid_n a' c' qs w hlen hl h')
  rw [validB_yes hp] at HV
  rw [validB_yes hq] at HV'
  have HX := Lib.hid h
  have HY := Lib.hid h'
  have HL := Lib.hid hlen
  have HLn : Hid ((compL ps qs).length = ps.length) := Lib.hid ((compL_len ps qs).trans hlen)
  have HQ : Hid (∀ j, j < ps.length → ∃ y : Nat, y < ps.length ∧ el qs j = y ∧ el (compL ps qs) j = el ps y) := Lib.hid (fun j hj => by
    obtain ⟨y, hy, e⟩ := isP_ran hq (j := j) (by omega)
    exact ⟨y, by omega, e, by rw [compL_el _ _ (by omega), e, Int.toNat_natCast]⟩)
  obtain ⟨i0, hi, hz0, hz1, hz2⟩ := info_parts info_int6
  clear h h' hlen hp hq
  go_enter Try.func18, Try.ntmps18
  go_wp2_with fail
  refine HV.out.mono ?_
  rintro e w1 ⟨rfl, rfl⟩
  go_wp2_with fail
  refine HV'.out.mono ?_
  rintro e w1 ⟨rfl, rfl⟩
  go_wp2
  go_loopw [6, 7] (fun v i wr => ∃ k : Nat, k ≤ ps.length ∧ i = .int .i64 k ∧ Hid (wr.ownsRow w.heap.size 3 1 v k (((compL ps qs).take k).map (Value.int .i64))) ∧ Hid (Grew w wr)) (fun _ i _ => ps.length - (intOf i).toNat)
  case atStart => exact ⟨0, Nat.zero_le _, rfl, Lib.hid (World.ownsRow_nil _ _ _ _), Lib.hid (Grew.refl _)⟩
  case round =>
    obtain ⟨k, hk, rfl, HO, HG⟩ := hrel
    by_cases hlt : k < ps.length
    · obtain ⟨y, hy, e1, e2⟩ := HQ.out k hlt
      obtain ⟨g, off, rfl, hg, hc⟩ := (HY.out.below HG.out).at (k := k) (by rw [HL.out]; exact hlt)
      obtain ⟨g2, off2, rfl, hg2, hc2⟩ := (HX.out.below HG.out).at hy
      have HT := Lib.hid (take_el (zs := compL ps qs) (k := k) (by rw [HLn.out]; exact hlt))
      rw [e2] at HT
      rw [e1] at hc
      have hsz := HG.out.size
      clear e1 e2
      generalize el ps y = z at *
      go_wp2_with (at_builtin; refine wpList_append_own _ rfl _ _ 22 rfl w.heap.size 3 i0 (.int .i64 0) 1 8 Try.underlying22 hi hz0 hz1 hz2 rfl (by decide) _ k _ rfl (HO.out.alloc _) ⟨wr.heap.size, 0, none⟩ 1 1 [.int .i64 z] rfl ?qc1 ?qc2 ?qc3 ?qc4 ?qc5 ?qc6 ?_)
      case qc1 => rfl
      case qc2 => exact cell_one_at _ _ _
      case qc3 => intro u hu; simp only [List.mem_singleton] at hu; subst hu; rfl
      case qc4 => unfold maxLen; omega
      case qc5 => omega
      case qc6 => simp; omega
      intro v' w2 hown hgrow hnil
      have HO2 : Hid (w2.ownsRow w.heap.size 3 1 v' (k + 1) (((compL ps qs).take (k + 1)).map (Value.int .i64))) := Lib.hid (by rw [HT.out, List.map_append, List.map_take]; exact hown)
      have HG2 : Hid (Grew w w2) := Lib.hid (Below.grown (HG.out.alloc _) hgrow (by simp; omega) (fun b hb => (World.ownsRow.lt HO.out b hb).1))
      clear hown hgrow hnil
      go_wp2_with fail
      go_roundw
      case measure => simp [intOf]; omega
      case rel => exact ⟨k + 1, by omega, by go_num, HO2, HG2⟩
    · obtain rfl : k = ps.length := by omega
      obtain ⟨a2, c2, rfl, hbf⟩ := own_ints HO.out
      have HBf := Lib.hid hbf
      clear hbf
      go_wp2
      go_ret2
      exact ⟨⟨a2, c2, rfl, by have := HBf.out; rwa [List.take_of_length_le (by rw [HLn.out]; exact Nat.le_refl _)] at this⟩, HG.out⟩
end Go.Proofs.Ythhhbopigehbhaa
