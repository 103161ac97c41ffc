/- The reference's matrices: Right, At, New, Same, Few; the statements' own given and back. Conditions: elements are within the bounds of int64; at most 2^40 elements. -/
import Derived.Test.YtklledigcabllaaUb
namespace Go.Proofs.Ytklledigcabllaa
open Go.RowKit

theorem rightB_cases (R C : Int) (n : Nat) : (R < 1 ∧ rightB R C n = false) ∨ (1 ≤ R ∧ 1048576 < R ∧ rightB R C n = false) ∨ (1 ≤ R ∧ R ≤ 1048576 ∧ C < 1 ∧ rightB R C n = false) ∨ (1 ≤ R ∧ R ≤ 1048576 ∧ 1 ≤ C ∧ 1048576 < C ∧ rightB R C n = false) ∨
    ∃ r c : Nat, R = r ∧ C = c ∧ 1 ≤ r ∧ r ≤ 1048576 ∧ 1 ≤ c ∧ c ≤ 1048576 ∧ rightB R C n = decide (r * c = n) := by
  by_cases h1 : 1 ≤ R
  · by_cases h2 : R ≤ 1048576
    · by_cases h3 : 1 ≤ C
      · by_cases h4 : C ≤ 1048576
        · obtain ⟨r, rfl⟩ : ∃ k : Nat, R = (k : Int) := ⟨R.toNat, by omega⟩
          obtain ⟨c, rfl⟩ : ∃ k : Nat, C = (k : Int) := ⟨C.toNat, by omega⟩
          refine .inr (.inr (.inr (.inr ⟨r, c, rfl, rfl, by omega, by omega, by omega, by omega, ?_⟩)))
          unfold rightB
          rw [szB_of (by omega) (by omega), szB_of (by omega) (by omega), Bool.true_and, Bool.true_and, ← Int.natCast_mul]
          exact decide_eq_decide.2 Int.ofNat_inj
        · refine .inr (.inr (.inr (.inl ⟨h1, h2, h3, by omega, ?_⟩)))
          unfold rightB szB
          rw [decide_eq_false h4, Bool.and_false, Bool.false_and, Bool.and_false]
      · refine .inr (.inr (.inl ⟨h1, h2, by omega, ?_⟩))
        unfold rightB szB
        rw [decide_eq_false h3, Bool.false_and, Bool.false_and, Bool.and_false]
    · refine .inr (.inl ⟨h1, by omega, ?_⟩)
      unfold rightB szB
      rw [decide_eq_false h2, Bool.and_false, Bool.false_and]
  · refine .inl ⟨by omega, ?_⟩
    unfold rightB szB
    rw [decide_eq_false h1, Bool.false_and, Bool.false_and]

set_option maxHeartbeats 1000000 in
theorem rright_any (R C : Int) (a : Option Addr) (n cap : Nat) (w : World) (hn : n ≤ 35184372088832) :
    Calls Try.prog 12 #[.agg #[.int .i64 R, .int .i64 C, .slice a n cap]] w fun e w' => e = .returned (.bool (rightB R C n)) ∧ Grew w w' := by
  have HG : Hid (Grew w (w.alloc (.cells #[.int .i64 R, .int .i64 C, .slice a n cap] 24))) := Lib.hid ((Grew.refl w).alloc _)
  rcases rightB_cases R C n with ⟨h1, hb⟩ | ⟨h1, h2, hb⟩ | ⟨h1, h2, h3, hb⟩ | ⟨h1, h2, h3, h4, hb⟩ | ⟨r, c, rfl, rfl, h1, h2, h3, h4, hb⟩
  · have HB := Lib.hid hb
    clear hb
    go_enter Try.func12, Try.ntmps12
    go_wp2
    go_ret
    exact ⟨by rw [HB.out]; rfl, HG.out⟩
  · have HB := Lib.hid hb
    clear hb
    go_enter Try.func12, Try.ntmps12
    go_wp2
    go_ret
    exact ⟨by rw [HB.out]; rfl, HG.out⟩
  · have HB := Lib.hid hb
    clear hb
    go_enter Try.func12, Try.ntmps12
    go_wp2
    go_ret
    exact ⟨by rw [HB.out]; rfl, HG.out⟩
  · have HB := Lib.hid hb
    clear hb
    go_enter Try.func12, Try.ntmps12
    go_wp2
    go_ret
    exact ⟨by rw [HB.out]; rfl, HG.out⟩
  · have hle : r * c ≤ 1048576 * 1048576 := Nat.mul_le_mul h2 h4
    have HB := Lib.hid hb
    obtain ⟨m, hm⟩ : ∃ m, r * c = m := ⟨_, rfl⟩
    have hmi : (r : Int) * (c : Int) = (m : Int) := by rw [← hm]; exact_mod_cast rfl
    rw [hm] at hle HB
    clear hb hm
    by_cases he : m = n
    · subst he
      go_enter Try.func12, Try.ntmps12
      go_wp2
      go_ret
      exact ⟨by rw [HB.out]; simp, HG.out⟩
    · have hne : ((n : Int) == (m : Int)) = false := by rw [beq_eq_false_iff_ne]; omega
      have hne2 : decide ((n : Int) = (m : Int)) = false := decide_eq_false (by omega)
      have HE := Lib.hid he
      clear he
      go_enter Try.func12, Try.ntmps12
      go_wp2
      go_ret
      exact ⟨by rw [HB.out, decide_eq_false HE.out]; first | rfl | simp [hne, hne2], HG.out⟩

set_option maxHeartbeats 2000000 in
theorem rat_any (R C r c : Int) (a : Option Addr) (cap : Nat) (zs : List Int) (w : World) (hl : zs.length ≤ 35184372088832) (h : Rd w.heap.size w a zs) :
    Calls Try.prog 17 #[.agg #[.int .i64 R, .int .i64 C, .slice a zs.length cap], .int .i64 r, .int .i64 c] w fun e w' => e = .returned (.int .i64 (atV zs R C r c)) ∧ Grew w w' := by
  have HG : Hid (Grew w (w.alloc (.cells #[.int .i64 R, .int .i64 C, .slice a zs.length cap] 24))) := Lib.hid ((Grew.refl w).alloc _)
  have HX := Lib.hid h
  have HT3 := Lib.hid (Three.new w 24 (.int .i64 R) (.int .i64 C) (.slice a zs.length cap))
  clear h
  cases hR : rightB R C zs.length with
  | false =>
    have HR := Lib.hid hR
    have HV : Hid (atV zs R C r c = 0) := Lib.hid (by unfold atV; rw [if_neg (fun h => by rw [hR] at h; exact Bool.noConfusion h.1)])
    clear hR
    go_enter Try.func17, Try.ntmps17
    go_wp2_with fail
    refine (rright_any R C a zs.length cap _ hl).mono ?_
    rintro e w1 ⟨rfl, g1⟩
    rw [HR.out]
    have HG1 := Lib.hid (HG.out.trans g1)
    clear g1
    go_wp2
    go_ret
    exact ⟨by rw [HV.out]; rfl, HG1.out⟩
  | true =>
    have HR := Lib.hid hR
    obtain ⟨R, C, rfl, rfl, R1, R2, C1, C2, hn⟩ := rightB_nat hR
    by_cases hin : 0 ≤ r ∧ r < R ∧ 0 ≤ c ∧ c < C
    · obtain ⟨h1, h2, h3, h4⟩ := hin
      obtain ⟨r, rfl⟩ : ∃ k : Nat, r = (k : Int) := ⟨r.toNat, by omega⟩
      obtain ⟨c, rfl⟩ : ∃ k : Nat, c = (k : Int) := ⟨c.toNat, by omega⟩
      have hr : r < R := by omega
      have hc : c < C := by omega
      have hlt : r * C + c < zs.length := by rw [hn]; exact place_lt hr hc
      have HV := Lib.hid (atV_in hR hr hc)
      obtain ⟨f, hf⟩ : ∃ f, r * C = f := ⟨_, rfl⟩
      rw [hf] at hlt HV
      have hfi : (r : Int) * (C : Int) = (f : Int) := by rw [← hf]; exact_mod_cast rfl
      obtain ⟨b, off, rfl, _, hcell⟩ := (HX.out.grow HG.out).at hlt
      have HC := Lib.hid hcell
      clear hR hcell hf hn h1 h3
      go_enter Try.func17, Try.ntmps17
      go_wp2_with fail
      refine (rright_any R C _ zs.length cap _ hl).mono ?_
      rintro e w1 ⟨rfl, g1⟩
      rw [HR.out]
      have HG1 := Lib.hid (HG.out.trans g1)
      have ht3 := HT3.out.grow g1
      have c0 := ht3.c0
      have c1 := ht3.c1
      have c2 := ht3.c2
      have hc1 : w1.cell? ⟨b, off + (f + c), none⟩ = some (.int .i64 (el zs (f + c))) := (Below.cell g1 (p := ⟨b, off + (f + c), none⟩) (World.block_lt_of_cell? _ _ HC.out)).trans HC.out
      clear g1 ht3
      generalize el zs (f + c) = x at *
      go_wp2
      go_ret
      exact ⟨by rw [HV.out]; rfl, HG1.out⟩
    · have HV : Hid (atV zs R C r c = 0) := Lib.hid (by unfold atV; rw [if_neg (fun h => hin h.2)])
      have hcs : r < 0 ∨ (0 ≤ r ∧ (R : Int) ≤ r) ∨ (0 ≤ r ∧ r < R ∧ c < 0) ∨ (0 ≤ r ∧ r < R ∧ 0 ≤ c ∧ (C : Int) ≤ c) := by omega
      clear hR hin hn
      rcases hcs with h1 | ⟨h0, h1⟩ | ⟨h0, h1, h2⟩ | ⟨h0, h1, h2, h3⟩ <;>
      · go_enter Try.func17, Try.ntmps17
        go_wp2_with fail
        refine (rright_any R C a zs.length cap _ hl).mono ?_
        rintro e w1 ⟨rfl, g1⟩
        rw [HR.out]
        have HG1 := Lib.hid (HG.out.trans g1)
        have ht3 := HT3.out.grow g1
        have c0 := ht3.c0
        have c1 := ht3.c1
        have c2 := ht3.c2
        clear g1 ht3
        go_wp2
        go_ret
        exact ⟨by rw [HV.out]; rfl, HG1.out⟩

theorem few_any (R C : Int) (a : Option Addr) (n cap : Nat) (w : World) :
    Calls Try.prog 8 #[.agg #[.int .i64 R, .int .i64 C, .slice a n cap]] w fun e w' => e = .returned (.bool (decide (n ≤ 600))) ∧ Grew w w' := by
  have HG : Hid (Grew w (w.alloc (.cells #[.int .i64 R, .int .i64 C, .slice a n cap] 24))) := Lib.hid ((Grew.refl w).alloc _)
  by_cases h : n ≤ 600
  · rw [decide_eq_true h]
    go_enter Try.func8, Try.ntmps8
    go_wp2
    go_ret
    exact ⟨by simp; omega, HG.out⟩
  · rw [decide_eq_false h]
    go_enter Try.func8, Try.ntmps8
    go_wp2
    go_ret
    exact ⟨by simp; omega, HG.out⟩

set_option maxHeartbeats 2000000 in
theorem msame_any (R C : Int) (a a' : Option Addr) (cap cap' : Nat) (zs : List Int) (w : World) (hl : zs.length ≤ 35184372088832) (h : Rd w.heap.size w a zs) (h' : Rd w.heap.size w a' zs) :
    Calls Try.prog 14 #[.agg #[.int .i64 R, .int .i64 C, .slice a zs.length cap], .agg #[.int .i64 R, .int .i64 C, .slice a' zs.length cap']] w fun e w' => e = .returned (.bool true) ∧ Grew w w' := by
  have hg : Grew w ((w.alloc (.cells #[.int .i64 R, .int .i64 C, .slice a zs.length cap] 24)).alloc (.cells #[.int .i64 R, .int .i64 C, .slice a' zs.length cap'] 24)) := ((Grew.refl w).alloc _).alloc _
  have HX := Lib.hid (h.grow hg)
  have HY := Lib.hid (h'.grow hg)
  have HT := Lib.hid ((Three.new w 24 (.int .i64 R) (.int .i64 C) (.slice a zs.length cap)).alloc (.cells #[.int .i64 R, .int .i64 C, .slice a' zs.length cap'] 24))
  have ht := Three.new (w.alloc (.cells #[.int .i64 R, .int .i64 C, .slice a zs.length cap] 24)) 24 (.int .i64 R) (.int .i64 C) (.slice a' zs.length cap')
  rw [World.size_alloc] at ht
  have HT' := Lib.hid ht
  have HG := Lib.hid hg
  clear h h' hg ht
  go_enter Try.func14, Try.ntmps14
  go_wp2_with fail
  generalize (w.alloc (.cells #[.int .i64 R, .int .i64 C, .slice a zs.length cap] 24)).alloc (.cells #[.int .i64 R, .int .i64 C, .slice a' zs.length cap'] 24) = W at *
  go_loopw [5] (fun i wr => ∃ k q : Nat, k ≤ zs.length ∧ i = .int .i64 k ∧ wr = W.drewN q) (fun i _ => zs.length - (intOf i).toNat)
  case atStart => exact ⟨0, 0, Nat.zero_le _, rfl, rfl⟩
  case round =>
    obtain ⟨k, q, hk, rfl, rfl⟩ := hrel
    have c2 := HT.out.c2
    have d2 := HT'.out.c2
    by_cases hlt : k < zs.length
    · obtain ⟨b, off, rfl, _, hc⟩ := HX.out.at hlt
      obtain ⟨b', off', rfl, _, hc'⟩ := HY.out.at hlt
      generalize el zs k = x at *
      have hne : (x != x) = false := bne_self_eq_false x
      go_wp2
      go_quiet (fail)
      go_wp2
      go_roundw
      case rel => exact ⟨k + 1, _, by omega, by go_num, by first | rfl | exact World.drewN_drewN _ _ _⟩
      case measure => simp [intOf]; omega
    · obtain rfl : k = zs.length := by omega
      go_wp2
      go_ret
      exact ⟨rfl, HG.out.drewN _⟩

theorem given_any (R C : Int) (a : Option Addr) (n cap : Nat) (w : World) :
    Calls Try.prog 10 #[.agg #[.int .i64 R, .int .i64 C, .slice a n cap]] w fun e w' => e = .returned (.agg #[.int .i64 R, .int .i64 C, .slice a n cap]) ∧ Grew w w' := by
  have hg : Grew w ((w.alloc (.cells #[.int .i64 R, .int .i64 C, .slice a n cap] 24)).alloc (.cells #[.int .i64 R, .int .i64 C, .slice a n cap] 29)) := ((Grew.refl w).alloc _).alloc _
  have ht := Three.new (w.alloc (.cells #[.int .i64 R, .int .i64 C, .slice a n cap] 24)) 29 (.int .i64 R) (.int .i64 C) (.slice a n cap)
  rw [World.size_alloc] at ht
  have HG := Lib.hid hg
  have HT := Lib.hid ht
  clear hg ht
  go_enter Try.func10, Try.ntmps10
  go_wp2
  generalize (w.alloc (.cells #[.int .i64 R, .int .i64 C, .slice a n cap] 24)).alloc (.cells #[.int .i64 R, .int .i64 C, .slice a n cap] 29) = W at *
  have c0 := HT.out.c0
  have c1 := HT.out.c1
  have c2 := HT.out.c2
  exact bodyPost_ret (v := .agg #[.int .i64 R, .int .i64 C, .slice a n cap]) (by simp [results, Try.results10, go_sem, c0, c1, c2]) rfl ⟨rfl, HG.out⟩

theorem back_any (R C : Int) (a : Option Addr) (n cap : Nat) (w : World) :
    Calls Try.prog 15 #[.agg #[.int .i64 R, .int .i64 C, .slice a n cap]] w fun e w' => e = .returned (.agg #[.int .i64 R, .int .i64 C, .slice a n cap]) ∧ Grew w w' := by
  have hg : Grew w ((w.alloc (.cells #[.int .i64 R, .int .i64 C, .slice a n cap] 29)).alloc (.cells #[.int .i64 R, .int .i64 C, .slice a n cap] 24)) := ((Grew.refl w).alloc _).alloc _
  have ht := Three.new (w.alloc (.cells #[.int .i64 R, .int .i64 C, .slice a n cap] 29)) 24 (.int .i64 R) (.int .i64 C) (.slice a n cap)
  rw [World.size_alloc] at ht
  have HG := Lib.hid hg
  have HT := Lib.hid ht
  clear hg ht
  go_enter Try.func15, Try.ntmps15
  go_wp2
  generalize (w.alloc (.cells #[.int .i64 R, .int .i64 C, .slice a n cap] 29)).alloc (.cells #[.int .i64 R, .int .i64 C, .slice a n cap] 24) = W at *
  have c0 := HT.out.c0
  have c1 := HT.out.c1
  have c2 := HT.out.c2
  exact bodyPost_ret (v := .agg #[.int .i64 R, .int .i64 C, .slice a n cap]) (by simp [results, Try.results15, go_sem, c0, c1, c2]) rfl ⟨rfl, HG.out⟩

set_option maxHeartbeats 1000000 in
theorem rnew_yes {R C n : Nat} (w : World) (hn : R * C = n) (h1 : 1 ≤ R) (h2 : 1 ≤ C) (h3 : n ≤ 1048576) :
    Calls Try.prog 19 #[.int .i64 R, .int .i64 C] w fun e w' => (∃ g, e = .returned (.agg #[.int .i64 R, .int .i64 C, .slice (some ⟨g, 0, none⟩) n n]) ∧ Buf (w.heap.size + 1) w' (some ⟨g, 0, none⟩) n n (List.replicate n 0)) ∧ Grew w w' := by
  have hni : (R : Int) * (C : Int) = (n : Int) := by rw [← hn]; exact_mod_cast rfl
  have hRb : R ≤ 1048576 := Nat.le_trans (Nat.le_mul_of_pos_right R h2) (by omega)
  have hCb : C ≤ 1048576 := Nat.le_trans (Nat.le_mul_of_pos_left C h1) (by omega)
  have hmk := run_make_row' (P := Try.prog) 22 2 (.int .i64 0) 8 Try.underlying22 (by kernel_rfl) rfl .i64 .i64 n (by omega) (by omega)
  have hb := Buf.made (w.alloc (.cells #[.int .i64 R, .int .i64 C, .slice (some ⟨w.heap.size + 1, 0, none⟩) n n] 24)) n (by omega)
  rw [World.size_alloc] at hb
  have HB := Lib.hid hb
  have HG : Hid (Grew w ((w.alloc (.cells #[.int .i64 R, .int .i64 C, .slice (some ⟨w.heap.size + 1, 0, none⟩) n n] 24)).alloc (.cells (madeCells #[.int .i64 0] n) 2))) := Lib.hid (((Grew.refl w).alloc _).alloc _)
  have HT := Lib.hid ((Three.new w 24 (.int .i64 R) (.int .i64 C) (.slice (some ⟨w.heap.size + 1, 0, none⟩) n n)).alloc (.cells (madeCells #[.int .i64 0] n) 2))
  clear hn hb
  go_enter Try.func19, Try.ntmps19
  go_wp2
  generalize (w.alloc (.cells #[.int .i64 R, .int .i64 C, .slice (some ⟨w.heap.size + 1, 0, none⟩) n n] 24)).alloc (.cells (madeCells #[.int .i64 0] n) 2) = W at *
  have c0 := HT.out.c0
  have c1 := HT.out.c1
  have c2 := HT.out.c2
  exact bodyPost_ret (v := .agg #[.int .i64 R, .int .i64 C, .slice (some ⟨w.heap.size + 1, 0, none⟩) n n]) (by simp [results, Try.results19, go_sem, c0, c1, c2]) rfl ⟨⟨_, rfl, HB.out⟩, HG.out⟩

set_option maxHeartbeats 1000000 in
theorem rnew_no {R C : Int} (w : World) (R1 : R ≤ 1048576) (C1 : C ≤ 1048576) (h : newB R C = false) :
    Calls Try.prog 19 #[.int .i64 R, .int .i64 C] w fun e w' => e = .returned (.agg #[.int .i64 0, .int .i64 0, .slice none 0 0]) ∧ Grew w w' := by
  have HG0 : Hid (Grew w (w.alloc (.cells #[.int .i64 0, .int .i64 0, .slice none 0 0] 24))) := Lib.hid ((Grew.refl w).alloc _)
  have HT0 := Lib.hid (Three.new w 24 (.int .i64 0) (.int .i64 0) (.slice none 0 0))
  have hcs : R < 1 ∨ (1 ≤ R ∧ C < 1) ∨ (1 ≤ R ∧ 1 ≤ C ∧ 1048576 < R * C) := by
    unfold newB at h
    by_cases h1 : 1 ≤ R
    · by_cases h2 : 1 ≤ C
      · rw [decide_eq_true h1, decide_eq_true h2, Bool.true_and, Bool.true_and, decide_eq_false_iff_not] at h
        exact .inr (.inr ⟨h1, h2, by omega⟩)
      · exact .inr (.inl ⟨h1, by omega⟩)
    · exact .inl (by omega)
  clear h
  rcases hcs with h1 | ⟨h1, h2⟩ | ⟨h1, h2, h3⟩
  · go_enter Try.func19, Try.ntmps19
    go_wp2
    generalize w.alloc (.cells #[.int .i64 0, .int .i64 0, .slice none 0 0] 24) = W at *
    have c0 := HT0.out.c0
    have c1 := HT0.out.c1
    have c2 := HT0.out.c2
    exact bodyPost_ret (v := .agg #[.int .i64 0, .int .i64 0, .slice none 0 0]) (by simp [results, Try.results19, go_sem, c0, c1, c2]) rfl ⟨rfl, HG0.out⟩
  · go_enter Try.func19, Try.ntmps19
    go_wp2
    generalize w.alloc (.cells #[.int .i64 0, .int .i64 0, .slice none 0 0] 24) = W at *
    have c0 := HT0.out.c0
    have c1 := HT0.out.c1
    have c2 := HT0.out.c2
    exact bodyPost_ret (v := .agg #[.int .i64 0, .int .i64 0, .slice none 0 0]) (by simp [results, Try.results19, go_sem, c0, c1, c2]) rfl ⟨rfl, HG0.out⟩
  · obtain ⟨r, rfl⟩ : ∃ k : Nat, R = (k : Int) := ⟨R.toNat, by omega⟩
    obtain ⟨c, rfl⟩ : ∃ k : Nat, C = (k : Int) := ⟨C.toNat, by omega⟩
    obtain ⟨m, hm⟩ : ∃ m, r * c = m := ⟨_, rfl⟩
    have hni : (r : Int) * (c : Int) = (m : Int) := by rw [← hm]; exact_mod_cast rfl
    have h4 : 1048576 < m := by rw [hni] at h3; omega
    have h5 : m ≤ 1048576 * 1048576 := by rw [← hm]; exact Nat.mul_le_mul (by omega) (by omega)
    clear hm h3
    go_enter Try.func19, Try.ntmps19
    go_wp2
    generalize w.alloc (.cells #[.int .i64 0, .int .i64 0, .slice none 0 0] 24) = W at *
    have c0 := HT0.out.c0
    have c1 := HT0.out.c1
    have c2 := HT0.out.c2
    exact bodyPost_ret (v := .agg #[.int .i64 0, .int .i64 0, .slice none 0 0]) (by simp [results, Try.results19, go_sem, c0, c1, c2]) rfl ⟨rfl, HG0.out⟩
end Go.Proofs.Ytklledigcabllaa
