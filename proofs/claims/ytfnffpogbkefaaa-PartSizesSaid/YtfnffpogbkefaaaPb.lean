/- Package part: Size, Of and Covers; the reference's Of and Covers; slices.Equal of ranges; back and given of the statement. Condition: a slice has at most 2^45 ranges. -/
import Derived.Test.YtfnffpogbkefaaaPa
import Derived.Deep.QuietTactic
import Derived.BigQuiet
namespace Go.Proofs.Ytfnffpogbkefaaa
open Go.RowKit

theorem robf_any (i : Int) (a : Option Addr) (c : Nat) (rs : List Rg) (w : World) (hl : rs.length ≤ 35184372088832) (h : RdR w.heap.size w a rs) :
    Calls Try.prog 20 #[.int .i64 i, .slice a rs.length c] w fun e w' => e = .returned (.int .i64 (ofV i rs)) ∧ w = w' := by
  have HX := Lib.hid h
  clear h
  go_enter Try.func20, Try.ntmps20
  go_wp2
  go_loop [5] (fun x => ∃ k : Nat, k ≤ rs.length ∧ x = .int .i64 k ∧ Hid (noneV i rs k)) (fun x => rs.length - (intOf x).toNat)
  case atStart => exact ⟨0, Nat.zero_le _, rfl, Lib.hid (fun j hj => by omega)⟩
  case round =>
    obtain ⟨k, hk, rfl, HM⟩ := hrel
    by_cases hlt : k < rs.length
    · obtain ⟨b, off, rfl, hb, hc1, hc2⟩ := HX.out.at hlt
      by_cases h1 : (rg rs k).1 ≤ i
      · by_cases h2 : i < (rg rs k).2
        · have HE := Lib.hid (ofV_here hlt HM.out h1 h2)
          generalize (rg rs k).1 = lo at hc1 h1
          generalize (rg rs k).2 = hi at hc2 h2
          go_wp2
          go_ret
          exact ⟨ret_int HE.out.symm, rfl⟩
        · have HM' : Hid (noneV i rs (k + 1)) := Lib.hid (HM.out.step fun h => h2 h.2)
          generalize (rg rs k).1 = lo at hc1 h1
          generalize (rg rs k).2 = hi at hc2 h2
          go_wp2
          go_round
          case rel => exact ⟨k + 1, by omega, by go_num, HM'⟩
          case measure => simp [intOf]; omega
      · have HM' : Hid (noneV i rs (k + 1)) := Lib.hid (HM.out.step fun h => h1 h.1)
        generalize (rg rs k).1 = lo at hc1 h1
        generalize (rg rs k).2 = hi at hc2
        go_wp2
        go_round
        case rel => exact ⟨k + 1, by omega, by go_num, HM'⟩
        case measure => simp [intOf]; omega
    · have HE := Lib.hid (ofV_none (show noneV i rs rs.length by rw [show rs.length = k from by omega]; exact HM.out))
      go_wp2
      go_ret
      exact ⟨ret_int HE.out.symm, rfl⟩

theorem of1_any (lo hi i : Int) (b0 : Nat) (w : World) (hb0 : b0 < w.heap.size) (hi0 : w.cell? ⟨b0, 0, none⟩ = some (.int .i64 i)) :
    Calls Try.prog 24 #[.agg #[.int .i64 lo, .int .i64 hi], .pointer (some ⟨b0, 0, none⟩)] w fun e w' => e = .returned (.bool (decide (lo ≤ i) && decide (i < hi))) ∧ Grew w w' := by
  by_cases h1 : lo ≤ i
  · by_cases h2 : i < hi
    · go_enter Try.func24, Try.ntmps24
      go_wp2
      go_ret
      exact ⟨ret_bool (by simp [h1, h2]), (Grew.refl _).alloc _⟩
    · go_enter Try.func24, Try.ntmps24
      go_wp2
      go_ret
      exact ⟨ret_bool (by simp [h2]), (Grew.refl _).alloc _⟩
  · have HE : Hid ((decide (lo ≤ i) && decide (i < hi)) = false) := Lib.hid (by simp [h1])
    go_enter Try.func24, Try.ntmps24
    go_wp2
    go_ret
    exact ⟨ret_bool HE.out.symm, (Grew.refl _).alloc _⟩

theorem index_any (i : Int) (b0 : Nat) (a : Option Addr) (c : Nat) (rs : List Rg) (w : World) (hl : rs.length ≤ 35184372088832) (h : RdR w.heap.size w a rs) (hb0 : b0 < w.heap.size) (hi0 : w.cell? ⟨b0, 0, none⟩ = some (.int .i64 i)) :
    Calls Try.prog 23 #[.slice a rs.length c, .func (.func 24) #[] #[.pointer (some ⟨b0, 0, none⟩)]] w fun e w' => e = .returned (.int .i64 (ofV i rs)) ∧ Grew w w' := by
  have HX := Lib.hid h
  have HI := Lib.hid hi0
  clear h hi0
  go_enter Try.func23, Try.ntmps23
  go_wp2
  go_loopw [8] (fun x wr => ∃ k : Nat, k ≤ rs.length ∧ x = .int .i64 k ∧ Hid (noneV i rs k) ∧ Hid (Grew w wr)) (fun x _ => rs.length - (intOf x).toNat)
  case atStart => exact ⟨0, Nat.zero_le _, rfl, Lib.hid (fun j hj => by omega), Lib.hid (Grew.refl _)⟩
  case round =>
    obtain ⟨k, hk, rfl, HM, HG⟩ := hrel
    by_cases hlt : k < rs.length
    · obtain ⟨b, off, rfl, hb, hc1, hc2⟩ := (HX.out.grow HG.out).at hlt
      go_wp2_with fail
      refine (of1_any _ _ i b0 _ (Nat.lt_of_lt_of_le hb0 HG.out.size) ((Below.cell HG.out (p := ⟨b0, 0, none⟩) hb0).trans HI.out)).mono ?_
      rintro e w1 ⟨rfl, g1⟩
      have HG1 := Lib.hid (HG.out.trans g1)
      clear g1
      by_cases h1 : (rg rs k).1 ≤ i ∧ i < (rg rs k).2
      · have HE := Lib.hid (ofV_here hlt HM.out h1.1 h1.2)
        rw [decide_eq_true h1.1, decide_eq_true h1.2, Bool.and_self]
        clear h1
        go_wp2
        go_ret
        exact ⟨ret_int HE.out.symm, HG1.out⟩
      · have HM' : Hid (noneV i rs (k + 1)) := Lib.hid (HM.out.step h1)
        rw [show (decide ((rg rs k).1 ≤ i) && decide (i < (rg rs k).2)) = false from by simpa using h1]
        clear h1
        go_wp2
        go_round
        case rel => exact ⟨k + 1, by omega, by go_num, HM', HG1⟩
        case measure => simp [intOf]; omega
    · have HE := Lib.hid (ofV_none (show noneV i rs rs.length by rw [show rs.length = k from by omega]; exact HM.out))
      go_wp2
      go_ret
      exact ⟨ret_int HE.out.symm, HG.out⟩

theorem of_any (i : Int) (a : Option Addr) (c : Nat) (rs : List Rg) (w : World) (hl : rs.length ≤ 35184372088832) (h : RdR w.heap.size w a rs) :
    Calls Try.prog 18 #[.int .i64 i, .slice a rs.length c] w fun e w' => e = .returned (.int .i64 (ofV i rs)) ∧ Grew w w' := by
  have HX := Lib.hid h
  clear h
  go_enter Try.func18, Try.ntmps18
  go_wp2_with fail
  have g0 : Grew w (w.alloc (.cells #[.int .i64 i] 3)) := (Grew.refl w).alloc _
  refine (index_any i _ a c rs _ hl (HX.out.grow g0) (by simp) (by unfold World.cell?; rw [(MapKept.heap_alloc w _).1]; rfl)).mono ?_
  rintro e w1 ⟨rfl, g1⟩
  have HG := Lib.hid (g0.trans g1)
  clear g0 g1
  go_wp2
  go_ret
  exact ⟨rfl, HG.out⟩

theorem size_any (lo hi : Int) (w : World) (h : hi - lo < 9223372036854775808) :
    Calls Try.prog 21 #[.agg #[.int .i64 lo, .int .i64 hi]] w fun e w' => e = .returned (.int .i64 (max lo hi - lo)) ∧ Grew w w' := by
  go_enter Try.func21, Try.ntmps21
  go_wp2
  all_goals (go_ret; exact ⟨ret_int (by omega), (Grew.refl _).alloc _⟩)

theorem rcovers_any (n : Int) (a : Option Addr) (c : Nat) (rs : List Rg) (w : World) (hl : rs.length ≤ 35184372088832) (h : RdR w.heap.size w a rs) :
    Calls Try.prog 14 #[.int .i64 n, .slice a rs.length c] w fun e w' => e = .returned (.bool (coversV n rs)) ∧ w = w' := by
  have HX := Lib.hid h
  clear h
  go_enter Try.func14, Try.ntmps14
  go_wp2
  go_loop [5, 6] (fun x y => ∃ k : Nat, k ≤ rs.length ∧ y = .int .i64 k ∧ x = .int .i64 (endV rs k) ∧ Hid (∀ j, j < k → stepB rs j = true)) (fun _ x => rs.length - (intOf x).toNat)
  case atStart => exact ⟨0, Nat.zero_le _, rfl, rfl, Lib.hid (fun j hj => by omega)⟩
  case round =>
    obtain ⟨k, hk, rfl, rfl, HM⟩ := hrel
    by_cases hlt : k < rs.length
    · obtain ⟨b, off, rfl, hb, hc1, hc2⟩ := HX.out.at hlt
      have HN : Hid (endV rs (k + 1) = (rg rs k).2) := Lib.hid rfl
      by_cases h1 : (rg rs k).1 = endV rs k
      · by_cases h2 : endV rs k ≤ (rg rs k).2
        · have HM' : Hid (∀ j, j < k + 1 → stepB rs j = true) := Lib.hid (fun j hj => by
            by_cases e : j = k
            · subst e; simp [stepB, h1, h2]
            · exact HM.out j (by omega))
          generalize endV rs k = x at *
          generalize (rg rs k).1 = lo at hc1 h1
          generalize (rg rs k).2 = hi at hc2 h2 HN
          subst h1
          go_wp2
          go_round
          case rel => exact ⟨k + 1, by omega, by go_num, by rw [HN.out], HM'⟩
          case measure => simp [intOf]; omega
        · have HE : Hid (coversV n rs = false) := Lib.hid (coversV_no hlt (by simp [stepB, h2]))
          generalize endV rs k = x at *
          generalize (rg rs k).1 = lo at hc1 h1
          generalize (rg rs k).2 = hi at hc2 h2 HN
          subst h1
          go_wp2
          go_ret
          exact ⟨ret_bool HE.out.symm, rfl⟩
      · have HE : Hid (coversV n rs = false) := Lib.hid (coversV_no hlt (by simp [stepB, h1]))
        generalize endV rs k = x at *
        generalize (rg rs k).1 = lo at hc1 h1
        generalize (rg rs k).2 = hi at hc2 HN
        go_wp2
        all_goals (go_ret; exact ⟨ret_bool HE.out.symm, rfl⟩)
    · have HE : Hid (coversV n rs = decide (endV rs k = n)) := Lib.hid (by unfold coversV; rw [show rs.length = k from by omega, chainB_all HM.out]; rfl)
      generalize endV rs k = x at *
      go_wp2
      go_ret
      exact ⟨ret_bool HE.out.symm, rfl⟩

theorem covers_any (n : Int) (a : Option Addr) (c : Nat) (rs : List Rg) (w : World) (hl : rs.length ≤ 35184372088832) (h : RdR w.heap.size w a rs) :
    Calls Try.prog 13 #[.int .i64 n, .slice a rs.length c] w fun e w' => e = .returned (.bool (coversV n rs)) ∧ Grew w w' := by
  have HX := Lib.hid h
  clear h
  go_enter Try.func13, Try.ntmps13
  go_wp2
  go_loopw [5, 10] (fun x y wr => ∃ k : Nat, k ≤ rs.length ∧ y = .int .i64 k ∧ x = .int .i64 (endV rs k) ∧ Hid (∀ j, j < k → stepB rs j = true) ∧ Hid (Grew w wr)) (fun _ x _ => rs.length - (intOf x).toNat)
  case atStart => exact ⟨0, Nat.zero_le _, rfl, rfl, Lib.hid (fun j hj => by omega), Lib.hid (Grew.refl _)⟩
  case round =>
    obtain ⟨k, hk, rfl, rfl, HM, HG⟩ := hrel
    by_cases hlt : k < rs.length
    · obtain ⟨b, off, rfl, hb, hc1, hc2⟩ := (HX.out.grow HG.out).at hlt
      have HN : Hid (endV rs (k + 1) = (rg rs k).2) := Lib.hid rfl
      by_cases h1 : (rg rs k).1 = endV rs k
      · by_cases h2 : endV rs k ≤ (rg rs k).2
        · have HM' : Hid (∀ j, j < k + 1 → stepB rs j = true) := Lib.hid (fun j hj => by
            by_cases e : j = k
            · subst e; simp [stepB, h1, h2]
            · exact HM.out j (by omega))
          generalize endV rs k = x at *
          generalize (rg rs k).1 = lo at hc1 h1
          generalize (rg rs k).2 = hi at hc2 h2 HN
          subst h1
          go_wp2
          go_round
          case rel => exact ⟨k + 1, by omega, by go_num, by rw [HN.out], HM', Lib.hid (HG.out.alloc _)⟩
          case measure => simp [intOf]; omega
        · have HE : Hid (coversV n rs = false) := Lib.hid (coversV_no hlt (by simp [stepB, h2]))
          generalize endV rs k = x at *
          generalize (rg rs k).1 = lo at hc1 h1
          generalize (rg rs k).2 = hi at hc2 h2 HN
          subst h1
          go_wp2
          go_ret
          exact ⟨ret_bool HE.out.symm, HG.out.alloc _⟩
      · have HE : Hid (coversV n rs = false) := Lib.hid (coversV_no hlt (by simp [stepB, h1]))
        generalize endV rs k = x at *
        generalize (rg rs k).1 = lo at hc1 h1
        generalize (rg rs k).2 = hi at hc2 HN
        go_wp2
        all_goals (go_ret; exact ⟨ret_bool HE.out.symm, HG.out.alloc _⟩)
    · have HE : Hid (coversV n rs = decide (endV rs k = n)) := Lib.hid (by unfold coversV; rw [show rs.length = k from by omega, chainB_all HM.out]; rfl)
      generalize endV rs k = x at *
      go_wp2
      go_ret
      exact ⟨ret_bool HE.out.symm, HG.out⟩

theorem equal_any (a a' : Option Addr) (c c' : Nat) (xs ys : List Rg) (w : World) (hl : xs.length ≤ 35184372088832) (hl2 : ys.length ≤ 35184372088832) (hx : RdR w.heap.size w a xs) (hy : RdR w.heap.size w a' ys) :
    Calls Try.prog 10 #[.slice a xs.length c, .slice a' ys.length c'] w fun e w' => e = .returned (.bool (decide (xs = ys))) ∧ Grew w w' := by
  by_cases hlen : xs.length = ys.length
  · have HX := Lib.hid hx
    have HY := Lib.hid hy
    clear hx hy
    rw [← hlen] 
    have HL := Lib.hid hlen
    clear hlen
    go_enter Try.func10, Try.ntmps10
    go_wp2
    go_loopw [13] (fun i wr => ∃ k : Nat, k ≤ xs.length ∧ i = .int .i64 k ∧ Hid (Grew w wr) ∧ Hid (∀ j, j < k → rg xs j = rg ys j)) (fun i _ => xs.length - (intOf i).toNat)
    case atStart => exact ⟨0, Nat.zero_le _, rfl, Lib.hid (Grew.refl _), Lib.hid (fun j hj => by omega)⟩
    case round =>
      obtain ⟨k, hk, rfl, HG, HM⟩ := hrel
      by_cases hlt : k < xs.length
      · obtain ⟨b, off, rfl, hb, hc1, hc2⟩ := (HX.out.grow HG.out).at hlt
        obtain ⟨b', off', rfl, hb', hd1, hd2⟩ := (HY.out.grow HG.out).at (k := k) (by rw [← HL.out]; exact hlt)
        by_cases h1 : (rg xs k).1 = (rg ys k).1
        · by_cases h2 : (rg xs k).2 = (rg ys k).2
          · have HM' : Hid (∀ j, j < k + 1 → rg xs j = rg ys j) := Lib.hid (fun j hj => by
              by_cases e : j = k
              · subst e; exact Prod.ext h1 h2
              · exact HM.out j (by omega))
            rw [← h1] at hd1
            rw [← h2] at hd2
            generalize (rg xs k).1 = lo at *
            generalize (rg xs k).2 = hi at *
            clear h1 h2
            go_wp2
            go_quiet (fail)
            go_wp2
            go_roundw
            case rel => exact ⟨k + 1, by omega, by go_num, Lib.hid (HG.out.drewN _), HM'⟩
            case measure => simp [intOf]; omega
          · have HE : Hid (decide (xs = ys) = false) := Lib.hid (decide_eq_false (by rintro rfl; exact h2 rfl))
            rw [← h1] at hd1
            generalize (rg xs k).1 = lo at *
            generalize (rg xs k).2 = hi at *
            generalize (rg ys k).2 = hi' at *
            clear h1
            go_wp2
            go_quiet (fail)
            go_wp2
            go_ret
            exact ⟨ret_bool HE.out.symm, HG.out.drewN _⟩
        · have HE : Hid (decide (xs = ys) = false) := Lib.hid (decide_eq_false (by rintro rfl; exact h1 rfl))
          generalize (rg xs k).1 = lo at *
          generalize (rg ys k).1 = lo' at *
          generalize (rg xs k).2 = hi at *
          generalize (rg ys k).2 = hi' at *
          go_wp2
          go_quiet (fail)
          go_wp2
          go_ret
          exact ⟨ret_bool HE.out.symm, HG.out.drewN _⟩
      · have HE : Hid (xs = ys) := Lib.hid (rg_ext HL.out (by rw [show xs.length = k from by omega]; exact HM.out))
        go_wp2
        go_ret
        exact ⟨ret_bool (decide_eq_true HE.out).symm, HG.out⟩
  · have HE : Hid (decide (xs = ys) = false) := Lib.hid (decide_eq_false (by rintro rfl; exact hlen rfl))
    go_enter Try.func10, Try.ntmps10
    go_wp2
    go_ret
    exact ⟨ret_bool HE.out.symm, Grew.refl _⟩

theorem equalp_any (a a' : Option Addr) (c c' : Nat) (xs ys : List Rg) (w : World) (hl : xs.length ≤ 35184372088832) (hl2 : ys.length ≤ 35184372088832) (hx : RdR w.heap.size w a xs) (hy : RdR w.heap.size w a' ys) :
    Calls Try.prog 22 #[.slice a xs.length c, .slice a' ys.length c'] w fun e w' => e = .returned (.bool (decide (xs = ys))) ∧ Grew w w' := by
  by_cases hlen : xs.length = ys.length
  · have HX := Lib.hid hx
    have HY := Lib.hid hy
    clear hx hy
    rw [← hlen] 
    have HL := Lib.hid hlen
    clear hlen
    go_enter Try.func22, Try.ntmps22
    go_wp2
    go_loopw [13] (fun i wr => ∃ k : Nat, k ≤ xs.length ∧ i = .int .i64 k ∧ Hid (Grew w wr) ∧ Hid (∀ j, j < k → rg xs j = rg ys j)) (fun i _ => xs.length - (intOf i).toNat)
    case atStart => exact ⟨0, Nat.zero_le _, rfl, Lib.hid (Grew.refl _), Lib.hid (fun j hj => by omega)⟩
    case round =>
      obtain ⟨k, hk, rfl, HG, HM⟩ := hrel
      by_cases hlt : k < xs.length
      · obtain ⟨b, off, rfl, hb, hc1, hc2⟩ := (HX.out.grow HG.out).at hlt
        obtain ⟨b', off', rfl, hb', hd1, hd2⟩ := (HY.out.grow HG.out).at (k := k) (by rw [← HL.out]; exact hlt)
        by_cases h1 : (rg xs k).1 = (rg ys k).1
        · by_cases h2 : (rg xs k).2 = (rg ys k).2
          · have HM' : Hid (∀ j, j < k + 1 → rg xs j = rg ys j) := Lib.hid (fun j hj => by
              by_cases e : j = k
              · subst e; exact Prod.ext h1 h2
              · exact HM.out j (by omega))
            rw [← h1] at hd1
            rw [← h2] at hd2
            generalize (rg xs k).1 = lo at *
            generalize (rg xs k).2 = hi at *
            clear h1 h2
            go_wp2
            go_quiet (fail)
            go_wp2
            go_roundw
            case rel => exact ⟨k + 1, by omega, by go_num, Lib.hid (HG.out.drewN _), HM'⟩
            case measure => simp [intOf]; omega
          · have HE : Hid (decide (xs = ys) = false) := Lib.hid (decide_eq_false (by rintro rfl; exact h2 rfl))
            rw [← h1] at hd1
            generalize (rg xs k).1 = lo at *
            generalize (rg xs k).2 = hi at *
            generalize (rg ys k).2 = hi' at *
            clear h1
            go_wp2
            go_quiet (fail)
            go_wp2
            go_ret
            exact ⟨ret_bool HE.out.symm, HG.out.drewN _⟩
        · have HE : Hid (decide (xs = ys) = false) := Lib.hid (decide_eq_false (by rintro rfl; exact h1 rfl))
          generalize (rg xs k).1 = lo at *
          generalize (rg ys k).1 = lo' at *
          generalize (rg xs k).2 = hi at *
          generalize (rg ys k).2 = hi' at *
          go_wp2
          go_quiet (fail)
          go_wp2
          go_ret
          exact ⟨ret_bool HE.out.symm, HG.out.drewN _⟩
      · have HE : Hid (xs = ys) := Lib.hid (rg_ext HL.out (by rw [show xs.length = k from by omega]; exact HM.out))
        go_wp2
        go_ret
        exact ⟨ret_bool (decide_eq_true HE.out).symm, HG.out⟩
  · have HE : Hid (decide (xs = ys) = false) := Lib.hid (decide_eq_false (by rintro rfl; exact hlen rfl))
    go_enter Try.func22, Try.ntmps22
    go_wp2
    go_ret
    exact ⟨ret_bool HE.out.symm, Grew.refl _⟩
end Go.Proofs.Ytfnffpogbkefaaa
