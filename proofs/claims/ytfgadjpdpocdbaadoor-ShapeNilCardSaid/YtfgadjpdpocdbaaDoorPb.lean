/- Package part: Size, Of and Covers; the reference's Of and Covers; slices.Equal of ranges; back and given of the statement. Condition: a slice has at most 2^45 ranges. -/
import Derived.Test.YtfgadjpdpocdbaaDoorPa
import Derived.Deep.QuietTactic
import Derived.BigQuiet
namespace Go.Proofs.YtfgadjpdpocdbaaDoor
open Go.RowKit

theorem of1_any (lo hi i : Int) (b0 : Nat) (w : World) (hb0 : b0 < w.heap.size) (hi0 : w.cell? ⟨b0, 0, none⟩ = some (.int .i64 i)) :
    Calls Tryd.prog 40 #[.agg #[.int .i64 lo, .int .i64 hi], .pointer (some ⟨b0, 0, none⟩)] w fun e w' => e = .returned (.bool (decide (lo ≤ i) && decide (i < hi))) ∧ Grew w w' := by
  by_cases h1 : lo ≤ i
  · by_cases h2 : i < hi
    · go_enter Tryd.func40, Tryd.ntmps40
      go_wp2
      go_ret
      exact ⟨ret_bool (by simp [h1, h2]), (Grew.refl _).alloc _⟩
    · go_enter Tryd.func40, Tryd.ntmps40
      go_wp2
      go_ret
      exact ⟨ret_bool (by simp [h2]), (Grew.refl _).alloc _⟩
  · have HE : Hid ((decide (lo ≤ i) && decide (i < hi)) = false) := Lib.hid (by simp [h1])
    go_enter Tryd.func40, Tryd.ntmps40
    go_wp2
    go_ret
    exact ⟨ret_bool HE.out.symm, (Grew.refl _).alloc _⟩

theorem index_any (i : Int) (b0 : Nat) (a : Option Addr) (c : Nat) (rs : List Rg) (w : World) (hl : rs.length ≤ 35184372088832) (h : RdR w.heap.size w a rs) (hb0 : b0 < w.heap.size) (hi0 : w.cell? ⟨b0, 0, none⟩ = some (.int .i64 i)) :
    Calls Tryd.prog 39 #[.slice a rs.length c, .func (.func 40) #[] #[.pointer (some ⟨b0, 0, none⟩)]] w fun e w' => e = .returned (.int .i64 (ofV i rs)) ∧ Grew w w' := by
  have HX := Lib.hid h
  have HI := Lib.hid hi0
  clear h hi0
  go_enter Tryd.func39, Tryd.ntmps39
  go_wp2
  go_loopw [8] (fun x wr => ∃ k : Nat, k ≤ rs.length ∧ x = .int .i64 k ∧ Hid (noneV i rs k) ∧ Hid (Grew w wr)) (fun x _ => rs.length - (intOf x).toNat)
  case atStart => exact ⟨0, Nat.zero_le _, rfl, Lib.hid (fun j hj => by omega), Lib.hid (Grew.refl _)⟩
  case round =>
    obtain ⟨k, hk, rfl, HM, HG⟩ := hrel
    by_cases hlt : k < rs.length
    · obtain ⟨b, off, rfl, hb, hc1, hc2⟩ := (HX.out.grow HG.out).at hlt
      go_wp2_with fail
      refine (of1_any _ _ i b0 _ (Nat.lt_of_lt_of_le hb0 HG.out.size) ((Below.cell HG.out (p := ⟨b0, 0, none⟩) hb0).trans HI.out)).mono ?_
      rintro e w1 ⟨rfl, g1⟩
      have HG1 := Lib.hid (HG.out.trans g1)
      clear g1
      by_cases h1 : (rg rs k).1 ≤ i ∧ i < (rg rs k).2
      · have HE := Lib.hid (ofV_here hlt HM.out h1.1 h1.2)
        rw [decide_eq_true h1.1, decide_eq_true h1.2, Bool.and_self]
        clear h1
        go_wp2
        go_ret
        exact ⟨ret_int HE.out.symm, HG1.out⟩
      · have HM' : Hid (noneV i rs (k + 1)) := Lib.hid (HM.out.step h1)
        rw [show (decide ((rg rs k).1 ≤ i) && decide (i < (rg rs k).2)) = false from by simpa using h1]
        clear h1
        go_wp2
        go_round
        case rel => exact ⟨k + 1, by omega, by go_num, HM', HG1⟩
        case measure => simp [intOf]; omega
    · have HE := Lib.hid (ofV_none (show noneV i rs rs.length by rw [show rs.length = k from by omega]; exact HM.out))
      go_wp2
      go_ret
      exact ⟨ret_int HE.out.symm, HG.out⟩

theorem of_any (i : Int) (a : Option Addr) (c : Nat) (rs : List Rg) (w : World) (hl : rs.length ≤ 35184372088832) (h : RdR w.heap.size w a rs) :
    Calls Tryd.prog 33 #[.int .i64 i, .slice a rs.length c] w fun e w' => e = .returned (.int .i64 (ofV i rs)) ∧ Grew w w' := by
  have HX := Lib.hid h
  clear h
  go_enter Tryd.func33, Tryd.ntmps33
  go_wp2_with fail
  have g0 : Grew w (w.alloc (.cells #[.int .i64 i] 3)) := (Grew.refl w).alloc _
  refine (index_any i _ a c rs _ hl (HX.out.grow g0) (by simp) (by unfold World.cell?; rw [(MapKept.heap_alloc w _).1]; rfl)).mono ?_
  rintro e w1 ⟨rfl, g1⟩
  have HG := Lib.hid (g0.trans g1)
  clear g0 g1
  go_wp2
  go_ret
  exact ⟨rfl, HG.out⟩

theorem covers_any (n : Int) (a : Option Addr) (c : Nat) (rs : List Rg) (w : World) (hl : rs.length ≤ 35184372088832) (h : RdR w.heap.size w a rs) :
    Calls Tryd.prog 20 #[.int .i64 n, .slice a rs.length c] w fun e w' => e = .returned (.bool (coversV n rs)) ∧ Grew w w' := by
  have HX := Lib.hid h
  clear h
  go_enter Tryd.func20, Tryd.ntmps20
  go_wp2
  go_loopw [5, 10] (fun x y wr => ∃ k : Nat, k ≤ rs.length ∧ y = .int .i64 k ∧ x = .int .i64 (endV rs k) ∧ Hid (∀ j, j < k → stepB rs j = true) ∧ Hid (Grew w wr)) (fun _ x _ => rs.length - (intOf x).toNat)
  case atStart => exact ⟨0, Nat.zero_le _, rfl, rfl, Lib.hid (fun j hj => by omega), Lib.hid (Grew.refl _)⟩
  case round =>
    obtain ⟨k, hk, rfl, rfl, HM, HG⟩ := hrel
    by_cases hlt : k < rs.length
    · obtain ⟨b, off, rfl, hb, hc1, hc2⟩ := (HX.out.grow HG.out).at hlt
      have HN : Hid (endV rs (k + 1) = (rg rs k).2) := Lib.hid rfl
      by_cases h1 : (rg rs k).1 = endV rs k
      · by_cases h2 : endV rs k ≤ (rg rs k).2
        · have HM' : Hid (∀ j, j < k + 1 → stepB rs j = true) := Lib.hid (fun j hj => by
            by_cases e : j = k
            · subst e; simp [stepB, h1, h2]
            · exact HM.out j (by omega))
          generalize endV rs k = x at *
          generalize (rg rs k).1 = lo at hc1 h1
          generalize (rg rs k).2 = hi at hc2 h2 HN
          subst h1
          go_wp2
          go_round
          case rel => exact ⟨k + 1, by omega, by go_num, by rw [HN.out], HM', Lib.hid (HG.out.alloc _)⟩
          case measure => simp [intOf]; omega
        · have HE : Hid (coversV n rs = false) := Lib.hid (coversV_no hlt (by simp [stepB, h2]))
          generalize endV rs k = x at *
          generalize (rg rs k).1 = lo at hc1 h1
          generalize (rg rs k).2 = hi at hc2 h2 HN
          subst h1
          go_wp2
          go_ret
          exact ⟨ret_bool HE.out.symm, HG.out.alloc _⟩
      · have HE : Hid (coversV n rs = false) := Lib.hid (coversV_no hlt (by simp [stepB, h1]))
        generalize endV rs k = x at *
        generalize (rg rs k).1 = lo at hc1 h1
        generalize (rg rs k).2 = hi at hc2 HN
        go_wp2
        all_goals (go_ret; exact ⟨ret_bool HE.out.symm, HG.out.alloc _⟩)
    · have HE : Hid (coversV n rs = decide (endV rs k = n)) := Lib.hid (by unfold coversV; rw [show rs.length = k from by omega, chainB_all HM.out]; rfl)
      generalize endV rs k = x at *
      go_wp2
      go_ret
      exact ⟨ret_bool HE.out.symm, HG.out⟩

end Go.Proofs.YtfgadjpdpocdbaaDoor
