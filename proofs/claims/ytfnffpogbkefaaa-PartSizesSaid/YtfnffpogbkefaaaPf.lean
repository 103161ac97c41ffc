/- The statement's alive. No condition. -/
import Derived.Test.YtfnffpogbkefaaaPe
namespace Go.Proofs.Ytfnffpogbkefaaa
open Go.RowKit

theorem equalp_n {n m : Nat} (a a' : Option Addr) (c c' : Nat) (xs ys : List Rg) (w : World) (hn : xs.length = n) (hm : ys.length = m) (hl : n ≤ 35184372088832) (hl2 : m ≤ 35184372088832) (hx : RdR w.heap.size w a xs) (hy : RdR w.heap.size w a' ys) :
    Calls Try.prog 22 #[.slice a n c, .slice a' m c'] w fun e w' => e = .returned (.bool (decide (xs = ys))) ∧ Grew w w' := by
  subst hn hm; exact equalp_any a a' c c' xs ys w hl hl2 hx hy
theorem equal_n {n m : Nat} (a a' : Option Addr) (c c' : Nat) (xs ys : List Rg) (w : World) (hn : xs.length = n) (hm : ys.length = m) (hl : n ≤ 35184372088832) (hl2 : m ≤ 35184372088832) (hx : RdR w.heap.size w a xs) (hy : RdR w.heap.size w a' ys) :
    Calls Try.prog 10 #[.slice a n c, .slice a' m c'] w fun e w' => e = .returned (.bool (decide (xs = ys))) ∧ Grew w w' := by
  subst hn hm; exact equal_any a a' c c' xs ys w hl hl2 hx hy
theorem covers_n {m : Nat} (n : Int) (a : Option Addr) (c : Nat) (rs : List Rg) (w : World) (hm : rs.length = m) (hl : m ≤ 35184372088832) (h : RdR w.heap.size w a rs) :
    Calls Try.prog 13 #[.int .i64 n, .slice a m c] w fun e w' => e = .returned (.bool (coversV n rs)) ∧ Grew w w' := by
  subst hm; exact covers_any n a c rs w hl h
theorem rcovers_n {m : Nat} (n : Int) (a : Option Addr) (c : Nat) (rs : List Rg) (w : World) (hm : rs.length = m) (hl : m ≤ 35184372088832) (h : RdR w.heap.size w a rs) :
    Calls Try.prog 14 #[.int .i64 n, .slice a m c] w fun e w' => e = .returned (.bool (coversV n rs)) ∧ w = w' := by
  subst hm; exact rcovers_any n a c rs w hl h
theorem of_n {m : Nat} (i : Int) (a : Option Addr) (c : Nat) (rs : List Rg) (w : World) (hm : rs.length = m) (hl : m ≤ 35184372088832) (h : RdR w.heap.size w a rs) :
    Calls Try.prog 18 #[.int .i64 i, .slice a m c] w fun e w' => e = .returned (.int .i64 (ofV i rs)) ∧ Grew w w' := by
  subst hm; exact of_any i a c rs w hl h
theorem back_n {m : Nat} (l : Option Addr) (c : Nat) (rs : List Rg) (w : World) (hm : rs.length = m) (hl : m ≤ 1073741824) (h : RdR w.heap.size w l rs) :
    Calls Try.prog 11 #[.slice l m c] w fun e w' => (∃ a' c', e = .returned (.slice a' m c') ∧ BufR 28 w.heap.size w' a' m c' rs) ∧ Grew w w' := by
  subst hm; exact back_any l c rs w hl h
theorem rd_lit2 (w : World) (a b c d : Int) (t : TypeId) : RdR (w.alloc (.cells #[.int .i64 a, .int .i64 b, .int .i64 c, .int .i64 d] t)).heap.size (w.alloc (.cells #[.int .i64 a, .int .i64 b, .int .i64 c, .int .i64 d] t)) (some ⟨w.heap.size, 0, none⟩) [(a, b), (c, d)] := by
  refine .inr ⟨w.heap.size, 0, rfl, by simp, fun j hj => ?_⟩
  have h : (w.alloc (.cells #[.int .i64 a, .int .i64 b, .int .i64 c, .int .i64 d] t)).heap[w.heap.size]? = some (.cells #[.int .i64 a, .int .i64 b, .int .i64 c, .int .i64 d] t) := (MapKept.heap_alloc w _).1
  unfold World.cell?
  rw [h]
  match j, hj with
  | 0, _ => exact ⟨rfl, rfl⟩
  | 1, _ => exact ⟨rfl, rfl⟩

theorem palive_any (w : World) : Calls Try.prog 8 #[] w fun e w' => e = .returned (.bool true) ∧ Grew w w' := by
  go_enter Try.func8, Try.ntmps8
  go_wp2_with fail
  refine (even_some 5 2 _ (by omega) (by omega) (by omega)).mono ?_
  rintro e w1 ⟨rfl, hb, g1⟩
  have HB := Lib.hid hb
  have HG := Lib.hid g1
  clear hb g1
  go_wp2_with fail
  have hl2 := rd_lit2 w1 0 3 3 5 39
  have gl : Grew w1 (w1.alloc (.cells #[.int .i64 0, .int .i64 3, .int .i64 3, .int .i64 5] 39)) := (Grew.refl w1).alloc _
  refine (equalp_n (n := 2) (m := 2) _ _ _ _ (evenV 5 2) [(0, 3), (3, 5)] _ rfl rfl (by omega) (by omega) (HB.out.rd.grow gl) hl2).mono ?_
  rintro e w2 ⟨rfl, g2⟩
  rw [show decide (evenV 5 2 = [(0, 3), (3, 5)]) = true from by decide]
  have HG2 := Lib.hid (HG.out.trans (gl.trans g2))
  clear hl2 gl g2
  go_wp2_with fail
  refine (count_some 5 2 _ (by omega) (by omega) (by omega) (by omega)).mono ?_
  rintro e w3 ⟨rfl, rfl⟩
  rw [show ((cntV 5 2 : Nat) : Int) = 3 from by decide]
  go_wp2_with fail
  go_ret
  exact ⟨rfl, HG2.out⟩
end Go.Proofs.Ytfnffpogbkefaaa
