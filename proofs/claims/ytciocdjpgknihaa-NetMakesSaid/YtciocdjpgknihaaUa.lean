/- Matrices of package mat and of the reference: what makes one right, a row, an element, New, Of, Same. Conditions: elements are within the bounds of int64; where memory is made, at most 2^40 elements. -/
import Derived.Test.YtciocdjpgknihaaVo
import Derived.Test.YtciocdjpgknihaaTx
import Derived.Deep.QuietTactic
import Derived.BigQuiet
namespace Go.Proofs.Ytciocdjpgknihaa
open Go.RowKit


/-- Three stores into one block leave another one. -/
theorem heap_three (W : World) (g b : Nat) (x y z : Value) (h : b ≠ g) : (((W.setCell ⟨g, 0, none⟩ x).setCell ⟨g, 1, none⟩ y).setCell ⟨g, 2, none⟩ z).heap[b]? = W.heap[b]? :=
  (heap_setCell_other _ ⟨g, 2, none⟩ b z h).trans ((heap_setCell_other _ ⟨g, 1, none⟩ b y h).trans (heap_setCell_other _ ⟨g, 0, none⟩ b x h))
theorem Below.three {B g : Nat} {w W : World} (h : Below B w W) (hB : B ≤ g) (x y z : Value) : Below B w (((W.setCell ⟨g, 0, none⟩ x).setCell ⟨g, 1, none⟩ y).setCell ⟨g, 2, none⟩ z) :=
  ((h.setCell (p := ⟨g, 0, none⟩) hB x).setCell (p := ⟨g, 1, none⟩) hB y).setCell (p := ⟨g, 2, none⟩) hB z
theorem Grew.three {g : Nat} {w W : World} (h : Grew w W) (hB : w.heap.size ≤ g) (x y z : Value) : Grew w (((W.setCell ⟨g, 0, none⟩ x).setCell ⟨g, 1, none⟩ y).setCell ⟨g, 2, none⟩ z) := Go.Proofs.Ytciocdjpgknihaa.Below.three h hB x y z
/-- A slice of the call's own is left by what is written into another block that lies below all that it may lie in. -/
theorem Buf.asideBy {B g n cap : Nat} {W W' : World} {a : Option Addr} {zs : List Int} (h : Buf B W a n cap zs) (hg : g < B) (hk : W.grownBy W' (some g)) : Buf B W' a n cap zs := by
  refine ⟨h.1, ?_⟩
  rcases h.2 with e | ⟨b, c, cur, e, hb, hc, rest⟩
  · exact .inl e
  · refine .inr ⟨b, c, cur, e, hb, ?_, rest⟩
    have hlt : b < W.heap.size := by
      rcases Nat.lt_or_ge b W.heap.size with h' | h'
      · exact h'
      · rw [Array.getElem?_eq_none h'] at hc; cases hc
    rw [hk.block b hlt (fun e => by injection e with e; omega)]; exact hc
theorem grownBy_three (W : World) (g : Nat) (x y z : Value) : W.grownBy (((W.setCell ⟨g, 0, none⟩ x).setCell ⟨g, 1, none⟩ y).setCell ⟨g, 2, none⟩ z) (some g) :=
  grownBy_trans (grownBy_trans (grownBy_setCell1 W ⟨g, 0, none⟩ x) (grownBy_setCell1 _ ⟨g, 1, none⟩ y)) (grownBy_setCell1 _ ⟨g, 2, none⟩ z)
theorem Buf.aside {B g n cap : Nat} {W : World} {a : Option Addr} {zs : List Int} (h : Buf B W a n cap zs) (hg : g < B) (x y z : Value) : Buf B (((W.setCell ⟨g, 0, none⟩ x).setCell ⟨g, 1, none⟩ y).setCell ⟨g, 2, none⟩ z) a n cap zs :=
  h.asideBy hg (grownBy_three W g x y z)

/-- From 1 to 2^20. -/
def szB (n : Int) : Bool := decide (1 ≤ n) && decide (n ≤ 1048576)
def rightB (R C : Int) (n : Nat) : Bool := szB R && (szB C && decide (R * C = (n : Int)))
theorem szB_nat {n : Int} (h : szB n = true) : ∃ r : Nat, n = (r : Int) ∧ 1 ≤ r ∧ r ≤ 1048576 := by
  unfold szB at h
  rw [Bool.and_eq_true, decide_eq_true_eq, decide_eq_true_eq] at h
  exact ⟨n.toNat, by omega, by omega, by omega⟩
theorem szB_of {r : Nat} (h1 : 1 ≤ r) (h2 : r ≤ 1048576) : szB (r : Int) = true := by
  unfold szB
  rw [Bool.and_eq_true, decide_eq_true_eq, decide_eq_true_eq]
  omega
theorem rightB_nat {R C : Int} {n : Nat} (h : rightB R C n = true) : ∃ r c : Nat, R = (r : Int) ∧ C = (c : Int) ∧ 1 ≤ r ∧ r ≤ 1048576 ∧ 1 ≤ c ∧ c ≤ 1048576 ∧ n = r * c := by
  unfold rightB at h
  rw [Bool.and_eq_true, Bool.and_eq_true, decide_eq_true_eq] at h
  obtain ⟨hR, hC, hm⟩ := h
  obtain ⟨r, rfl, r1, r2⟩ := szB_nat hR
  obtain ⟨c, rfl, c1, c2⟩ := szB_nat hC
  refine ⟨r, c, rfl, rfl, r1, r2, c1, c2, ?_⟩
  exact_mod_cast hm.symm
theorem rightB_of {r c : Nat} (r1 : 1 ≤ r) (r2 : r ≤ 1048576) (c1 : 1 ≤ c) (c2 : c ≤ 1048576) : rightB (r : Int) (c : Int) (r * c) = true := by
  unfold rightB
  rw [szB_of r1 r2, szB_of c1 c2, Bool.true_and, Bool.true_and, decide_eq_true_eq]
  exact_mod_cast rfl

theorem sized_any (n : Int) (w : World) :
    Calls Try.prog 90 #[.int .i64 n] w fun e w' => e = .returned (.bool (szB n)) ∧ w = w' := by
  have HS : Hid (szB n = (decide (1 ≤ n) && decide (n ≤ 1048576))) := Lib.hid rfl
  by_cases h1 : 1 ≤ n
  · by_cases h2 : n ≤ 1048576
    · go_enter Try.func90, Try.ntmps90
      go_wp2
      go_ret
      exact ⟨by rw [HS.out, decide_eq_true h1, decide_eq_true h2]; rfl, rfl⟩
    · go_enter Try.func90, Try.ntmps90
      go_wp2
      go_ret
      exact ⟨by rw [HS.out, decide_eq_true h1, decide_eq_false (by omega)]; rfl, rfl⟩
  · go_enter Try.func90, Try.ntmps90
    go_wp2
    go_ret
    exact ⟨by rw [HS.out, decide_eq_false (by omega)]; rfl, rfl⟩

set_option maxHeartbeats 1000000 in
theorem right_any (R C : Int) (a : Option Addr) (n cap : Nat) (w : World) :
    Calls Try.prog 76 #[.agg #[.int .i64 R, .int .i64 C, .slice a n cap]] w fun e w' => e = .returned (.bool (rightB R C n)) ∧ Grew w w' := by
  have HG : Hid (Grew w (w.alloc (.cells #[.int .i64 R, .int .i64 C, .slice a n cap] 68))) := Lib.hid ((Grew.refl w).alloc _)
  have HB : Hid (rightB R C n = (szB R && (szB C && decide (R * C = (n : Int))))) := Lib.hid rfl
  cases hR : szB R with
  | false =>
    have HR := Lib.hid hR
    clear hR
    go_enter Try.func76, Try.ntmps76
    go_wp2_with fail
    refine (sized_any R _).mono ?_
    rintro e w1 ⟨rfl, rfl⟩
    rw [HR.out]
    go_wp2
    go_ret
    exact ⟨by rw [HB.out, HR.out]; rfl, HG.out⟩
  | true =>
    have HR := Lib.hid hR
    cases hC : szB C with
    | false =>
      have HC := Lib.hid hC
      clear hR hC
      go_enter Try.func76, Try.ntmps76
      go_wp2_with fail
      refine (sized_any R _).mono ?_
      rintro e w1 ⟨rfl, rfl⟩
      rw [HR.out]
      go_wp2_with fail
      refine (sized_any C _).mono ?_
      rintro e w1 ⟨rfl, rfl⟩
      rw [HC.out]
      go_wp2
      go_ret
      exact ⟨by rw [HB.out, HR.out, HC.out]; rfl, HG.out⟩
    | true =>
      have HC := Lib.hid hC
      obtain ⟨r, rfl, r1, r2⟩ := szB_nat hR
      obtain ⟨c, rfl, c1, c2⟩ := szB_nat hC
      have hle : r * c ≤ 1048576 * 1048576 := Nat.mul_le_mul r2 c2
      obtain ⟨m, hm⟩ : ∃ m, r * c = m := ⟨_, rfl⟩
      have hmi : (r : Int) * (c : Int) = (m : Int) := by rw [← hm]; exact_mod_cast rfl
      rw [hm] at hle
      clear hR hC hm
      go_enter Try.func76, Try.ntmps76
      go_wp2_with fail
      refine (sized_any r _).mono ?_
      rintro e w1 ⟨rfl, rfl⟩
      rw [HR.out]
      go_wp2_with fail
      refine (sized_any c _).mono ?_
      rintro e w1 ⟨rfl, rfl⟩
      rw [HC.out]
      go_wp2_with fail
      go_ret
      exact ⟨by rw [HB.out, HR.out, HC.out, hmi]; rfl, HG.out⟩
end Go.Proofs.Ytciocdjpgknihaa
