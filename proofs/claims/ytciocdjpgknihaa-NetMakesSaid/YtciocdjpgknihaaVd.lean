/- Lists of vectors in memory: which can be read (Heads, Bodies); Few of the reference; slices.IndexFunc and ContainsFunc with the method value misfits: whether some vector has another length. Condition: at most 2^45 vectors. -/
import Derived.Test.YtciocdjpgknihaaVc
namespace Go.Proofs.Ytciocdjpgknihaa
open Go.RowKit

/-- A vector in memory: where it lies, its capacity, its elements. -/
structure Vec where
  a : Option Addr
  cap : Nat
  zs : List Int
instance : Inhabited Vec := ⟨⟨none, 0, []⟩⟩
/-- The vector at an index. -/
def va (vs : List Vec) (k : Nat) : Vec := vs[k]?.getD default
theorem va_lt {vs : List Vec} {k : Nat} (h : k < vs.length) : vs[k]? = some (va vs k) := by unfold va; rw [List.getElem?_eq_getElem h]; rfl
/-- The slices of a list can be read; the elements of each can be read. -/
def Heads (B : Nat) (W : World) (l : Option Addr) (vs : List Vec) : Prop :=
  vs = [] ∨ ∃ b off, l = some ⟨b, off, none⟩ ∧ b < B ∧ ∀ j, j < vs.length → W.cell? ⟨b, off + j, none⟩ = some (.slice (va vs j).a (va vs j).zs.length (va vs j).cap)
def Bodies (B : Nat) (W : World) (vs : List Vec) : Prop := ∀ j, j < vs.length → Rd B W (va vs j).a (va vs j).zs
def Short (vs : List Vec) : Prop := ∀ j, j < vs.length → (va vs j).zs.length ≤ 35184372088832
section
variable {B B' k : Nat} {W W' : World} {l : Option Addr} {vs : List Vec}
theorem Heads.at (h : Heads B W l vs) (hk : k < vs.length) : ∃ b off, l = some ⟨b, off, none⟩ ∧ b < B ∧ W.cell? ⟨b, off + k, none⟩ = some (.slice (va vs k).a (va vs k).zs.length (va vs k).cap) := by
  rcases h with rfl | ⟨b, off, ha, hb, hc⟩
  · simp at hk
  · exact ⟨b, off, ha, hb, hc k hk⟩
theorem Heads.below (h : Heads B W l vs) (g : Below B W W') : Heads B W' l vs := by
  rcases h with h | ⟨b, off, ha, hb, hc⟩
  · exact .inl h
  · exact .inr ⟨b, off, ha, hb, fun j hj => (g.cell (p := ⟨b, off + j, none⟩) hb).trans (hc j hj)⟩
theorem Heads.mono (h : Heads B W l vs) (hB : B ≤ B') : Heads B' W l vs := by
  rcases h with h | ⟨b, off, ha, hb, hc⟩
  · exact .inl h
  · exact .inr ⟨b, off, ha, Nat.lt_of_lt_of_le hb hB, hc⟩
theorem Heads.grow (h : Heads W.heap.size W l vs) (g : Grew W W') : Heads W'.heap.size W' l vs := (Heads.below h g).mono g.size
theorem Bodies.below (h : Bodies B W vs) (g : Below B W W') : Bodies B W' vs := fun j hj => (h j hj).below g
theorem Bodies.mono (h : Bodies B W vs) (hB : B ≤ B') : Bodies B' W vs := fun j hj => (h j hj).mono hB
theorem Bodies.grow (h : Bodies W.heap.size W vs) (g : Grew W W') : Bodies W'.heap.size W' vs := (Bodies.below h g).mono g.size
end

/-- How many elements the first vectors have, 2000 at most of each. -/
def fewN (vs : List Vec) : Nat → Nat
  | 0 => 0
  | k + 1 => fewN vs k + min (va vs k).zs.length 2000
def fewB (vs : List Vec) : Bool := decide (vs.length ≤ 60) && decide (fewN vs (min vs.length 100) ≤ 1500)
theorem fewN_le (vs : List Vec) : ∀ k, fewN vs k ≤ 2000 * k
  | 0 => by simp [fewN]
  | k + 1 => by have := fewN_le vs k; simp only [fewN]; omega
theorem fewN_mono (vs : List Vec) (k : Nat) : ∀ m, fewN vs k ≤ fewN vs (k + m)
  | 0 => Nat.le_refl _
  | m + 1 => by have := fewN_mono vs k m; rw [← Nat.add_assoc]; simp only [fewN]; omega
theorem few_yes {vs : List Vec} (h : fewB vs = true) : vs.length ≤ 60 ∧ ∀ j, j < vs.length → (va vs j).zs.length ≤ 1500 := by
  simp only [fewB, Bool.and_eq_true, decide_eq_true_eq] at h
  refine ⟨h.1, fun j hj => ?_⟩
  have h1 : fewN vs (j + 1) ≤ fewN vs (j + 1 + (min vs.length 100 - (j + 1))) := fewN_mono vs _ _
  rw [show j + 1 + (min vs.length 100 - (j + 1)) = min vs.length 100 from by omega] at h1
  simp only [fewN] at h1
  omega

/-- Whether some of the first vectors has another length. -/
def mis (n : Nat) (vs : List Vec) : Nat → Bool
  | 0 => false
  | k + 1 => mis n vs k || !decide (n = (va vs k).zs.length)
theorem mis_later {n m : Nat} {vs : List Vec} (h : mis n vs m = true) {k : Nat} (hk : m ≤ k) : mis n vs k = true := by
  induction k with
  | zero => rw [show m = 0 from by omega] at h; exact h
  | succ k ih =>
    by_cases e : m = k + 1
    · rw [← e]; exact h
    · simp only [mis]; rw [ih (by omega)]; rfl
theorem mis_no {n : Nat} {vs : List Vec} : ∀ {k : Nat}, mis n vs k = false → ∀ j, j < k → (va vs j).zs.length = n := by
  intro k
  induction k with
  | zero => intro _ j hj; omega
  | succ k ih =>
    intro h j hj
    simp only [mis, Bool.or_eq_false_iff, Bool.not_eq_false', decide_eq_true_eq] at h
    by_cases e : j = k
    · rw [e]; exact h.2.symm
    · exact ih h.1 j (by omega)
theorem index_any (a : Option Addr) (n ca : Nat) (l : Option Addr) (c : Nat) (vs : List Vec) (w : World) (hl : vs.length ≤ 35184372088832) (h : Heads w.heap.size w l vs) :
    Calls Try.prog 93 #[.slice l vs.length c, .func (.func 66) #[.slice a n ca] #[]] w fun e w' => (∃ r, e = .returned (.int .i64 r) ∧ decide (0 ≤ r) = mis n vs vs.length) ∧ w = w' := by
  have HX := Lib.hid h
  clear h
  go_enter Try.func93, Try.ntmps93
  go_wp2
  go_loop [8] (fun i => ∃ k : Nat, k ≤ vs.length ∧ i = .int .i64 k ∧ Hid (mis n vs k = false)) (fun i => vs.length - (intOf i).toNat)
  case atStart => exact ⟨0, Nat.zero_le _, rfl, Lib.hid rfl⟩
  case round =>
    obtain ⟨k, hk, rfl, HM⟩ := hrel
    by_cases hlt : k < vs.length
    · obtain ⟨b, off, rfl, hb, hc⟩ := HX.out.at hlt
      go_wp2_with fail
      refine (misfits_any _ _ _ _ _ _ _).mono ?_
      rintro e w1 ⟨rfl, rfl⟩
      by_cases hd : n = (va vs k).zs.length
      · have HM' : Hid (mis n vs (k + 1) = false) := Lib.hid (by simp only [mis]; rw [HM.out, decide_eq_true hd]; rfl)
        rw [decide_eq_true hd, Bool.not_true]
        clear hd
        go_wp2
        go_round
        case rel => exact ⟨k + 1, by omega, by go_num, HM'⟩
        case measure => simp [intOf]; omega
      · have HM' : Hid (mis n vs vs.length = true) := Lib.hid (mis_later (m := k + 1) (by simp only [mis]; rw [decide_eq_false hd]; simp) (by omega))
        rw [decide_eq_false hd, Bool.not_false]
        go_wp2
        go_ret
        exact ⟨⟨_, rfl, by rw [HM'.out]; exact decide_eq_true (by omega)⟩, rfl⟩
    · have HE : Hid (mis n vs vs.length = false) := Lib.hid (by rw [show vs.length = k from by omega]; exact HM.out)
      go_wp2
      go_ret
      exact ⟨⟨_, rfl, by rw [HE.out]; rfl⟩, rfl⟩
theorem contains_any (a : Option Addr) (n ca : Nat) (l : Option Addr) (c : Nat) (vs : List Vec) (w : World) (hl : vs.length ≤ 35184372088832) (h : Heads w.heap.size w l vs) :
    Calls Try.prog 87 #[.slice l vs.length c, .func (.func 66) #[.slice a n ca] #[]] w fun e w' => e = .returned (.bool (mis n vs vs.length)) ∧ w = w' := by
  go_enter Try.func87, Try.ntmps87
  go_wp2_with fail
  refine (index_any a n ca l c vs _ hl h).mono ?_
  rintro e w1 ⟨⟨r, rfl, hr⟩, rfl⟩
  have HR := Lib.hid hr
  clear hr
  go_wp2_with fail
  go_ret
  exact ⟨ret_bool HR.out, rfl⟩
end Go.Proofs.Ytciocdjpgknihaa
