/- Outer of package mat: the matrix of all products of two columns, or none. Conditions: elements are within the bounds of int64; the columns have at most 2^20 elements. -/
import Derived.Test.YtciocdjpgknihaaUk
namespace Go.Proofs.Ytciocdjpgknihaa
open Go.RowKit Go.Shelf
attribute [local go_sem] Oper.semAt_some

/-- A list that is laid over another one, from a place on. -/
def layL (xs : List Int) (o : Nat) (ys : List Int) : List Int := xs.take o ++ ys ++ xs.drop (o + ys.length)
theorem lay_len {xs ys : List Int} {o : Nat} (h : o + ys.length ≤ xs.length) : (layL xs o ys).length = xs.length := by
  unfold layL
  simp
  omega
theorem lay_in {xs ys : List Int} {o j : Nat} (h : o + ys.length ≤ xs.length) (h1 : o ≤ j) (h2 : j < o + ys.length) : el (layL xs o ys) j = el ys (j - o) := by
  unfold layL el
  rw [List.getElem?_append_left (by simp; omega), List.getElem?_append_right (by simp; omega)]
  congr 2
  simp
  omega
theorem lay_out {xs ys : List Int} {o j : Nat} (h : o + ys.length ≤ xs.length) (h1 : j < o ∨ o + ys.length ≤ j) : el (layL xs o ys) j = el xs j := by
  unfold layL el
  rcases h1 with h1 | h1
  · rw [List.getElem?_append_left (by simp; omega), List.getElem?_append_left (by simp; omega), List.getElem?_take_of_lt h1]
  · rw [List.getElem?_append_right (by simp; omega), List.getElem?_drop]
    congr 2
    simp
    omega

/-- copy into a part of a block that the call has made for itself. -/
theorem run_copy_part {B n m c scap o g : Nat} {W : World} {s : Option Addr} {xs ys : List Int} (hd : Buf B W (some ⟨g, 0, none⟩) n n xs) (hs : Rd W.heap.size W s ys) (hl : ys.length = m) (hm : 1 ≤ m) (hfit : o + m ≤ n) :
    ∃ W', (Builtin.copy_ #[32, 32] 3 #[.slice (some ⟨g, o, none⟩) m c, .slice s m scap]).run Try.prog W = .ok (.int .i64 m) W' ∧ Buf B W' (some ⟨g, 0, none⟩) n n (layL xs o ys) ∧ W.grownBy W' (some g) := by
  rcases hd.2 with ⟨e, _⟩ | ⟨b, cp, cur, e, hb, hg, hnc, hcm, hcs, htk⟩
  · cases e
  · injection e with e1 e2 e3
    injection e1 with e1
    injection e1 with e1
    subst e1 e3
    have hxl := hd.len
    have hcur : cur.toList = xs.map (Value.int .i64) := by
      rw [← htk, List.take_of_length_le (by simp [hcs])]
    rcases hs with rfl | ⟨sb, so, rfl, _, hc⟩
    · simp at hl; omega
    · have hr := run_copy_row (P := Try.prog) W 32 32 3 2 g o m c ⟨sb, so, none⟩ m scap cur 2 (ys.map (Value.int .i64)) Try.underlying32 (by kernel_rfl) hg (by simp [hl])
        (fun j v hj => by
          have hlt : j < ys.length := by
            rcases Nat.lt_or_ge j ys.length with h' | h'
            · exact h'
            · rw [List.getElem?_eq_none (by simpa using h')] at hj; cases hj
          rw [List.getElem?_map, el_lt hlt] at hj
          rw [Addr.add_lit, hc j hlt]
          exact hj)
        (by simp [hl]; omega) (by intro v hv; obtain ⟨z, _, rfl⟩ := List.mem_map.1 hv; rfl)
      rw [List.length_map, hl] at hr
      refine ⟨_, hr, ⟨?_, .inr ⟨g, n, _, rfl, hb, setRow_heap W g cur _ _ _ hg, hnc, hcm, ?_, ?_⟩⟩, ⟨rfl, rfl, rfl, by simp, fun k _ hk => setRow_other W g k _ (fun e => hk (by rw [e]))⟩⟩
      · rw [List.length_map, lay_len (by omega), hxl, Nat.mul_one]
      · have : cur.size = n := by rw [hcs, Nat.mul_one]
        simp [hl, this]
        omega
      · rw [hcur, List.toList_toArray, ← List.map_take, ← List.map_drop, ← List.map_append, ← List.map_append, ← List.map_take]
        refine congrArg (List.map (Value.int .i64)) ?_
        rw [Nat.mul_one, ← hl]
        exact List.take_of_length_le (by rw [← show (layL xs o ys).length = (List.take o xs ++ ys ++ List.drop (o + ys.length) xs).length from rfl, lay_len (by omega), hxl]; exact Nat.le_refl _)

/-- What Outer has put down after some rows. -/
def oN (y x : List Int) (q : Int) : Nat → List Int
  | 0 => List.replicate (y.length * x.length) 0
  | r + 1 => layL (oN y x q r) (r * x.length) (scV x (el y r) q)
theorem oN_len (y x : List Int) (q : Int) : ∀ r, r ≤ y.length → (oN y x q r).length = y.length * x.length
  | 0, _ => List.length_replicate
  | r + 1, h => by
    have h1 := oN_len y x q r (by omega)
    have h2 := row_end (C := x.length) (show r < y.length from h)
    rw [Nat.add_mul, Nat.one_mul] at h2
    simp only [oN]
    rw [lay_len (by rw [sc_len, h1]; exact h2), h1]
theorem oN_el (y x : List Int) (q : Int) {j : Nat} : ∀ r, r ≤ y.length → j < r * x.length → el (oN y x q r) j = mulV (el y (j / x.length)) (el x (j % x.length)) q
  | 0, _, h => by rw [Nat.zero_mul] at h; omega
  | r + 1, hr, h => by
    have h1 := oN_len y x q r (by omega)
    have h2 := row_end (C := x.length) (show r < y.length from hr)
    rw [Nat.add_mul, Nat.one_mul] at h h2
    simp only [oN]
    by_cases e : r * x.length ≤ j
    · rw [lay_in (by rw [sc_len, h1]; exact h2) e (by rw [sc_len]; exact h)]
      obtain ⟨c, rfl⟩ : ∃ c, j = r * x.length + c := ⟨j - r * x.length, by omega⟩
      have hc : c < x.length := by omega
      rw [div_place hc, mod_place hc, show r * x.length + c - r * x.length = c from by omega, sc_el hc, mulV_comm]
    · rw [lay_out (by rw [sc_len, h1]; exact h2) (.inl (by omega))]
      exact oN_el y x q r (by omega) (by omega)
theorem oN_all (y x : List Int) (q : Int) : oN y x q y.length = outL y x q :=
  map_ext (oN_len y x q _ (Nat.le_refl _)) (fun _ hj => oN_el y x q _ (Nat.le_refl _) hj)
end Go.Proofs.Ytciocdjpgknihaa
