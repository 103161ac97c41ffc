/- Plain: products of matrices that lie row by row, transposed matrices, matrices of all products. -/
import Derived.Test.YtciocdjpgknihaaUb
namespace Go.Proofs.Ytciocdjpgknihaa
open Go.RowKit

theorem el_map {f : Nat → Int} {n j : Nat} (h : j < n) : el ((List.range n).map f) j = f j := by simp [el, h]
theorem len_map (f : Nat → Int) (n : Nat) : ((List.range n).map f).length = n := by simp
theorem el_out {zs : List Int} {j : Nat} (h : zs.length ≤ j) : el zs j = 0 := by unfold el; rw [List.getElem?_eq_none h]; rfl
theorem map_ext {f : Nat → Int} {n : Nat} {zs : List Int} (hl : zs.length = n) (h : ∀ j, j < n → el zs j = f j) : zs = (List.range n).map f := by
  apply el_ext
  · rw [hl, len_map]
  · intro j hj
    rw [hl] at hj
    rw [h j hj, el_map hj]
theorem mulV_in (x y q : Int) : In64 (mulV x y q) := by
  unfold In64 mulV
  split
  · unfold wrap64; omega
  · omega
theorem in_wrap (z : Int) : In64 (wrap64 z) := by unfold In64 wrap64; omega
theorem in_zero : In64 0 := ⟨by omega, by omega⟩

/-- The sum of the products of the first k of f and of x. -/
def pS (f : Nat → Int) (x : List Int) (q : Int) : Nat → Int
  | 0 => 0
  | k + 1 => wrap64 (pS f x q k + mulV (f k) (el x k) q)
theorem pS_in (f : Nat → Int) (x : List Int) (q : Int) : ∀ k, In64 (pS f x q k)
  | 0 => in_zero
  | _ + 1 => in_wrap _
theorem pS_ext {f g : Nat → Int} (x : List Int) (q : Int) : ∀ k, (∀ j, j < k → f j = g j) → pS f x q k = pS g x q k
  | 0, _ => rfl
  | k + 1, h => by simp only [pS]; rw [pS_ext x q k (fun j hj => h j (by omega)), h k (by omega)]
theorem dK_pS (xs ys : List Int) (q : Int) : ∀ k, dK xs ys q k = pS (el xs) ys q k
  | 0 => rfl
  | k + 1 => by simp only [dK, pS]; rw [dK_pS xs ys q k]

/-- A row of a matrix. -/
def rowL (zs : List Int) (C r : Nat) : List Int := (List.range C).map fun c => el zs (r * C + c)
theorem row_len (zs : List Int) (C r : Nat) : (rowL zs C r).length = C := len_map _ _
theorem row_el {zs : List Int} {C r c : Nat} (h : c < C) : el (rowL zs C r) c = el zs (r * C + c) := el_map h
/-- The product of a matrix with a column. -/
def mulL (zs : List Int) (R C : Nat) (x : List Int) (q : Int) : List Int := (List.range R).map fun r => pS (fun c => el zs (r * C + c)) x q C
theorem mul_len (zs : List Int) (R C : Nat) (x : List Int) (q : Int) : (mulL zs R C x q).length = R := len_map _ _
theorem dot_row (zs x : List Int) (C r : Nat) (q : Int) (h : x.length = C) : dotV (rowL zs C r) x q = pS (fun c => el zs (r * C + c)) x q C := by
  unfold dotV
  rw [if_pos (by rw [row_len, h]), dK_pS, row_len]
  exact pS_ext x q C (fun j hj => row_el hj)
/-- The transposed matrix. -/
def turnL (zs : List Int) (R C : Nat) : List Int := (List.range (C * R)).map fun i => el zs (i % R * C + i / R)
theorem turn_len (zs : List Int) (R C : Nat) : (turnL zs R C).length = C * R := len_map _ _
theorem div_place {R r c : Nat} (hr : r < R) : (c * R + r) / R = c := by
  rw [Nat.add_comm, Nat.add_mul_div_right _ _ (by omega), Nat.div_eq_of_lt hr, Nat.zero_add]
theorem mod_place {R r c : Nat} (hr : r < R) : (c * R + r) % R = r := by
  rw [Nat.add_comm, Nat.add_mul_mod_self_right, Nat.mod_eq_of_lt hr]
theorem turn_el {zs : List Int} {R C r c : Nat} (hr : r < R) (hc : c < C) : el (turnL zs R C) (c * R + r) = el zs (r * C + c) := by
  unfold turnL
  rw [el_map (place_lt hc hr), div_place hr, mod_place hr]
theorem turn_turn {zs : List Int} {R C : Nat} (h : zs.length = R * C) : turnL (turnL zs R C) C R = zs := by
  apply el_ext
  · rw [turn_len, h]
  · intro j hj
    rw [turn_len] at hj
    have hC : 0 < C := by
      rcases Nat.eq_zero_or_pos C with h0 | h0
      · rw [h0, Nat.mul_zero] at hj; omega
      · exact h0
    have h1 : j / C < R := (Nat.div_lt_iff_lt_mul hC).2 hj
    have h2 : j % C < C := Nat.mod_lt _ hC
    have h3 : j / C * C + j % C = j := by rw [Nat.mul_comm]; exact Nat.div_add_mod j C
    have := turn_el (zs := turnL zs R C) (R := C) (C := R) (r := j % C) (c := j / C) h2 h1
    rw [h3] at this
    rw [this, turn_el h1 h2, h3]
theorem mul_turn (zs : List Int) (R C : Nat) (y : List Int) (q : Int) : mulL (turnL zs R C) C R y q = (List.range C).map fun c => pS (fun r => el zs (r * C + c)) y q R := by
  apply map_ext (mul_len _ _ _ _ _)
  intro c hc
  unfold mulL
  rw [el_map hc]
  exact pS_ext y q R (fun r hr => turn_el hr hc)

/-- What is in the transposed matrix once k elements have been put there. -/
def tN (zs : List Int) (R C : Nat) : Nat → List Int
  | 0 => List.replicate (C * R) 0
  | k + 1 => (tN zs R C k).set (k % C * R + k / C) (el zs k)
theorem tN_len (zs : List Int) (R C : Nat) : ∀ k, (tN zs R C k).length = C * R
  | 0 => List.length_replicate
  | k + 1 => by simp only [tN, List.length_set]; exact tN_len zs R C k
theorem tN_step (zs : List Int) {R C r c : Nat} (hc : c < C) : tN zs R C (r * C + c + 1) = (tN zs R C (r * C + c)).set (c * R + r) (el zs (r * C + c)) := by
  simp only [tN]
  rw [mod_place hc, div_place hc]
theorem el_zeros (n j : Nat) : el (List.replicate n 0) j = 0 := by
  unfold el
  rw [List.getElem?_replicate]
  split <;> rfl
theorem tN_el (zs : List Int) {R C r c : Nat} (hr : r < R) (hc : c < C) : ∀ k, k ≤ R * C → el (tN zs R C k) (c * R + r) = if r * C + c < k then el zs (r * C + c) else 0
  | 0, _ => by rw [if_neg (by omega)]; exact el_zeros _ _
  | k + 1, hk => by
    have hC : 0 < C := by omega
    have h3 : k / C * C + k % C = k := by rw [Nat.mul_comm]; exact Nat.div_add_mod k C
    have h2 : k % C < C := Nat.mod_lt _ hC
    have h1 : k / C < R := (Nat.div_lt_iff_lt_mul hC).2 (by omega)
    simp only [tN]
    by_cases e : r * C + c = k
    · rw [if_pos (by omega), ← e, mod_place hc, div_place hc, el_set_same _ (by rw [tN_len]; exact place_lt hc hr)]
    · have hne : k % C * R + k / C ≠ c * R + r := by
        intro e2
        have e3 : k % C = c := by
          have := congrArg (· / R) e2
          simpa [div_place h1, div_place hr] using this
        have e4 : k / C = r := by rw [e3] at e2; omega
        exact e (by rw [← e3, ← e4]; exact h3)
      rw [el_set_other _ hne, tN_el zs hr hc k (by omega)]
      by_cases e2 : r * C + c < k
      · rw [if_pos e2, if_pos (by omega)]
      · rw [if_neg e2, if_neg (by omega)]
theorem tN_all (zs : List Int) (R C : Nat) : tN zs R C (R * C) = turnL zs R C := by
  apply map_ext (tN_len zs R C _)
  intro j hj
  have hR : 0 < R := by
    rcases Nat.eq_zero_or_pos R with h0 | h0
    · rw [h0, Nat.mul_zero] at hj; omega
    · exact h0
  have h1 : j / R < C := (Nat.div_lt_iff_lt_mul hR).2 hj
  have h2 : j % R < R := Nat.mod_lt _ hR
  have h3 : j / R * R + j % R = j := by rw [Nat.mul_comm]; exact Nat.div_add_mod j R
  have := tN_el zs h2 h1 (R * C) (Nat.le_refl _)
  rw [h3, if_pos (place_lt h2 h1)] at this
  exact this

/-- What Back has added up once k elements have been seen. -/
def bN (zs : List Int) (C : Nat) (y : List Int) (q : Int) : Nat → List Int
  | 0 => List.replicate C 0
  | k + 1 => (bN zs C y q k).set (k % C) (wrap64 (el (bN zs C y q k) (k % C) + mulV (el zs k) (el y (k / C)) q))
theorem bN_len (zs : List Int) (C : Nat) (y : List Int) (q : Int) : ∀ k, (bN zs C y q k).length = C
  | 0 => List.length_replicate
  | k + 1 => by simp only [bN, List.length_set]; exact bN_len zs C y q k
theorem bN_step (zs : List Int) {C r c : Nat} (y : List Int) (q : Int) (hc : c < C) :
    bN zs C y q (r * C + c + 1) = (bN zs C y q (r * C + c)).set c (wrap64 (el (bN zs C y q (r * C + c)) c + mulV (el zs (r * C + c)) (el y r) q)) := by
  simp only [bN]
  rw [mod_place hc, div_place hc]
theorem bN_el (zs : List Int) (C : Nat) (y : List Int) (q : Int) {c : Nat} (hc : c < C) : ∀ r d, d ≤ C → el (bN zs C y q (r * C + d)) c = pS (fun r => el zs (r * C + c)) y q (if c < d then r + 1 else r) := by
  have row : ∀ r, el (bN zs C y q (r * C)) c = pS (fun r => el zs (r * C + c)) y q r → ∀ d, d ≤ C → el (bN zs C y q (r * C + d)) c = pS (fun r => el zs (r * C + c)) y q (if c < d then r + 1 else r) := by
    intro r h0 d
    induction d with
    | zero => intro _; rw [if_neg (by omega)]; exact h0
    | succ d ih =>
      intro hd
      have ih := ih (by omega)
      rw [← Nat.add_assoc, bN_step zs y q (show d < C by omega)]
      by_cases e : d = c
      · subst e
        rw [if_neg (by omega)] at ih
        rw [if_pos (by omega), el_set_same _ (by rw [bN_len]; exact hc), ih]
        rfl
      · rw [el_set_other _ e, ih]
        by_cases e2 : c < d
        · rw [if_pos e2, if_pos (by omega)]
        · rw [if_neg e2, if_neg (by omega)]
  intro r
  induction r with
  | zero => exact row 0 (by rw [Nat.zero_mul]; exact el_zeros _ _)
  | succ r ih =>
    refine row (r + 1) ?_
    have := ih C (Nat.le_refl _)
    rw [if_pos hc] at this
    rw [Nat.add_mul, Nat.one_mul]
    exact this
theorem bN_all (zs : List Int) (R C : Nat) (y : List Int) (q : Int) : bN zs C y q (R * C) = mulL (turnL zs R C) C R y q := by
  rw [mul_turn]
  apply map_ext (bN_len zs C y q _)
  intro c hc
  have := bN_el zs C y q hc R 0 (Nat.zero_le _)
  rw [if_neg (by omega)] at this
  exact this
theorem bN_fit (zs : List Int) (C : Nat) (y : List Int) (q : Int) {k c : Nat} (hc : c < C) : In64 (el (bN zs C y q k) c) := by
  have h3 : k / C * C + k % C = k := by rw [Nat.mul_comm]; exact Nat.div_add_mod k C
  have := bN_el zs C y q hc (k / C) (k % C) (Nat.le_of_lt (Nat.mod_lt _ (by omega)))
  rw [h3] at this
  rw [this]
  exact pS_in _ _ _ _

/-- The matrix of all products. -/
def outL (y x : List Int) (q : Int) : List Int := (List.range (y.length * x.length)).map fun i => mulV (el y (i / x.length)) (el x (i % x.length)) q
theorem out_len (y x : List Int) (q : Int) : (outL y x q).length = y.length * x.length := len_map _ _
theorem out_el {y x : List Int} {q : Int} {r c : Nat} (hr : r < y.length) (hc : c < x.length) : el (outL y x q) (r * x.length + c) = mulV (el y r) (el x c) q := by
  unfold outL
  rw [el_map (place_lt hr hc), div_place hc, mod_place hc]
theorem out_turn (y x : List Int) (q : Int) : turnL (outL y x q) y.length x.length = outL x y q := by
  symm
  apply map_ext (out_len x y q)
  intro j hj
  have hR : 0 < y.length := by
    rcases Nat.eq_zero_or_pos y.length with h0 | h0
    · rw [h0, Nat.mul_zero] at hj; omega
    · exact h0
  have h1 : j / y.length < x.length := (Nat.div_lt_iff_lt_mul hR).2 hj
  have h2 : j % y.length < y.length := Nat.mod_lt _ hR
  unfold outL
  rw [el_map hj]
  have := out_el (q := q) h2 h1
  unfold outL at this
  rw [this]
  exact mulV_comm _ _ _
/-- What Outer of the reference has put down once k products have been made. -/
def oK (y x : List Int) (q : Int) : Nat → List Int
  | 0 => List.replicate (y.length * x.length) 0
  | k + 1 => (oK y x q k).set k (mulV (el y (k / x.length)) (el x (k % x.length)) q)
theorem oK_len (y x : List Int) (q : Int) : ∀ k, (oK y x q k).length = y.length * x.length
  | 0 => List.length_replicate
  | k + 1 => by simp only [oK, List.length_set]; exact oK_len y x q k
theorem oK_el (y x : List Int) (q : Int) {j : Nat} : ∀ k, k ≤ y.length * x.length → el (oK y x q k) j = if j < k then mulV (el y (j / x.length)) (el x (j % x.length)) q else 0
  | 0, _ => by rw [if_neg (by omega)]; exact el_zeros _ _
  | k + 1, hk => by
    simp only [oK]
    by_cases e : k = j
    · subst e
      rw [el_set_same _ (by rw [oK_len]; omega), if_pos (by omega)]
    · rw [el_set_other _ e, oK_el y x q k (by omega)]
      by_cases e2 : j < k
      · rw [if_pos e2, if_pos (by omega)]
      · rw [if_neg e2, if_neg (by omega)]
theorem oK_all (y x : List Int) (q : Int) : oK y x q (y.length * x.length) = outL y x q := by
  apply map_ext (oK_len y x q _)
  intro j hj
  rw [oK_el y x q _ (Nat.le_refl _), if_pos hj]
end Go.Proofs.Ytciocdjpgknihaa
