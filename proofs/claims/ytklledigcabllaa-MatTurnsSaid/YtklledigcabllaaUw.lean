/- The calls of layer 7 in one contract each: what they return, whether a matrix is right or not. Conditions: elements are within the bounds of int64; at most 2^40 of them. -/
import Derived.Test.YtklledigcabllaaUv
namespace Go.Proofs.Ytklledigcabllaa
open Go.RowKit

/-- A slice that can be read. -/
def Seen (W : World) (s : Option Addr) (n c : Nat) (zs : List Int) : Prop := zs.length = n ∧ n ≤ c ∧ c ≤ 9223372036854775807 ∧ n ≤ 1099511627776 ∧ Rd W.heap.size W s zs ∧ Fit zs
section
variable {W W' : World} {s : Option Addr} {n c : Nat} {zs : List Int}
theorem Seen.grow (h : Seen W s n c zs) (g : Grew W W') : Seen W' s n c zs := ⟨h.1, h.2.1, h.2.2.1, h.2.2.2.1, h.2.2.2.2.1.grow g, h.2.2.2.2.2⟩
theorem Seen.rd (h : Seen W s n c zs) : Rd W.heap.size W s zs := h.2.2.2.2.1
theorem Seen.fit (h : Seen W s n c zs) : Fit zs := h.2.2.2.2.2
theorem Seen.none : Seen W none 0 0 [] := ⟨rfl, Nat.le_refl _, Nat.zero_le _, Nat.zero_le _, .inl rfl, fun j hj => by simp at hj⟩
theorem buf_fits {B : Nat} (h : Buf B W s n c zs) : n ≤ c ∧ c ≤ 9223372036854775807 := by
  rcases h.2 with ⟨e, _⟩ | ⟨g, cp, cur, e, _, _, hc, hm, _⟩
  · injection e with e1 e2 e3
    subst e2 e3
    exact ⟨Nat.le_refl _, Nat.zero_le _⟩
  · injection e with e1 e2 e3
    subst e3
    exact ⟨hc, by unfold maxLen at hm; exact hm⟩
theorem Buf.seen {B : Nat} (h : Buf B W s n c zs) (hn : n ≤ 1099511627776) (hf : Fit zs) : Seen W s n c zs := ⟨h.len, (buf_fits h).1, (buf_fits h).2, hn, h.rd, hf⟩
end
theorem fit_nil : Fit [] := fun j hj => by simp at hj
theorem fit_map {f : Nat → Int} {n : Nat} (h : ∀ j, j < n → In64 (f j)) : Fit ((List.range n).map f) := fun j hj => by
  rw [len_map] at hj
  rw [el_map hj]
  exact h j hj
theorem mul_fit (zs : List Int) (R C : Nat) (x : List Int) (q : Int) : Fit (mulL zs R C x q) := fit_map fun _ _ => pS_in _ _ _ _
theorem el_in {zs : List Int} (h : Fit zs) (k : Nat) : In64 (el zs k) := by
  by_cases hk : k < zs.length
  · exact h k hk
  · rw [el_out (by omega)]
    exact in_zero
theorem turn_fit {zs : List Int} (h : Fit zs) (R C : Nat) : Fit (turnL zs R C) := fit_map fun _ _ => el_in h _
theorem out_fit (y x : List Int) (q : Int) : Fit (outL y x q) := fit_map fun _ _ => mulV_in _ _ _

/-- Whether Mul returns something, and what. -/
def mulB (R C : Int) (n m : Nat) : Bool := rightB R C n && decide (C = (m : Int))
def mulR (R C : Int) (zs xs : List Int) (q : Int) : List Int := if mulB R C zs.length xs.length = true then mulL zs R.toNat C.toNat xs q else []
def backB (R C : Int) (n m : Nat) : Bool := rightB R C n && decide (R = (m : Int))
def backR (R C : Int) (zs ys : List Int) (q : Int) : List Int := if backB R C zs.length ys.length = true then mulL (turnL zs R.toNat C.toNat) C.toNat R.toNat ys q else []
def turnA (R C : Int) (n : Nat) (x : Int) : Int := if rightB R C n = true then x else 0
def turnR (R C : Int) (zs : List Int) : List Int := if rightB R C zs.length = true then turnL zs R.toNat C.toNat else []
theorem mulB_cases (R C : Int) (n m : Nat) : (mulB R C n m = false ∧ (rightB R C n = false ∨ C ≠ (m : Int))) ∨ (mulB R C n m = true ∧ rightB R C n = true ∧ C = (m : Int)) := by
  unfold mulB
  cases h : rightB R C n with
  | false => exact .inl ⟨rfl, .inl rfl⟩
  | true =>
    by_cases e : C = (m : Int)
    · exact .inr ⟨by rw [decide_eq_true e]; rfl, rfl, e⟩
    · exact .inl ⟨by rw [decide_eq_false e]; rfl, .inr e⟩
theorem backB_cases (R C : Int) (n m : Nat) : (backB R C n m = false ∧ (rightB R C n = false ∨ R ≠ (m : Int))) ∨ (backB R C n m = true ∧ rightB R C n = true ∧ R = (m : Int)) := by
  unfold backB
  cases h : rightB R C n with
  | false => exact .inl ⟨rfl, .inl rfl⟩
  | true =>
    by_cases e : R = (m : Int)
    · exact .inr ⟨by rw [decide_eq_true e]; rfl, rfl, e⟩
    · exact .inl ⟨by rw [decide_eq_false e]; rfl, .inr e⟩
/-- Of a right matrix some element lies somewhere. -/
theorem right_at {B : Nat} {W : World} {a : Option Addr} {zs : List Int} {R C : Nat} (h : Rd B W a zs) (hz : zs.length = R * C) (hR : 1 ≤ R) (hC : 1 ≤ C) : ∃ b off, a = some ⟨b, off, none⟩ := by
  have hm : 1 ≤ R * C := Nat.mul_le_mul hR hC
  obtain ⟨b, off, e, _, _⟩ := h.at (k := 0) (by omega)
  exact ⟨b, off, e⟩

section
variable {R C : Int} {a a' : Option Addr} {n cap n' cap' : Nat} {zs xs : List Int} {q : Int} {w : World}
theorem mul_all (hz : Seen w a n cap zs) (hx : Seen w a' n' cap' xs) :
    Calls Try.prog 20 #[.agg #[.int .i64 R, .int .i64 C, .slice a n cap], .slice a' n' cap', .int .i64 q] w fun e w' => (∃ s m c, e = .returned (.tuple #[.slice s m c, .bool (mulB R C n n')]) ∧ Seen w' s m c (mulR R C zs xs q)) ∧ Grew w w' := by
  have hzl := hz.1
  have hxl := hx.1
  unfold mulR
  rw [hzl, hxl]
  rcases mulB_cases R C n n' with ⟨hb, h⟩ | ⟨hb, hr, hc⟩
  · rw [hb, if_neg (by decide)]
    exact (mul_no R C a a' n cap n' cap' q w h).mono fun e w' ⟨he, hg⟩ => ⟨⟨_, _, _, he, Seen.none⟩, hg⟩
  · rw [hb, if_pos rfl]
    obtain ⟨r, c, rfl, rfl, r1, r2, c1, c2, hn⟩ := rightB_nat hr
    obtain rfl : c = n' := by omega
    subst hn
    obtain ⟨b, off, rfl⟩ := right_at hz.rd hzl r1 c1
    exact (mul_yes (cap' := cap') w hzl hxl r1 r2 c1 c2 hz.2.2.1 hz.2.1 hz.rd hx.rd hz.fit hx.fit).mono fun e w' ⟨⟨g, he, hbuf⟩, hg⟩ => ⟨⟨_, _, _, he, hbuf.seen (by omega) (mul_fit _ _ _ _ _)⟩, hg⟩
theorem rmul_all (hz : Seen w a n cap zs) (hx : Seen w a' n' cap' xs) :
    Calls Try.prog 22 #[.agg #[.int .i64 R, .int .i64 C, .slice a n cap], .slice a' n' cap', .int .i64 q] w fun e w' => (∃ s m c, e = .returned (.tuple #[.slice s m c, .bool (mulB R C n n')]) ∧ Seen w' s m c (mulR R C zs xs q)) ∧ Grew w w' := by
  have hzl := hz.1
  have hxl := hx.1
  have hln := hz.2.2.2.1
  unfold mulR
  rw [hzl, hxl]
  rcases mulB_cases R C n n' with ⟨hb, h⟩ | ⟨hb, hr, hc⟩
  · rw [hb, if_neg (by decide)]
    exact (rmul_no R C a a' n cap n' cap' q w (by omega) h).mono fun e w' ⟨he, hg⟩ => ⟨⟨_, _, _, he, Seen.none⟩, hg⟩
  · rw [hb, if_pos rfl]
    obtain ⟨r, c, rfl, rfl, r1, r2, c1, c2, hn⟩ := rightB_nat hr
    obtain rfl : c = n' := by omega
    subst hzl
    exact (rmul_yes (cap' := cap') w hn hxl r1 r2 c1 c2 hln hz.rd hx.rd hz.fit hx.fit).mono fun e w' ⟨⟨s, c', he, hbuf⟩, hg⟩ => ⟨⟨_, _, _, he, hbuf.seen (by omega) (mul_fit _ _ _ _ _)⟩, hg⟩
theorem back_all (hz : Seen w a n cap zs) (hx : Seen w a' n' cap' xs) :
    Calls Try.prog 21 #[.agg #[.int .i64 R, .int .i64 C, .slice a n cap], .slice a' n' cap', .int .i64 q] w fun e w' => (∃ s m c, e = .returned (.tuple #[.slice s m c, .bool (backB R C n n')]) ∧ Seen w' s m c (backR R C zs xs q)) ∧ Grew w w' := by
  have hzl := hz.1
  have hxl := hx.1
  unfold backR
  rw [hzl, hxl]
  rcases backB_cases R C n n' with ⟨hb, h⟩ | ⟨hb, hr, hc⟩
  · rw [hb, if_neg (by decide)]
    exact (back_no R C a a' n cap n' cap' q w h).mono fun e w' ⟨he, hg⟩ => ⟨⟨_, _, _, he, Seen.none⟩, hg⟩
  · rw [hb, if_pos rfl]
    obtain ⟨r, c, rfl, rfl, r1, r2, c1, c2, hn⟩ := rightB_nat hr
    obtain rfl : r = n' := by omega
    subst hn
    obtain ⟨b, off, rfl⟩ := right_at hz.rd hzl r1 c1
    exact (back_yes (cap' := cap') w hzl hxl r1 r2 c1 c2 hz.2.2.1 hz.2.1 hz.rd hx.rd hz.fit hx.fit).mono fun e w' ⟨⟨g, he, hbuf⟩, hg⟩ => ⟨⟨_, _, _, he, hbuf.seen (by omega) (mul_fit _ _ _ _ _)⟩, hg⟩
theorem turn_all (hz : Seen w a n cap zs) :
    Calls Try.prog 25 #[.agg #[.int .i64 R, .int .i64 C, .slice a n cap]] w fun e w' => (∃ s m c, e = .returned (.agg #[.int .i64 (turnA R C n C), .int .i64 (turnA R C n R), .slice s m c]) ∧ Seen w' s m c (turnR R C zs)) ∧ Grew w w' := by
  have hzl := hz.1
  have hln := hz.2.2.2.1
  unfold turnR turnA
  rw [hzl]
  cases hr : rightB R C n with
  | false =>
    rw [if_neg (by decide), if_neg (by decide), if_neg (by decide)]
    exact (turn_no R C a n cap w hr).mono fun e w' ⟨he, hg⟩ => ⟨⟨_, _, _, he, Seen.none⟩, hg⟩
  | true =>
    rw [if_pos rfl, if_pos rfl, if_pos rfl]
    obtain ⟨r, c, rfl, rfl, r1, r2, c1, c2, hn⟩ := rightB_nat hr
    subst hn
    obtain ⟨b, off, rfl⟩ := right_at hz.rd hzl r1 c1
    exact (turn_yes w hzl r1 r2 c1 c2 hz.2.2.1 hz.2.1 hz.rd).mono fun e w' ⟨⟨g, he, hbuf⟩, hg⟩ => ⟨⟨_, _, _, he, hbuf.seen hln (turn_fit hz.fit _ _)⟩, hg⟩
theorem rturn_all (hz : Seen w a n cap zs) :
    Calls Try.prog 26 #[.agg #[.int .i64 R, .int .i64 C, .slice a n cap]] w fun e w' => (∃ s m c, e = .returned (.agg #[.int .i64 (turnA R C n C), .int .i64 (turnA R C n R), .slice s m c]) ∧ Seen w' s m c (turnR R C zs)) ∧ Grew w w' := by
  have hzl := hz.1
  have hln := hz.2.2.2.1
  unfold turnR turnA
  rw [hzl]
  cases hr : rightB R C n with
  | false =>
    rw [if_neg (by decide), if_neg (by decide), if_neg (by decide)]
    exact (rturn_no R C a n cap w (by omega) hr).mono fun e w' ⟨he, hg⟩ => ⟨⟨_, _, _, he, Seen.none⟩, hg⟩
  | true =>
    rw [if_pos rfl, if_pos rfl, if_pos rfl]
    obtain ⟨r, c, rfl, rfl, r1, r2, c1, c2, hn⟩ := rightB_nat hr
    subst hzl
    exact (rturn_yes w hn r1 r2 c1 c2 hln hz.rd).mono fun e w' ⟨⟨s, c', he, hbuf⟩, hg⟩ => ⟨⟨_, _, _, he, hbuf.seen (by rw [Nat.mul_comm, ← hn]; exact hln) (turn_fit hz.fit _ _)⟩, hg⟩
end
/-- The transposed matrix is right just if the matrix is. -/
theorem turn_right (R C : Int) (zs : List Int) : rightB (turnA R C zs.length C) (turnA R C zs.length R) (turnR R C zs).length = rightB R C zs.length := by
  unfold turnA turnR
  cases hr : rightB R C zs.length with
  | false => rfl
  | true =>
    obtain ⟨r, c, rfl, rfl, r1, r2, c1, c2, hn⟩ := rightB_nat hr
    rw [if_pos rfl, if_pos rfl, if_pos rfl, turn_len]
    exact rightB_of c1 c2 r1 r2
theorem turnA_yes {R C : Int} {n : Nat} (h : rightB R C n = true) (x : Int) : turnA R C n x = x := if_pos h
theorem turnA_no {R C : Int} {n : Nat} (h : rightB R C n = false) (x : Int) : turnA R C n x = 0 := if_neg (by rw [h]; decide)
theorem mul_is_backB (R C : Int) (zs : List Int) (m : Nat) : mulB (turnA R C zs.length C) (turnA R C zs.length R) (turnR R C zs).length m = backB R C zs.length m := by
  unfold mulB backB
  rw [turn_right]
  cases hr : rightB R C zs.length with
  | false => rfl
  | true => rw [turnA_yes hr]
theorem mul_is_back (R C : Int) (zs ys : List Int) (q : Int) : mulR (turnA R C zs.length C) (turnA R C zs.length R) (turnR R C zs) ys q = backR R C zs ys q := by
  unfold mulR backR
  rw [mul_is_backB]
  cases hb : backB R C zs.length ys.length with
  | false => rfl
  | true =>
    have hr : rightB R C zs.length = true := by unfold backB at hb; rw [Bool.and_eq_true] at hb; exact hb.1
    rw [if_pos rfl, if_pos rfl, turnA_yes hr, turnA_yes hr]
    unfold turnR
    rw [if_pos hr]
theorem turn_twice {R C : Int} {zs : List Int} (h : rightB R C zs.length = true) : turnR (turnA R C zs.length C) (turnA R C zs.length R) (turnR R C zs) = zs := by
  have h1 := turn_right R C zs
  rw [h] at h1
  rw [show turnR (turnA R C zs.length C) (turnA R C zs.length R) (turnR R C zs) = turnL (turnR R C zs) (turnA R C zs.length C).toNat (turnA R C zs.length R).toNat from if_pos h1]
  rw [turnA_yes h, turnA_yes h]
  obtain ⟨r, c, rfl, rfl, r1, r2, c1, c2, hn⟩ := rightB_nat h
  unfold turnR
  rw [if_pos h]
  exact turn_turn hn
theorem rback_all {R C : Int} {a a' : Option Addr} {n cap n' cap' : Nat} {zs xs : List Int} {q : Int} {w : World} (hz : Seen w a n cap zs) (hx : Seen w a' n' cap' xs) :
    Calls Try.prog 23 #[.agg #[.int .i64 R, .int .i64 C, .slice a n cap], .slice a' n' cap', .int .i64 q] w fun e w' => (∃ s m c, e = .returned (.tuple #[.slice s m c, .bool (backB R C n n')]) ∧ Seen w' s m c (backR R C zs xs q)) ∧ Grew w w' := by
  have HZ := Lib.hid hz
  have HX := Lib.hid hx
  have he := mul_is_back R C zs xs q
  have hf := mul_is_backB R C zs n'
  rw [hz.1] at he hf
  have HE := Lib.hid he
  have HF := Lib.hid hf
  clear hz hx he hf
  go_enter Try.func23, Try.ntmps23
  go_wp2_with fail
  refine (rturn_all (HZ.out.grow ((Grew.refl w).alloc _))).mono ?_
  rintro e w1 ⟨⟨s, m, c, rfl, hs⟩, g1⟩
  have hm := hs.1
  have HS1 := Lib.hid hs
  have HG1 := Lib.hid (((Grew.refl w).alloc (.cells #[.int .i64 R, .int .i64 C, .slice a n cap] 24)).trans g1)
  have HF1 : Hid (mulB (turnA R C n C) (turnA R C n R) m n' = backB R C n n') := Lib.hid (by rw [← hm]; exact HF.out)
  clear g1 hs hm
  go_wp2_with fail
  refine (rmul_all HS1.out (HX.out.grow HG1.out)).mono ?_
  rintro e w2 ⟨⟨s2, m2, c2, rfl, hs2⟩, g2⟩
  rw [HF1.out]
  rw [HE.out] at hs2
  have HS2 := Lib.hid hs2
  have HG2 := Lib.hid (HG1.out.trans g2)
  clear g2 hs2
  go_wp2
  go_ret2
  exact ⟨⟨_, _, _, rfl, HS2.out⟩, HG2.out⟩

/-- What Outer returns. -/
def outA (y x : List Int) (v : Nat) : Int := if newB (y.length : Int) (x.length : Int) = true then (v : Int) else 0
def outR (y x : List Int) (q : Int) : List Int := if newB (y.length : Int) (x.length : Int) = true then outL y x q else []
theorem newB_comm (R C : Int) : newB R C = newB C R := by
  unfold newB
  rw [Int.mul_comm]
  cases decide (1 ≤ R) <;> cases decide (1 ≤ C) <;> rfl
section
variable {a a' : Option Addr} {n cap n' cap' : Nat} {ys xs : List Int} {q : Int} {w : World}
theorem outer_all (hy : Seen w a n cap ys) (hx : Seen w a' n' cap' xs) (hn : n ≤ 1048576) (hn' : n' ≤ 1048576) :
    Calls Try.prog 27 #[.slice a n cap, .slice a' n' cap', .int .i64 q] w fun e w' => (∃ s m c, e = .returned (.agg #[.int .i64 (outA ys xs ys.length), .int .i64 (outA ys xs xs.length), .slice s m c]) ∧ Seen w' s m c (outR ys xs q)) ∧ Grew w w' := by
  obtain ⟨rfl, _⟩ := hy.1
  obtain ⟨rfl, _⟩ := hx.1
  unfold outA outR
  cases hb : newB (ys.length : Int) (xs.length : Int) with
  | false =>
    rw [if_neg (by decide), if_neg (by decide), if_neg (by decide)]
    exact (outer_no a a' cap cap' q w hn hn' hb).mono fun e w' ⟨he, hg⟩ => ⟨⟨_, _, _, he, Seen.none⟩, hg⟩
  | true =>
    rw [if_pos rfl, if_pos rfl, if_pos rfl]
    obtain ⟨r, c, h1, h2, h3, h4, h5⟩ := newB_nat hb
    obtain rfl : ys.length = r := by omega
    obtain rfl : xs.length = c := by omega
    exact (outer_yes w h3 h4 h5 hy.rd hx.rd hy.fit hx.fit).mono fun e w' ⟨⟨g, he, hbuf⟩, hg⟩ => ⟨⟨_, _, _, he, hbuf.seen (by omega) (out_fit _ _ _)⟩, hg⟩
theorem router_all (hy : Seen w a n cap ys) (hx : Seen w a' n' cap' xs) (hn : n ≤ 1048576) (hn' : n' ≤ 1048576) :
    Calls Try.prog 28 #[.slice a n cap, .slice a' n' cap', .int .i64 q] w fun e w' => (∃ s m c, e = .returned (.agg #[.int .i64 (outA ys xs ys.length), .int .i64 (outA ys xs xs.length), .slice s m c]) ∧ Seen w' s m c (outR ys xs q)) ∧ Grew w w' := by
  obtain ⟨rfl, _⟩ := hy.1
  obtain ⟨rfl, _⟩ := hx.1
  unfold outA outR
  cases hb : newB (ys.length : Int) (xs.length : Int) with
  | false =>
    rw [if_neg (by decide), if_neg (by decide), if_neg (by decide)]
    exact (router_no a a' cap cap' q w hn hn' hb).mono fun e w' ⟨he, hg⟩ => ⟨⟨_, _, _, he, Seen.none⟩, hg⟩
  | true =>
    rw [if_pos rfl, if_pos rfl, if_pos rfl]
    obtain ⟨r, c, h1, h2, h3, h4, h5⟩ := newB_nat hb
    obtain rfl : ys.length = r := by omega
    obtain rfl : xs.length = c := by omega
    exact (router_yes w h3 h4 h5 hy.rd hx.rd hy.fit hx.fit).mono fun e w' ⟨⟨g, he, hbuf⟩, hg⟩ => ⟨⟨_, _, _, he, hbuf.seen (by omega) (out_fit _ _ _)⟩, hg⟩
end
/-- The matrix of exchanged columns is the transposed one. -/
theorem out_turned (y x : List Int) (q : Int) (hy : y.length ≤ 1048576) (hx : x.length ≤ 1048576) : turnR (outA y x y.length) (outA y x x.length) (outR y x q) = outR x y q ∧
    turnA (outA y x y.length) (outA y x x.length) (outR y x q).length (outA y x x.length) = outA x y x.length ∧ turnA (outA y x y.length) (outA y x x.length) (outR y x q).length (outA y x y.length) = outA x y y.length := by
  unfold outA outR
  rw [newB_comm (x.length : Int)]
  cases hb : newB (y.length : Int) (x.length : Int) with
  | false => exact ⟨rfl, rfl, rfl⟩
  | true =>
    simp only [if_true]
    obtain ⟨r, c, h1, h2, h3, h4, h5⟩ := newB_nat hb
    have hr : rightB (y.length : Int) (x.length : Int) (outL y x q).length = true := by
      rw [out_len]
      exact rightB_of (by omega) hy (by omega) hx
    refine ⟨?_, turnA_yes hr _, turnA_yes hr _⟩
    unfold turnR
    rw [if_pos hr]
    exact out_turn y x q
/-- Same of the reference, of two slices that hold the same numbers. -/
theorem same_seen {a a' : Option Addr} {n cap n' cap' : Nat} {zs : List Int} {w : World} (h : Seen w a n cap zs) (h' : Seen w a' n' cap' zs) :
    Calls Try.prog 24 #[.slice a n cap, .slice a' n' cap'] w fun e w' => e = .returned (.bool true) ∧ Grew w w' := by
  have hn := h.2.2.2.1
  have hn' := h'.2.2.2.1
  have hx := rsame_n a a' cap cap' zs zs w h.1 h'.1 (by omega) (by omega) h.rd h'.rd
  rw [decide_eq_true rfl] at hx
  exact hx
theorem msame_seen {R C : Int} {a a' : Option Addr} {n cap n' cap' : Nat} {zs : List Int} {w : World} (h : Seen w a n cap zs) (h' : Seen w a' n' cap' zs) :
    Calls Try.prog 14 #[.agg #[.int .i64 R, .int .i64 C, .slice a n cap], .agg #[.int .i64 R, .int .i64 C, .slice a' n' cap']] w fun e w' => e = .returned (.bool true) ∧ Grew w w' := by
  have hl := h.2.2.2.1
  obtain rfl := h.1
  obtain rfl := h'.1
  exact msame_any R C a a' cap cap' zs w (by omega) h.rd h'.rd
end Go.Proofs.Ytklledigcabllaa
