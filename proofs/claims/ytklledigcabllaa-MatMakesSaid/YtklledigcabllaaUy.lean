/- Of, At and New in one contract each. Conditions: elements are within the bounds of int64; at most 2^40 of them. -/
import Derived.Test.YtklledigcabllaaUx
namespace Go.Proofs.Ytklledigcabllaa
open Go.RowKit

theorem of_all {R C : Int} {a : Option Addr} {n cap : Nat} {zs : List Int} {w : World} (hz : Seen w a n cap zs) (h : rightB R C n = true) :
    Calls Try.prog 11 #[.int .i64 R, .int .i64 C, .slice a n cap] w fun e w' => (∃ s m c, e = .returned (.tuple #[.agg #[.int .i64 R, .int .i64 C, .slice s m c], .bool true]) ∧ Seen w' s m c zs) ∧ Grew w w' := by
  obtain rfl := hz.1
  have hl := hz.2.2.2.1
  exact (of_yes w h (by omega) hz.rd).mono fun e w' ⟨⟨g, he, hb⟩, hg⟩ => ⟨⟨_, _, _, he, hb.seen hl hz.fit⟩, hg⟩
theorem at_all {R C r c : Int} {a : Option Addr} {n cap : Nat} {zs : List Int} {w : World} (hz : Seen w a n cap zs) :
    Calls Try.prog 16 #[.agg #[.int .i64 R, .int .i64 C, .slice a n cap], .int .i64 r, .int .i64 c] w fun e w' => e = .returned (.int .i64 (atV zs R C r c)) ∧ Grew w w' := by
  obtain rfl := hz.1
  exact at_any R C r c a cap zs w hz.2.1 hz.2.2.1 hz.rd
theorem rat_all {R C r c : Int} {a : Option Addr} {n cap : Nat} {zs : List Int} {w : World} (hz : Seen w a n cap zs) :
    Calls Try.prog 17 #[.agg #[.int .i64 R, .int .i64 C, .slice a n cap], .int .i64 r, .int .i64 c] w fun e w' => e = .returned (.int .i64 (atV zs R C r c)) ∧ Grew w w' := by
  obtain rfl := hz.1
  have hl := hz.2.2.2.1
  exact rat_any R C r c a cap zs w (by omega) hz.rd
/-- What New returns. -/
def newL (R C : Int) : List Int := if newB R C = true then List.replicate (R.toNat * C.toNat) 0 else []
def newA (R C x : Int) : Int := if newB R C = true then x else 0
theorem fit_zeros (n : Nat) : Fit (List.replicate n 0) := fun j _ => by rw [el_zeros]; exact in_zero
theorem new_all {R C : Int} {w : World} (R1 : R ≤ 1048576) (C1 : C ≤ 1048576) :
    Calls Try.prog 18 #[.int .i64 R, .int .i64 C] w fun e w' => (∃ s m c, e = .returned (.agg #[.int .i64 (newA R C R), .int .i64 (newA R C C), .slice s m c]) ∧ Seen w' s m c (newL R C)) ∧ Grew w w' := by
  unfold newL newA
  cases hb : newB R C with
  | false =>
    rw [if_neg (by decide), if_neg (by decide), if_neg (by decide)]
    exact (new_no w R1 C1 hb).mono fun e w' ⟨he, hg⟩ => ⟨⟨_, _, _, he, Seen.none⟩, hg⟩
  | true =>
    rw [if_pos rfl, if_pos rfl, if_pos rfl]
    obtain ⟨r, c, rfl, rfl, h3, h4, h5⟩ := newB_nat hb
    exact (new_yes w rfl h3 h4 h5).mono fun e w' ⟨⟨g, he, hbuf⟩, hg⟩ => ⟨⟨_, _, _, he, hbuf.seen (by omega) (fit_zeros _)⟩, hg⟩
theorem rnew_all {R C : Int} {w : World} (R1 : R ≤ 1048576) (C1 : C ≤ 1048576) :
    Calls Try.prog 19 #[.int .i64 R, .int .i64 C] w fun e w' => (∃ s m c, e = .returned (.agg #[.int .i64 (newA R C R), .int .i64 (newA R C C), .slice s m c]) ∧ Seen w' s m c (newL R C)) ∧ Grew w w' := by
  unfold newL newA
  cases hb : newB R C with
  | false =>
    rw [if_neg (by decide), if_neg (by decide), if_neg (by decide)]
    exact (rnew_no w R1 C1 hb).mono fun e w' ⟨he, hg⟩ => ⟨⟨_, _, _, he, Seen.none⟩, hg⟩
  | true =>
    rw [if_pos rfl, if_pos rfl, if_pos rfl]
    obtain ⟨r, c, rfl, rfl, h3, h4, h5⟩ := newB_nat hb
    exact (rnew_yes w rfl h3 h4 h5).mono fun e w' ⟨⟨g, he, hbuf⟩, hg⟩ => ⟨⟨_, _, _, he, hbuf.seen (by omega) (fit_zeros _)⟩, hg⟩
end Go.Proofs.Ytklledigcabllaa
