/- For MatKeeps: what is left where the call's own slice is written; Clone, Of and Turn with where their memory lies. Conditions: elements are within the bounds of int64; at most 2^40 of them. -/
import Derived.Test.YtklledigcabllaaUy
namespace Go.Proofs.Ytklledigcabllaa
open Go.RowKit

theorem buf_block {B n c : Nat} {W : World} {s : Option Addr} {zs : List Int} (h : Buf B W s n c zs) : ∀ g, (Value.slice s n c).ownBlock = some g → B ≤ g ∧ g < W.heap.size := by
  intro g hg
  rcases h.2 with ⟨e, _⟩ | ⟨b, cp, cur, e, hb, hc, _⟩
  · injection e with e1
    subst e1
    cases hg
  · injection e with e1
    subst e1
    simp only [Value.ownBlock] at hg
    injection hg with hg
    subst hg
    exact ⟨hb, (Array.getElem?_eq_some_iff.1 hc).1⟩
theorem below_of_grown {W W' : World} {r : Option Nat} {B : Nat} (h : W.grownBy W' r) (hr : ∀ g, r = some g → B ≤ g) (hB : B ≤ W.heap.size) : Below B W W' :=
  ⟨h.os, h.tape, h.output, h.size, fun k hk => h.block k (Nat.lt_of_lt_of_le hk hB) (fun e => by have := hr k e.symm; omega)⟩
theorem Buf.asideR {B n c : Nat} {W W' : World} {r : Option Nat} {s : Option Addr} {zs : List Int} (h : Buf B W s n c zs) (k : W.grownBy W' r) (hr : ∀ g, r = some g → g < B) : Buf B W' s n c zs := by
  refine ⟨h.1, ?_⟩
  rcases h.2 with e | ⟨b, cp, cur, e, hb, hc, rest⟩
  · exact .inl e
  · refine .inr ⟨b, cp, cur, e, hb, ?_, rest⟩
    rw [k.block b (Array.getElem?_eq_some_iff.1 hc).1 (fun e => by have := hr b e.symm; omega)]
    exact hc
section
variable {R C : Int} {a : Option Addr} {n cap : Nat} {zs : List Int} {w : World}
theorem rclone_all (hz : Seen w a n cap zs) (ha : a = none → cap = 0) :
    Calls Try.prog 29 #[.slice a n cap] w fun e w' => (∃ s c, e = .returned (.slice s n c) ∧ Buf w.heap.size w' s n c zs) ∧ Grew w w' := by
  obtain rfl := hz.1
  exact rclone_any a cap zs w hz.2.2.2.1 ha hz.rd
theorem of_seen (hz : Seen w a n cap zs) (h : rightB R C n = true) :
    Calls Try.prog 11 #[.int .i64 R, .int .i64 C, .slice a n cap] w fun e w' => (∃ g, e = .returned (.tuple #[.agg #[.int .i64 R, .int .i64 C, .slice (some ⟨g, 0, none⟩) n n], .bool true]) ∧ Buf w.heap.size w' (some ⟨g, 0, none⟩) n n zs) ∧ Grew w w' := by
  obtain rfl := hz.1
  have hl := hz.2.2.2.1
  exact (of_yes w h (by omega) hz.rd).mono fun e w' ⟨⟨g, he, hb⟩, hg⟩ => ⟨⟨_, he, hb.mono (by omega)⟩, hg⟩
theorem turn_seen (hz : Seen w a n cap zs) (h : rightB R C n = true) :
    Calls Try.prog 25 #[.agg #[.int .i64 R, .int .i64 C, .slice a n cap]] w fun e w' => (∃ g, e = .returned (.agg #[.int .i64 C, .int .i64 R, .slice (some ⟨g, 0, none⟩) n n]) ∧ Buf w.heap.size w' (some ⟨g, 0, none⟩) n n (turnR R C zs)) ∧ Grew w w' := by
  have hzl := hz.1
  unfold turnR
  rw [hzl, if_pos h]
  obtain ⟨r, c, rfl, rfl, r1, r2, c1, c2, hn⟩ := rightB_nat h
  subst hn
  obtain ⟨b, off, rfl⟩ := right_at hz.rd hzl r1 c1
  exact turn_yes w hzl r1 r2 c1 c2 hz.2.2.1 hz.2.1 hz.rd
theorem turnR_fit (hf : Fit zs) : Fit (turnR R C zs) := by
  unfold turnR
  split
  · exact turn_fit hf _ _
  · exact fit_nil
end
theorem turnR_no {R C : Int} {zs : List Int} (h : rightB R C zs.length = false) : turnR R C zs = [] := if_neg (by rw [h]; decide)
end Go.Proofs.Ytklledigcabllaa
