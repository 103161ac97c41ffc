/- New of package draw once more: the stream's draws lie in memory that New has made (so what is written elsewhere leaves them). Condition: at most 2^44 draws. -/
import Derived.Test.YtfgkpbmjdgfdmaaSf
namespace Go.Proofs.Ytfgkpbmjdgfdmaa
open Go.RowKit

/-- A stream that New has just made from block B on: nothing is used. -/
def Fresh (B : Nat) (W : World) (b : Nat) (zs : List Int) : Prop :=
  B ≤ b ∧ ∃ a c, zs.length ≤ c ∧ c ≤ maxLen ∧ Two W b 52 (.slice a zs.length c) (.int .i64 0) ∧ BufK .u64 45 B W a zs.length c zs ∧ ∀ x, a = some x → x.block < b
theorem Fresh.lt {B b : Nat} {W : World} {zs : List Int} (h : Fresh B W b zs) : b < W.heap.size := by obtain ⟨_, a, c, _, _, h2, _⟩ := h; exact h2.lt
theorem Fresh.stm {B b : Nat} {W : World} {zs : List Int} (h : Fresh B W b zs) : Stm b W b zs 0 := by
  obtain ⟨_, a, c, hc, hm, h2, h3, h4⟩ := h
  refine ⟨Nat.le_refl _, Nat.zero_le _, a, c, hc, hm, h2, ?_⟩
  rcases h3.rd with h5 | ⟨g, off, ha, _, hcs⟩
  · exact .inl h5
  · exact .inr ⟨g, off, ha, h4 _ ha, hcs⟩
theorem Fresh.grow {B b : Nat} {W W' : World} {zs : List Int} (h : Fresh B W b zs) (g : Grew W W') : Fresh B W' b zs := by
  obtain ⟨h1, a, c, hc, hm, h2, h3, h4⟩ := h
  exact ⟨h1, a, c, hc, hm, h2.grow g, h3.grow g, h4⟩
/-- What lies below B may be written. -/
theorem Fresh.set {B b : Nat} {W : World} {zs : List Int} (h : Fresh B W b zs) (p : Addr) (hp : p.block < B) (v : Value) : Fresh B (W.setCell p v) b zs := by
  obtain ⟨h1, a, c, hc, hm, h2, h3, h4⟩ := h
  exact ⟨h1, a, c, hc, hm, h2.other p v (by omega), ownsRow_setCell_below h3 hp v, h4⟩

theorem new_fresh (a : Option Addr) (cap : Nat) (zs : List Int) (w : World) (hl : zs.length ≤ 17592186044416) (h : RdK .u64 w.heap.size w a zs) :
    Calls Try.prog 8 #[.slice a zs.length cap] w fun e w' => (∃ b, e = .returned (.pointer (some ⟨b, 0, none⟩)) ∧ Fresh w.heap.size w' b zs) ∧ Grew w w' := by
  have HX := Lib.hid h
  clear h
  go_enter Try.func8, Try.ntmps8
  go_wp2_with fail
  refine (uclone_any a cap zs w hl HX.out).mono ?_
  rintro e w1 ⟨⟨a', c', rfl, hb⟩, g1⟩
  have HB := Lib.hid hb
  have HG := Lib.hid g1
  clear hb g1
  go_wp2
  go_ret
  refine ⟨⟨_, rfl, HG.out.size, a', c', HB.out.fits.1, HB.out.fits.2, Two.new _ _ _ _, HB.out.grow ((Grew.refl _).alloc _), fun x hx => ?_⟩, HG.out.alloc _⟩
  subst hx
  exact (World.ownsRow.lt HB.out x.block rfl).2

theorem many_nil0 (w : World) : Calls Try.prog 13 #[.pointer none, .slice none 0 0] w fun e w' => e = .returned (.tuple #[.slice none 0 0, .bool false]) ∧ w = w' := many_nil [] none 0 w
/-- The statement's result stands in a block of its own. -/
theorem result_below {B : Nat} {w W W' : World} {t : TypeId} {v : Value} (h : Boxed W w.heap.size t v ∧ Below w.heap.size w W) (g : Below B W W') (hB : w.heap.size < B) : Boxed W' w.heap.size t v ∧ Below w.heap.size w W' :=
  ⟨(g.block _ hB).trans h.1, h.2.trans (g.mono (by omega))⟩
end Go.Proofs.Ytfgkpbmjdgfdmaa
