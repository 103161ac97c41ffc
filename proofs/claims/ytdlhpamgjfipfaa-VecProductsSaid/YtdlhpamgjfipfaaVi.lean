/- Clone of the reference: a copy in memory of the call's own. Condition: at most 2^40 elements. -/
import Derived.Test.YtdlhpamgjfipfaaVh
import Derived.OwnWalk
namespace Go.Proofs.Ytdlhpamgjfipfaa
open Go.RowKit

theorem info_int : (Try.prog.info? 2).map (fun i => (i.zero, i.size, i.bytes)) = some (some (.int .i64 0), 1, 8) := by kernel_rfl

set_option maxHeartbeats 1000000 in
theorem rclone_any (a : Option Addr) (cap : Nat) (zs : List Int) (w : World) (hl : zs.length ≤ 1099511627776) (ha : a = none → cap = 0) (h : Rd w.heap.size w a zs) :
    Calls Try.prog 16 #[.slice a zs.length cap] w fun e w' => (∃ a' cap', e = .returned (.slice a' zs.length cap') ∧ Buf w.heap.size w' a' zs.length cap' zs) ∧ Grew w w' := by
  obtain ⟨i0, hi, hz0, hz1, hz2⟩ := info_parts info_int
  have g0 : Grew w (w.alloc (.cells #[] 2)) := (Grew.refl w).alloc _
  have hown : (w.alloc (.cells #[] 2)).ownsRow w.heap.size 2 1 (.slice (some ⟨w.heap.size, 0, none⟩) 0 0) 0 [] := World.ownsRow_made w #[] 0 (Nat.le_refl _) (Nat.zero_le _) (by simp)
  cases a with
  | none =>
    obtain rfl := ha rfl
    obtain rfl : zs = [] := by
      rcases h with h | ⟨b, off, e, _⟩
      · exact h
      · cases e
    have HO := Lib.hid hown
    have HG := Lib.hid g0
    clear ha h hown g0
    simp only [List.length_nil]
    go_enter Try.func16, Try.ntmps16
    go_wp2
    go_ret
    exact ⟨⟨_, _, rfl, HO.out⟩, HG.out⟩
  | some x =>
    have HN : Hid (∀ (j : Nat) (u : Value), (zs.map (Value.int .i64))[j]? = some u → (w.alloc (.cells #[] 2)).cell? (x.add j) = some u) := Lib.hid (by
      intro j u hj
      have hlt : j < zs.length := by
        rcases Nat.lt_or_ge j zs.length with h' | h'
        · exact h'
        · rw [List.getElem?_eq_none (by simpa using h')] at hj; cases hj
      obtain ⟨b, off, e, hb, hc⟩ := (h.keep g0).at hlt
      injection e with e
      subst e
      rw [List.getElem?_map, el_lt hlt] at hj
      rw [Addr.add_lit, hc]
      exact hj)
    have HO := Lib.hid hown
    have HG := Lib.hid g0
    clear ha h hown g0
    go_enter Try.func16, Try.ntmps16
    go_wp2_with (at_builtin; refine wpList_append_own _ rfl _ _ 25 rfl w.heap.size 2 i0 (.int .i64 0) 1 8 Try.underlying25 hi hz0 hz1 hz2 rfl (by decide) _ _ _ rfl HO.out x zs.length cap (zs.map (Value.int .i64)) rfl ?qc1 ?qc2 ?qc3 ?qc4 ?qc5 ?qc6 ?_)
    case qc1 => simp
    case qc2 => exact HN.out
    case qc3 => intro u hu; obtain ⟨z, _, rfl⟩ := List.mem_map.1 hu; rfl
    case qc4 => unfold maxLen; omega
    case qc5 => omega
    case qc6 => simp
    intro v' w1 hown hgrow hnil
    have HG1 : Hid (Grew w w1) := Lib.hid (Below.grown HG.out hgrow (by simp) (by intro k hk; simp [Value.ownBlock] at hk; omega))
    rcases hown.2 with ⟨rfl, _⟩ | ⟨g, c, cur, rfl, _⟩
    · exact (hnil rfl).elim
    · have HB : Hid (Buf w.heap.size w1 (some ⟨g, 0, none⟩) zs.length c zs) := Lib.hid hown
      clear hown hgrow hnil
      go_wp2
      go_ret
      exact ⟨⟨_, _, rfl, HB.out⟩, HG1.out⟩

/-- The contracts at a slice whose length is said otherwise. -/
theorem vhash_n {n : Nat} (a : Option Addr) (c : Nat) (zs : List Int) (w : World) (hn : zs.length = n) (hl : n ≤ 35184372088832) (h : Rd w.heap.size w a zs) :
    Calls Try.prog 26 #[.slice a n c] w fun e w' => e = .returned (.int .u64 (hv zs zs.length)) ∧ w = w' := by subst hn; exact vhash_any a c zs w hl h
theorem rhash_n {n : Nat} (a : Option Addr) (c : Nat) (zs : List Int) (w : World) (hn : zs.length = n) (hl : n ≤ 35184372088832) (h : Rd w.heap.size w a zs) :
    Calls Try.prog 27 #[.slice a n c] w fun e w' => e = .returned (.int .u64 (hv zs zs.length)) ∧ w = w' := by subst hn; exact rhash_any a c zs w hl h
theorem rsame_n {n m : Nat} (a a' : Option Addr) (c c' : Nat) (xs ys : List Int) (w : World) (hn : xs.length = n) (hm : ys.length = m) (hx : n ≤ 35184372088832) (hy : m ≤ 35184372088832) (rx : Rd w.heap.size w a xs) (ry : Rd w.heap.size w a' ys) :
    Calls Try.prog 14 #[.slice a n c, .slice a' m c'] w fun e w' => e = .returned (.bool (decide (xs = ys))) ∧ Grew w w' := by subst hn hm; exact rsame_any a a' c c' xs ys w hx hy rx ry
theorem differ_n {n m : Nat} (a a' : Option Addr) (c c' : Nat) (xs ys : List Int) (w : World) (hn : xs.length = n) (hm : ys.length = m) (hx : n ≤ 35184372088832) (hy : m ≤ 35184372088832) (rx : Rd w.heap.size w a xs) (ry : Rd w.heap.size w a' ys) :
    Calls Try.prog 24 #[.slice a n c, .slice a' m c'] w fun e w' => e = .returned (.int .i64 (dif xs ys)) ∧ Grew w w' := by subst hn hm; exact differ_any a a' c c' xs ys w hx hy rx ry
end Go.Proofs.Ytdlhpamgjfipfaa
