/- Package draw: what a stream is in memory (Stm); slices.Clone of draws, New, Left, Used, outside, below, Next and Clone. Condition: at most 2^44 draws. -/
import Derived.Test.YtdcpankbolfmiaaNa
import Derived.Deep.QuietTactic
import Derived.BigQuiet
import Derived.Lib.SliceRun
namespace Go.Proofs.Ytdcpankbolfmiaa
open Go.RowKit

/-- Block b is a stream over the draws zs, the first k of which are used; the draws lie below block D. -/
def Stm (D : Nat) (W : World) (b : Nat) (zs : List Int) (k : Nat) : Prop :=
  D ≤ b ∧ k ≤ zs.length ∧ ∃ a c, zs.length ≤ c ∧ c ≤ maxLen ∧ Two W b 89 (.slice a zs.length c) (.int .i64 k) ∧ RdK .u64 D W a zs
section
variable {D b k : Nat} {W W' : World} {zs : List Int}
theorem Stm.lt (h : Stm D W b zs k) : b < W.heap.size := by obtain ⟨_, _, a, c, _, _, h2, _⟩ := h; exact h2.lt
theorem Stm.le (h : Stm D W b zs k) : k ≤ zs.length := h.2.1
/-- What changes neither the draws nor the stream's block. -/
theorem Stm.keep (h : Stm D W b zs k) (g : Below D W W') (hb : W'.heap[b]? = W.heap[b]?) : Stm D W' b zs k := by
  obtain ⟨h0, h1, a, c, hc, hm, h2, h3⟩ := h
  exact ⟨h0, h1, a, c, hc, hm, hb.trans h2, h3.below g⟩
theorem Stm.grow (h : Stm D W b zs k) (g : Grew W W') : Stm D W' b zs k :=
  h.keep (Below.mono g (Nat.le_trans h.1 (Nat.le_of_lt h.lt))) (Below.block g b h.lt)
/-- Another block is written. -/
theorem Stm.grown {r : Nat} (h : Stm D W b zs k) (g : W.grownBy W' (some r)) (hr : D ≤ r) (hne : b ≠ r) : Stm D W' b zs k :=
  h.keep (grownBy_below g hr (Nat.le_trans h.1 (Nat.le_of_lt h.lt))) (g.block b h.lt (fun e => hne (by injection e)))
end
/-- Each is a draw: within the bounds of uint64. -/
def U64 (zs : List Int) : Prop := ∀ j, j < zs.length → 0 ≤ el zs j ∧ el zs j ≤ 18446744073709551615
theorem u64_wf {n : Int} (h : (Lit.int .u64 n).wf = true) : 0 ≤ n ∧ n ≤ 18446744073709551615 := by
  simp [Lit.wf, IntKind.min, IntKind.max, IntKind.signed, IntKind.bits] at h
  omega
/-- Whether a draw below n can be had when k are used; it; how many are used then. -/
def okN (zs : List Int) (k : Nat) (n : Int) : Bool := decide (1 ≤ n) && decide (k < zs.length)
def outN (zs : List Int) (k : Nat) (n : Int) : Int := if okN zs k n then el zs k % n else 0
def nxN (zs : List Int) (k : Nat) (n : Int) : Nat := if okN zs k n then k + 1 else k
theorem nxN_le {zs : List Int} {k : Nat} {n : Int} (h : k ≤ zs.length) : nxN zs k n ≤ zs.length := by
  unfold nxN okN
  by_cases h1 : k < zs.length <;> by_cases h2 : 1 ≤ n <;> simp [h1, h2] <;> omega
theorem okN_yes {zs : List Int} {k : Nat} {n : Int} (h1 : 1 ≤ n) (h2 : k < zs.length) : okN zs k n = true := by simp [okN, h1, h2]
theorem okN_low {zs : List Int} {k : Nat} {n : Int} (h1 : n < 1) : okN zs k n = false := by simp [okN, show ¬ 1 ≤ n by omega]
theorem okN_out {zs : List Int} {k : Nat} {n : Int} (h1 : zs.length ≤ k) : okN zs k n = false := by simp [okN, show ¬ k < zs.length by omega]

theorem info_u64 : (Try.prog.info? 36).map (fun i => (i.zero, i.size, i.bytes)) = some (some (.int .u64 0), 1, 8) := by kernel_rfl

set_option maxHeartbeats 1000000 in
theorem uclone_any (a : Option Addr) (cap : Nat) (zs : List Int) (w : World) (hl : zs.length ≤ 17592186044416) (h : RdK .u64 w.heap.size w a zs) :
    Calls Try.prog 39 #[.slice a zs.length cap] w fun e w' => (∃ a' cap', e = .returned (.slice a' zs.length cap') ∧ BufK .u64 36 w.heap.size w' a' zs.length cap' zs) ∧ Grew w w' := by
  obtain ⟨i0, hi, hz0, hz1, hz2⟩ := info_parts info_u64
  have g0 : Grew w (w.alloc (.cells #[] 36)) := (Grew.refl w).alloc _
  have hown : (w.alloc (.cells #[] 36)).ownsRow w.heap.size 36 1 (.slice (some ⟨w.heap.size, 0, none⟩) 0 0) 0 [] := World.ownsRow_made w #[] 0 (Nat.le_refl _) (Nat.zero_le _) (by simp)
  have q22 : ∀ (w : World) (a : Option Addr) (n c n' c' : Nat), (binOp .eql 22 (.slice a n c) (.slice none n' c')).run Try.prog w = .ok (.bool a.isNone) w := fun w a n c n' c' => Lib.run_eql_slice_nil w _ _ a n c n' c' Try.underlying22
  cases a with
  | none =>
    obtain rfl : zs = [] := by
      rcases h with h | ⟨b, off, e, _⟩
      · exact h
      · cases e
    clear h hown g0
    simp only [List.length_nil]
    go_enter Try.func39, Try.ntmps39
    go_wp2
    go_ret
    exact ⟨⟨_, _, rfl, World.ownsRow_nil _ _ _ _⟩, Grew.refl _⟩
  | some x =>
    have HN : Hid (∀ (j : Nat) (u : Value), (zs.map (Value.int .u64))[j]? = some u → (w.alloc (.cells #[] 36)).cell? (x.add j) = some u) := Lib.hid (by
      intro j u hj
      have hlt : j < zs.length := by
        rcases Nat.lt_or_ge j zs.length with h' | h'
        · exact h'
        · rw [List.getElem?_eq_none (by simpa using h')] at hj; cases hj
      obtain ⟨b, off, e, hb, hc⟩ := (h.grow g0).at hlt
      injection e with e
      subst e
      rw [List.getElem?_map, el_lt hlt] at hj
      rw [Addr.add_lit, hc]
      exact hj)
    have HO := Lib.hid hown
    have HG := Lib.hid g0
    clear h hown g0
    go_enter Try.func39, Try.ntmps39
    go_wp2_with (at_builtin; refine wpList_append_own _ rfl _ _ 22 rfl w.heap.size 36 i0 (.int .u64 0) 1 8 Try.underlying22 hi hz0 hz1 hz2 rfl (by decide) _ _ _ rfl HO.out x zs.length cap (zs.map (Value.int .u64)) rfl ?qc1 ?qc2 ?qc3 ?qc4 ?qc5 ?qc6 ?_)
    case qc1 => simp
    case qc2 => exact HN.out
    case qc3 => intro u hu; obtain ⟨z, _, rfl⟩ := List.mem_map.1 hu; rfl
    case qc4 => unfold maxLen; omega
    case qc5 => omega
    case qc6 => simp
    intro v' w1 hown hgrow hnil
    have HG1 : Hid (Grew w w1) := Lib.hid (Below.grown HG.out hgrow (by simp) (by intro k hk; simp [Value.ownBlock] at hk; omega))
    obtain ⟨a', c', rfl, hb⟩ := own_ints (n := zs.length) (zs := zs) (q := .u64) hown
    have HB := Lib.hid hb
    clear hown hgrow hnil hb
    go_wp2
    go_ret
    exact ⟨⟨_, _, rfl, HB.out⟩, HG1.out⟩

theorem new_any (a : Option Addr) (cap : Nat) (zs : List Int) (w : World) (hl : zs.length ≤ 17592186044416) (h : RdK .u64 w.heap.size w a zs) :
    Calls Try.prog 32 #[.slice a zs.length cap] w fun e w' => (∃ b, e = .returned (.pointer (some ⟨b, 0, none⟩)) ∧ w.heap.size ≤ b ∧ Stm b w' b zs 0) ∧ Grew w w' := by
  have HX := Lib.hid h
  clear h
  go_enter Try.func32, Try.ntmps32
  go_wp2_with fail
  refine (uclone_any a cap zs w hl HX.out).mono ?_
  rintro e w1 ⟨⟨a', c', rfl, hb⟩, g1⟩
  have HB := Lib.hid hb
  have HG := Lib.hid g1
  clear hb g1
  go_wp2
  go_ret
  refine ⟨⟨_, rfl, HG.out.size, Nat.le_refl _, Nat.zero_le _, a', c', HB.out.fits.1, HB.out.fits.2, Two.new _ _ _ _, HB.out.rd.below ((Below.refl _ _).alloc (Nat.le_refl _) _)⟩, HG.out.alloc _⟩

theorem left_nil (w : World) : Calls Try.prog 46 #[.pointer none] w fun e w' => e = .returned (.int .i64 0) ∧ w = w' := by
  go_enter Try.func46, Try.ntmps46
  go_wp2
  go_ret
  exact ⟨rfl, rfl⟩
theorem Stm.drew {D b k : Nat} {W : World} {zs : List Int} (h : Stm D W b zs k) (m : Nat) : Stm D (W.drewN m) b zs k := h.grow ((Grew.refl _).drewN m)
theorem left_any {D b k : Nat} {zs : List Int} {w : World} (hl : zs.length ≤ 17592186044416) (h : Stm D w b zs k) :
    Calls Try.prog 46 #[.pointer (some ⟨b, 0, none⟩)] w fun e w' => e = .returned (.int .i64 ((zs.length : Int) - (k : Int))) ∧ ∃ m, w' = w.drewN m := by
  obtain ⟨_, hk, a, c, _, _, h2, _⟩ := h
  have c0 := h2.c0
  have c1 := h2.c1
  clear h2
  go_enter Try.func46, Try.ntmps46
  go_wp2
  go_quiet (fail)
  go_wp2
  go_ret
  exact ⟨rfl, _, rfl⟩
theorem outside_any (n : Int) (w : World) : Calls Try.prog 45 #[.int .i64 n] w fun e w' => e = .returned (.bool (decide (n < 1))) ∧ w = w' := by
  go_enter Try.func45, Try.ntmps45
  go_wp2
  go_ret
  exact ⟨rfl, rfl⟩
theorem below_any (d n : Int) (w : World) (h0 : 0 ≤ d) (h2 : 1 ≤ n) (h3 : n ≤ 9223372036854775807) :
    Calls Try.prog 47 #[.int .u64 d, .int .i64 n] w fun e w' => e = .returned (.int .i64 (d % n)) ∧ w = w' := by
  have hw : IntKind.u64.wrap n = n := by unfold IntKind.wrap; simp [IntKind.signed, IntKind.bits]; omega
  have ht : d.tmod n = d % n := Int.tmod_eq_emod_of_nonneg h0
  have hm0 := Int.emod_nonneg d (show n ≠ 0 by omega)
  have hm1 := Int.emod_lt_of_pos d (show 0 < n by omega)
  go_enter Try.func47, Try.ntmps47
  go_wp2
  go_ret
  exact ⟨rfl, rfl⟩
end Go.Proofs.Ytdcpankbolfmiaa
