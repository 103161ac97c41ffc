/- Small functions of package sampler and of its reference: slices.Clone of ints, within, Need, epochs. -/
import Derived.Test.YtdcpankbolfmiaaQb
import Derived.Test.YtdcpankbolfmiaaPe
import Derived.Laws.CopyOwn
import Derived.Deep.QuietTactic
import Derived.BigQuiet
import Derived.Lib.SliceRun
namespace Go.Proofs.Ytdcpankbolfmiaa
open Go.RowKit
set_option linter.unusedVariables false

theorem info_int12 : (Try.prog.info? 3).map (fun i => (i.zero, i.size, i.bytes)) = some (some (.int .i64 0), 1, 8) := by kernel_rfl
set_option maxHeartbeats 1000000 in
theorem iclone_any (a : Option Addr) (cap : Nat) (zs : List Int) (w : World) (hl : zs.length ≤ 17592186044416) (h : RdK .i64 w.heap.size w a zs) :
    Calls Try.prog 26 #[.slice a zs.length cap] w fun e w' => (∃ a' cap', e = .returned (.slice a' zs.length cap') ∧ BufK .i64 3 w.heap.size w' a' zs.length cap' zs) ∧ Grew w w' := by
  obtain ⟨i0, hi, hz0, hz1, hz2⟩ := info_parts info_int12
  have g0 : Grew w (w.alloc (.cells #[] 3)) := (Grew.refl w).alloc _
  have hown : (w.alloc (.cells #[] 3)).ownsRow w.heap.size 3 1 (.slice (some ⟨w.heap.size, 0, none⟩) 0 0) 0 [] := World.ownsRow_made w #[] 0 (Nat.le_refl _) (Nat.zero_le _) (by simp)
  have q22 : ∀ (w : World) (a : Option Addr) (n c n' c' : Nat), (binOp .eql 38 (.slice a n c) (.slice none n' c')).run Try.prog w = .ok (.bool a.isNone) w := fun w a n c n' c' => Lib.run_eql_slice_nil w _ _ a n c n' c' Try.underlying38
  cases a with
  | none =>
    obtain rfl : zs = [] := by
      rcases h with h | ⟨b, off, e, _⟩
      · exact h
      · cases e
    clear h hown g0
    simp only [List.length_nil]
    go_enter Try.func26, Try.ntmps26
    go_wp2
    go_ret
    exact ⟨⟨_, _, rfl, World.ownsRow_nil _ _ _ _⟩, Grew.refl _⟩
  | some x =>
    have HN : Hid (∀ (j : Nat) (u : Value), (zs.map (Value.int .i64))[j]? = some u → (w.alloc (.cells #[] 3)).cell? (x.add j) = some u) := Lib.hid (by
      intro j u hj
      have hlt : j < zs.length := by
        rcases Nat.lt_or_ge j zs.length with h' | h'
        · exact h'
        · rw [List.getElem?_eq_none (by simpa using h')] at hj; cases hj
      obtain ⟨b, off, e, hb, hc⟩ := (h.grow g0).at hlt
      obtain rfl := Option.some.inj e
      rw [List.getElem?_map, el_lt hlt] at hj
      rw [Addr.add_lit, hc]
      exact hj)
    have HO := Lib.hid hown
    have HG := Lib.hid g0
    clear h hown g0
    go_enter Try.func26, Try.ntmps26
    go_wp2_with (at_builtin; refine wpList_append_own _ rfl _ _ 38 rfl w.heap.size 3 i0 (.int .i64 0) 1 8 Try.underlying38 hi hz0 hz1 hz2 rfl (by decide) _ _ _ rfl HO.out x zs.length cap (zs.map (Value.int .i64)) rfl ?qc1 ?qc2 ?qc3 ?qc4 ?qc5 ?qc6 ?_)
    case qc1 => simp
    case qc2 => exact HN.out
    case qc3 => intro u hu; obtain ⟨z, _, rfl⟩ := List.mem_map.1 hu; rfl
    case qc4 => unfold maxLen; omega
    case qc5 => omega
    case qc6 => simp
    intro v' w1 hown hgrow hnil
    have HG1 : Hid (Grew w w1) := Lib.hid (Below.grown HG.out hgrow (by simp) (by intro k hk; simp [Value.ownBlock] at hk; omega))
    obtain ⟨a', c', rfl, hb⟩ := own_ints (n := zs.length) (zs := zs) (q := .i64) hown
    have HB := Lib.hid hb
    clear hown hgrow hnil hb
    go_wp2
    go_ret
    exact ⟨⟨_, _, rfl, HB.out⟩, HG1.out⟩
theorem iclone_n {n : Nat} (a : Option Addr) (cap : Nat) (zs : List Int) (w : World) (hn : zs.length = n) (hl : n ≤ 17592186044416) (h : RdK .i64 w.heap.size w a zs) :
    Calls Try.prog 26 #[.slice a n cap] w fun e w' => (∃ a' cap', e = .returned (.slice a' n cap') ∧ BufK .i64 3 w.heap.size w' a' n cap' zs) ∧ Grew w w' := by
  subst hn; exact iclone_any a cap zs w hl h

theorem within_any (n lo hi : Int) (w : World) : Calls Try.prog 19 #[.int .i64 n, .int .i64 lo, .int .i64 hi] w fun e w' => e = .returned (.bool (decide (lo ≤ n) && decide (n ≤ hi))) ∧ w = w' := by
  by_cases h : lo ≤ n
  · have HE := Lib.hid (decide_eq_true h)
    go_enter Try.func19, Try.ntmps19
    go_wp2
    go_ret
    exact ⟨ret_bool (by rw [HE.out, Bool.true_and]), rfl⟩
  · have HE := Lib.hid (decide_eq_false h)
    go_enter Try.func19, Try.ntmps19
    go_wp2
    go_ret
    exact ⟨ret_bool (by rw [HE.out, Bool.false_and]), rfl⟩

theorem rneed_any (n : Nat) (w : World) (h0 : 1 ≤ n) (h1 : n ≤ 1048576) : Calls Try.prog 24 #[.int .i64 n] w fun e w' => e = .returned (.int .i64 (n - 1 : Nat)) ∧ w = w' := by
  have h : ((n - 1 : Nat) : Int) = (n : Int) - 1 := by omega
  have HE := Lib.hid h
  clear h
  go_enter Try.func24, Try.ntmps24
  go_wp2
  go_ret
  exact ⟨ret_int HE.out.symm, rfl⟩

theorem repochs_any (n sz st : Nat) (w : World) (h1 : 0 < sz) (h2 : sz ≤ n) (h3 : n ≤ 60) (h4 : st ≤ 60) :
    Calls Try.prog 23 #[.int .i64 n, .int .i64 sz, .int .i64 st] w fun e w' => e = .returned (.int .i64 (epoN st (n / sz) : Nat)) ∧ w = w' := by
  have he : 0 < n / sz := Nat.div_pos h2 h1
  have hen : n / sz ≤ n := Nat.div_le_self n sz
  have hq : ((n : Int) / (sz : Int)) = ((n / sz : Nat) : Int) := by simp
  obtain ⟨ea, hea⟩ : ∃ ea, ea = n / sz := ⟨_, rfl⟩
  rw [← hea] at he hen hq ⊢
  clear hea
  have HI : Hid (∀ i, i < epoN st ea ↔ i * ea < st) := Lib.hid (fun i => epoN_iff he)
  have hE := epoN_le st ea
  obtain ⟨E, hEq⟩ : ∃ E, E = epoN st ea := ⟨_, rfl⟩
  rw [← hEq] at HI hE ⊢
  clear hEq
  go_enter Try.func23, Try.ntmps23
  go_wp2
  go_loopw [7, 8] (fun x y wr => ∃ i : Nat, i ≤ E ∧ x = .int .i64 i ∧ y = .int .i64 (i * ea : Nat) ∧ w = wr) (fun x _ _ => E - (intOf x).toNat)
  case atStart => exact ⟨0, Nat.zero_le _, rfl, by rw [Nat.zero_mul]; rfl, rfl⟩
  case round =>
    obtain ⟨i, hi, rfl, rfl, rfl⟩ := hrel
    by_cases hlt : i < E
    · have h5 : i * ea < st := (HI.out i).1 hlt
      have HT : Hid (i * ea + ea = (i + 1) * ea) := Lib.hid (by rw [Nat.add_mul, Nat.one_mul])
      generalize i * ea = T at *
      go_wp2
      go_roundw
      case rel => exact ⟨i + 1, by omega, by go_num, by rw [← HT.out]; go_num, trivial⟩
      case measure => simp [intOf]; omega
    · have h5 : ¬ i * ea < st := fun h => hlt ((HI.out i).2 h)
      obtain rfl : i = E := by omega
      generalize i * ea = T at *
      go_wp2
      go_ret
      exact ⟨rfl, rfl⟩
end Go.Proofs.Ytdcpankbolfmiaa
