/- Sizes in memory: outside, slices.ContainsFunc, slices.Clone and slices.Equal at integers; blocks of three cells; a box. Condition: at most 2^44 sizes. -/
import Derived.Test.YthcahpgandappaaTx
import Derived.Test.YthcahpgandappaaHa
import Derived.Deep.QuietTactic
import Derived.BigQuiet
import Derived.Lib.SliceRun
namespace Go.Proofs.Ythcahpgandappaa
open Go.RowKit

theorem RdK.two {q : IntKind} {B k j : Nat} {W : World} {a : Option Addr} {zs : List Int} (h : RdK q B W a zs) (hk : k < zs.length) (hj : j < zs.length) :
    ∃ b off, a = some ⟨b, off, none⟩ ∧ b < B ∧ W.cell? ⟨b, off + k, none⟩ = some (.int q (el zs k)) ∧ W.cell? ⟨b, off + j, none⟩ = some (.int q (el zs j)) := by
  rcases h with rfl | ⟨b, off, ha, hb, hc⟩
  · simp at hk
  · exact ⟨b, off, ha, hb, hc k hk, hc j hj⟩
theorem RdK.take {q : IntKind} {B k : Nat} {W : World} {a : Option Addr} {zs : List Int} (h : RdK q B W a zs) : RdK q B W a (zs.take k) := by
  rcases h with rfl | ⟨b, off, ha, hb, hc⟩
  · exact .inl (by simp)
  · refine .inr ⟨b, off, ha, hb, fun j hj => ?_⟩
    rw [List.length_take] at hj
    rw [show el (zs.take k) j = el zs j by unfold el; rw [List.getElem?_take_of_lt (by omega)]]
    exact hc j (by omega)

theorem soutside_any (z : Int) (w : World) : Calls Try.prog 28 #[.int .i64 z] w fun e w' => e = .returned (.bool (offS z)) ∧ w = w' := by
  have HE : Hid (offS z = (decide (z < 1) || decide (1048576 < z))) := Lib.hid rfl
  by_cases h1 : z < 1
  · go_enter Try.func28, Try.ntmps28
    go_wp2
    go_ret
    exact ⟨ret_bool (by rw [HE.out, decide_eq_true h1]; rfl), rfl⟩
  · by_cases h2 : 1048576 < z
    · go_enter Try.func28, Try.ntmps28
      go_wp2
      go_ret
      exact ⟨ret_bool (by rw [HE.out, decide_eq_true h2]; simp), rfl⟩
    · go_enter Try.func28, Try.ntmps28
      go_wp2
      go_ret
      exact ⟨ret_bool (by rw [HE.out, decide_eq_false (show ¬ z < 1 by omega), decide_eq_false (show ¬ 1048576 < z by omega)]; rfl), rfl⟩

theorem sindex_any (a : Option Addr) (c : Nat) (bs : List Int) (w : World) (hl : bs.length ≤ 17592186044416) (h : RdK .i64 w.heap.size w a bs) :
    Calls Try.prog 33 #[.slice a bs.length c, .func (.func 28) #[] #[]] w fun e w' => (∃ r : Int, e = .returned (.int .i64 r) ∧ decide (0 ≤ r) = badS bs) ∧ w = w' := by
  have HX := Lib.hid h
  clear h
  go_enter Try.func33, Try.ntmps33
  go_wp2
  go_loopw [8] (fun x wr => ∃ k : Nat, k ≤ bs.length ∧ x = .int .i64 k ∧ Hid (∀ j, j < k → offS (el bs j) = false) ∧ wr = w) (fun x _ => bs.length - (intOf x).toNat)
  case atStart => exact ⟨0, Nat.zero_le _, rfl, Lib.hid (fun j hj => absurd hj (Nat.not_lt_zero _)), rfl⟩
  case round =>
    obtain ⟨k, hk, rfl, HM, rfl⟩ := hrel
    by_cases hlt : k < bs.length
    · obtain ⟨b, off, rfl, hb, hc⟩ := HX.out.at hlt
      by_cases h1 : offS (el bs k) = true
      · have HE := Lib.hid (badS_yes hlt h1)
        have H1 := Lib.hid h1
        generalize el bs k = z at *
        clear h1
        go_wp2_with fail
        refine (soutside_any z _).mono ?_
        rintro e w1 ⟨rfl, rfl⟩
        rw [H1.out]
        go_wp2
        go_ret
        exact ⟨⟨_, rfl, by rw [HE.out]; simp⟩, rfl⟩
      · have h1 : offS (el bs k) = false := by simpa using h1
        have HM' : Hid (∀ j, j < k + 1 → offS (el bs j) = false) := Lib.hid (fun j hj => by
          by_cases e : j = k
          · subst e; exact h1
          · exact HM.out j (by omega))
        have H1 := Lib.hid h1
        generalize el bs k = z at *
        clear h1
        go_wp2_with fail
        refine (soutside_any z _).mono ?_
        rintro e w1 ⟨rfl, rfl⟩
        rw [H1.out]
        go_wp2
        go_roundw
        case rel => exact ⟨k + 1, by omega, by go_num, HM', trivial⟩
        case measure => simp [intOf]; omega
    · have HE : Hid (badS bs = false) := Lib.hid (badS_no (fun j hj => offS_no.1 (HM.out j (by omega))))
      go_wp2
      go_ret
      exact ⟨⟨_, rfl, by rw [HE.out]; simp⟩, rfl⟩

theorem scontains_any (a : Option Addr) (c : Nat) (bs : List Int) (w : World) (hl : bs.length ≤ 17592186044416) (h : RdK .i64 w.heap.size w a bs) :
    Calls Try.prog 27 #[.slice a bs.length c, .func (.func 28) #[] #[]] w fun e w' => e = .returned (.bool (badS bs)) ∧ w = w' := by
  have HX := Lib.hid h
  clear h
  go_enter Try.func27, Try.ntmps27
  go_wp2_with fail
  refine (sindex_any a c bs _ hl HX.out).mono ?_
  rintro e w1 ⟨⟨r, rfl, hr⟩, rfl⟩
  have HR := Lib.hid hr
  clear hr
  go_wp2
  go_ret
  exact ⟨ret_bool HR.out, rfl⟩

theorem info_int8 : (Try.prog.info? 3).map (fun i => (i.zero, i.size, i.bytes)) = some (some (.int .i64 0), 1, 8) := by kernel_rfl
set_option maxHeartbeats 1000000 in
theorem iclone_any (a : Option Addr) (cap : Nat) (zs : List Int) (w : World) (hl : zs.length ≤ 17592186044416) (h : RdK .i64 w.heap.size w a zs) :
    Calls Try.prog 29 #[.slice a zs.length cap] w fun e w' => (∃ a' cap', e = .returned (.slice a' zs.length cap') ∧ BufK .i64 3 w.heap.size w' a' zs.length cap' zs) ∧ Grew w w' := by
  obtain ⟨i0, hi, hz0, hz1, hz2⟩ := info_parts info_int8
  have g0 : Grew w (w.alloc (.cells #[] 3)) := (Grew.refl w).alloc _
  have hown : (w.alloc (.cells #[] 3)).ownsRow w.heap.size 3 1 (.slice (some ⟨w.heap.size, 0, none⟩) 0 0) 0 [] := World.ownsRow_made w #[] 0 (Nat.le_refl _) (Nat.zero_le _) (by simp)
  have q22 : ∀ (w : World) (a : Option Addr) (n c n' c' : Nat), (binOp .eql 22 (.slice a n c) (.slice none n' c')).run Try.prog w = .ok (.bool a.isNone) w := fun w a n c n' c' => Lib.run_eql_slice_nil w _ _ a n c n' c' Try.underlying22
  cases a with
  | none =>
    obtain rfl : zs = [] := by
      rcases h with h | ⟨b, off, e, _⟩
      · exact h
      · cases e
    clear h hown g0
    simp only [List.length_nil]
    go_enter Try.func29, Try.ntmps29
    go_wp2
    go_ret
    exact ⟨⟨_, _, rfl, World.ownsRow_nil _ _ _ _⟩, Grew.refl _⟩
  | some x =>
    have HN : Hid (∀ (j : Nat) (u : Value), (zs.map (Value.int .i64))[j]? = some u → (w.alloc (.cells #[] 3)).cell? (x.add j) = some u) := Lib.hid (by
      intro j u hj
      have hlt : j < zs.length := by
        rcases Nat.lt_or_ge j zs.length with h' | h'
        · exact h'
        · rw [List.getElem?_eq_none (by simpa using h')] at hj; cases hj
      obtain ⟨b, off, e, hb, hc⟩ := (h.grow g0).at hlt
      obtain rfl := Option.some.inj e
      rw [List.getElem?_map, el_lt hlt] at hj
      rw [Addr.add_lit, hc]
      exact hj)
    have HO := Lib.hid hown
    have HG := Lib.hid g0
    clear h hown g0
    go_enter Try.func29, Try.ntmps29
    go_wp2_with (at_builtin; refine wpList_append_own _ rfl _ _ 22 rfl w.heap.size 3 i0 (.int .i64 0) 1 8 Try.underlying22 hi hz0 hz1 hz2 rfl (by decide) _ _ _ rfl HO.out x zs.length cap (zs.map (Value.int .i64)) rfl ?qc1 ?qc2 ?qc3 ?qc4 ?qc5 ?qc6 ?_)
    case qc1 => simp
    case qc2 => exact HN.out
    case qc3 => intro u hu; obtain ⟨z, _, rfl⟩ := List.mem_map.1 hu; rfl
    case qc4 => unfold maxLen; omega
    case qc5 => omega
    case qc6 => simp
    intro v' w1 hown hgrow hnil
    have HG1 : Hid (Grew w w1) := Lib.hid (Below.grown HG.out hgrow (by simp) (by intro k hk; simp [Value.ownBlock] at hk; omega))
    obtain ⟨a', c', rfl, hb⟩ := own_ints (n := zs.length) (zs := zs) (q := .i64) hown
    have HB := Lib.hid hb
    clear hown hgrow hnil hb
    go_wp2
    go_ret
    exact ⟨⟨_, _, rfl, HB.out⟩, HG1.out⟩

theorem iclone_n {n : Nat} (a : Option Addr) (cap : Nat) (zs : List Int) (w : World) (hn : zs.length = n) (hl : n ≤ 17592186044416) (h : RdK .i64 w.heap.size w a zs) :
    Calls Try.prog 29 #[.slice a n cap] w fun e w' => (∃ a' cap', e = .returned (.slice a' n cap') ∧ BufK .i64 3 w.heap.size w' a' n cap' zs) ∧ Grew w w' := by
  subst hn; exact iclone_any a cap zs w hl h
theorem scontains_n {n : Nat} (a : Option Addr) (c : Nat) (bs : List Int) (w : World) (hn : bs.length = n) (hl : n ≤ 17592186044416) (h : RdK .i64 w.heap.size w a bs) :
    Calls Try.prog 27 #[.slice a n c, .func (.func 28) #[] #[]] w fun e w' => e = .returned (.bool (badS bs)) ∧ w = w' := by
  subst hn; exact scontains_any a c bs w hl h
end Go.Proofs.Ythcahpgandappaa
