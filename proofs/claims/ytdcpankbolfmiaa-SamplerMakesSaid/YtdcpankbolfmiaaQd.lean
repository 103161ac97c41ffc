/- Package sampler: a sampler in memory (Smp); Steps, Epoch, batch, Batch. -/
import Derived.Test.YtdcpankbolfmiaaQc
namespace Go.Proofs.Ytdcpankbolfmiaa
open Go.RowKit
set_option linter.unusedVariables false

/-- The numbers of a small run. -/
def Small (n sz st : Nat) : Prop := 0 < sz ∧ sz ≤ n ∧ n ≤ 60 ∧ st ≤ 60
/-- A sampler that a call has made from block D on. -/
def Smp (D : Nat) (W : World) (b n sz st : Nat) (zs : List Int) : Prop :=
  D ≤ b ∧ Small n sz st ∧ ∃ v, Four W b 57 v (.int .i64 sz) (.int .i64 (n / sz : Nat)) (.int .i64 st) ∧ Ords D W v (ordL n zs (epoN st (n / sz)))
theorem Smp.grow {D b n sz st : Nat} {W W' : World} {zs : List Int} (h : Smp D W b n sz st zs) (g : Grew W W') : Smp D W' b n sz st zs := by
  obtain ⟨h1, hs, v, h2, h3⟩ := h
  exact ⟨h1, hs, v, h2.grow g, h3.grow g⟩
theorem Ords.aside {D r : Nat} {W W' : World} {v : Value} {ls : List (List Int)} (h : Ords D W v ls) (g : W.grownBy W' (some r)) (hr : r < D) : Ords D W' v ls := by
  obtain ⟨A, C, k1, k2⟩ := h
  exact ⟨A, C, own_aside k1 g hr, fun j hj => own_aside (k2 j hj) g hr⟩
theorem Smp.aside {D b n sz st r : Nat} {W W' : World} {zs : List Int} (h : Smp D W b n sz st zs) (g : W.grownBy W' (some r)) (hr : r < D) : Smp D W' b n sz st zs := by
  obtain ⟨h1, hs, v, h2, h3⟩ := h
  exact ⟨h1, hs, v, h2.grown g (by intro e; injection e with e; omega), h3.aside g hr⟩

/-- Where a row that isn't empty lies. -/
theorem Ords.row {B m j : Nat} {W : World} {v : Value} {ls : List (List Int)} (h : Ords B W v ls) (hj : j < ls.length) (hm : (rowAt ls j).length = m) (h0 : 0 < m) :
    ∃ g c gj cj, v = .slice (some ⟨g, 0, none⟩) ls.length c ∧ W.cell? ⟨g, j, none⟩ = some (.slice (some ⟨gj, 0, none⟩) m cj) ∧ RdK .i64 W.heap.size W (some ⟨gj, 0, none⟩) (rowAt ls j) ∧ m ≤ cj ∧ cj ≤ 9223372036854775807 := by
  subst hm
  obtain ⟨A, C, k1, k2⟩ := h
  have hb := k2 j hj
  obtain ⟨gj, e, _, _, _, _⟩ := hb.at h0
  rcases k1.2 with ⟨_, h1⟩ | ⟨g, c, cur, rfl, _, hg, _⟩
  · omega
  · refine ⟨g, c, gj, C j, rfl, ?_, by rw [← e]; exact hb.rd, hb.fits.1, by have := hb.fits.2; unfold maxLen at this; omega⟩
    rw [World.ownsRow.cellAt k1 j (by omega)]
    simp [hj, e]

section
variable {D b n sz st : Nat} {zs : List Int} {w : World}
theorem steps_any (h : Smp D w b n sz st zs) : Calls Try.prog 13 #[.pointer (some ⟨b, 0, none⟩)] w fun e w' => e = .returned (.int .i64 st) ∧ w = w' := by
  obtain ⟨hD, hs, v, h2, h3⟩ := h
  have C3 := h2.c3
  have hlt := h2.lt
  clear h2 h3
  go_enter Try.func13, Try.ntmps13
  go_wp2
  go_ret
  exact ⟨rfl, rfl⟩

theorem epoch_no (t : Int) (h : Smp D w b n sz st zs) (ht : t < 0 ∨ (st : Int) ≤ t) :
    Calls Try.prog 36 #[.pointer (some ⟨b, 0, none⟩), .int .i64 t] w fun e w' => e = .returned (.tuple #[.int .i64 0, .int .i64 0, .bool false]) ∧ w = w' := by
  have HS := Lib.hid (steps_any h)
  clear h
  by_cases h0 : t < 0
  · go_enter Try.func36, Try.ntmps36
    go_wp2
    exact bodyPost_ret (v := .tuple #[.int .i64 0, .int .i64 0, .bool false]) (by simp [results, Try.results36, go_sem]) rfl ⟨rfl, rfl⟩
  · have h1 : (st : Int) ≤ t := by omega
    go_enter Try.func36, Try.ntmps36
    go_wp2_with fail
    refine HS.out.mono ?_
    rintro e w1 ⟨rfl, rfl⟩
    go_wp2
    exact bodyPost_ret (v := .tuple #[.int .i64 0, .int .i64 0, .bool false]) (by simp [results, Try.results36, go_sem]) rfl ⟨rfl, rfl⟩

theorem epoch_yes (t : Nat) (h : Smp D w b n sz st zs) (ht : t < st) :
    Calls Try.prog 36 #[.pointer (some ⟨b, 0, none⟩), .int .i64 t] w fun e w' => e = .returned (.tuple #[.int .i64 (t / (n / sz) : Nat), .int .i64 (t % (n / sz) : Nat), .bool true]) ∧ Grew w w' := by
  have HS := Lib.hid (steps_any h)
  have h' := h
  clear h
  obtain ⟨hD, ⟨k1, k2, k3, k4⟩, v, h2, h3⟩ := h'
  have C2 := h2.c2
  have hlt := h2.lt
  have he : 0 < n / sz := Nat.div_pos k2 k1
  have hen : n / sz ≤ n := Nat.div_le_self n sz
  clear h2 h3
  generalize n / sz = ea at *
  have hq : ((t : Int) / (ea : Int)) = ((t / ea : Nat) : Int) := by simp
  have hm : ((t : Int) % (ea : Int)) = ((t % ea : Nat) : Int) := by simp
  have hq2 : Int.tdiv (t : Int) (ea : Int) = ((t / ea : Nat) : Int) := by rw [Int.tdiv_eq_ediv_of_nonneg (by omega), hq]
  have hm2 : Int.tmod (t : Int) (ea : Int) = ((t % ea : Nat) : Int) := by rw [Int.tmod_eq_emod_of_nonneg (by omega), hm]
  have h5 : t / ea ≤ t := Nat.div_le_self t ea
  have h6 := Nat.mod_lt t he
  generalize t / ea = q at *
  generalize t % ea = p at *
  have hw1 : IntKind.i64.wrap (q : Int) = q := IntWalk.i64_in _ (by omega)
  have hw2 : wrap64 (q : Int) = q := IntWalk.wrap64_in _ (by omega)
  have hw3 : IntKind.i64.wrap (p : Int) = p := IntWalk.i64_in _ (by omega)
  have hw4 : wrap64 (p : Int) = p := IntWalk.wrap64_in _ (by omega)
  go_enter Try.func36, Try.ntmps36
  go_wp2_with fail
  refine HS.out.mono ?_
  rintro e w1 ⟨rfl, rfl⟩
  go_wp2_with fail
  go_quiet (fail)
  go_wp2
  exact bodyPost_ret (v := .tuple #[.int .i64 q, .int .i64 p, .bool true]) (by simp [results, Try.results36, go_sem]) rfl ⟨rfl, (Grew.refl _).drewN _⟩

set_option maxHeartbeats 1000000 in
theorem pbatch_any (t : Int) (h : Smp D w b n sz st zs) :
    Calls Try.prog 27 #[.pointer (some ⟨b, 0, none⟩), .int .i64 t] w fun e w' => (∃ a c, e = .returned (.slice a (batL n sz st zs t).length c) ∧ (batL n sz st zs t).length ≤ c ∧ c ≤ 9223372036854775807 ∧ RdK .i64 w'.heap.size w' a (batL n sz st zs t)) ∧ Grew w w' := by
  by_cases hin : 0 ≤ t ∧ t < st
  · obtain ⟨h0, h1⟩ := hin
    obtain ⟨u, rfl⟩ := Int.eq_ofNat_of_zero_le h0
    have h1 : u < st := by omega
    have HE := Lib.hid (epoch_yes u h h1)
    obtain ⟨hD, ⟨k1, k2, k3, k4⟩, v, h2, h3⟩ := h
    have he : 0 < n / sz := Nat.div_pos k2 k1
    have hel := epoN_of he h1
    have hpl := place_le (t := u) k1 k2
    have HB := Lib.hid (batL_yes (n := n) (sz := sz) (zs := zs) h1)
    have HL := Lib.hid (batL_len_yes (zs := zs) k1 k2 h1)
    obtain ⟨g, c, gj, cj, rfl, hcell, hrd, hcj, hcm⟩ := h3.row (j := u / (n / sz)) (m := n) (by rw [ordL_len]; exact hel) (by rw [rowAt_ord hel, ordE_len]) (by omega)
    rw [ordL_len] at h2
    rw [rowAt_ord hel] at hrd
    have HLo := Lib.hid (ordE_len n zs (u / (n / sz)))
    rw [HL.out, HB.out]
    have HR := Lib.hid hrd
    have C0 := h2.c0
    have C1 := h2.c1
    have hlt := h2.lt
    have hE := epoN_le st (n / sz)
    clear h2 h3 hrd h0 HB HL
    generalize ordE n zs (u / (n / sz)) = os at *
    generalize epoN st (n / sz) = E at *
    generalize u / (n / sz) = q at *
    have hpm : u % (n / sz) + 1 ≤ n := by
      have h4 := Nat.mod_lt u he
      have h5 := Nat.div_le_self n sz
      omega
    generalize u % (n / sz) = p at *
    generalize n / sz = ea at *
    have hf : (p : Int) * (sz : Int) = ((p * sz : Nat) : Int) := by push_cast; rfl
    have ht : ((p : Int) + 1) * (sz : Int) = ((p * sz + sz : Nat) : Int) := by push_cast; rw [Int.add_mul, Int.one_mul]
    generalize p * sz = f at *
    have HC : Hid (∀ W, Grew w W → RdK .i64 W.heap.size W (some ⟨gj, f, none⟩) ((os.drop f).take sz)) := Lib.hid (fun W g => by
      have hx := (HR.out.grow g).cut_some (f := f) (m := sz) (by rw [HLo.out]; exact hpl)
      rw [Nat.zero_add] at hx
      exact hx)
    clear HR HLo
    go_enter Try.func27, Try.ntmps27
    go_wp2_with fail
    refine HE.out.mono ?_
    rintro e w1 ⟨rfl, g1⟩
    have HC1 := Lib.hid (HC.out w1 g1)
    have HG1 := Lib.hid g1
    have C0' := (Below.cell g1 hlt).trans C0
    have C1' := (Below.cell g1 hlt).trans C1
    have C2' := (Below.cell g1 (block_in hcell)).trans hcell
    have hlt1 := g1.size
    clear C0 C1 hcell HC g1
    go_wp2_with fail
    go_quiet (fail)
    go_wp2
    simp only [Nat.add_sub_cancel_left]
    go_ret
    exact ⟨⟨_, _, rfl, Nat.le_refl _, by omega, HC1.out.grow ((Grew.refl _).drewN _)⟩, HG1.out.drewN _⟩
  · have HE := Lib.hid (epoch_no t h (by omega))
    have HB := Lib.hid (batL_no (n := n) (sz := sz) (zs := zs) (show t < 0 ∨ (st : Int) ≤ t by omega))
    rw [HB.out]
    clear h
    go_enter Try.func27, Try.ntmps27
    go_wp2_with fail
    refine HE.out.mono ?_
    rintro e w1 ⟨rfl, rfl⟩
    go_wp2
    go_ret
    exact ⟨⟨_, _, rfl, Nat.le_refl _, by decide, .inl rfl⟩, Grew.refl _⟩

theorem batch_any (t : Int) (h : Smp D w b n sz st zs) :
    Calls Try.prog 11 #[.pointer (some ⟨b, 0, none⟩), .int .i64 t] w fun e w' => (∃ a c, e = .returned (.slice a (batL n sz st zs t).length c) ∧ RdK .i64 w'.heap.size w' a (batL n sz st zs t)) ∧ Grew w w' := by
  have HE := Lib.hid (pbatch_any t h)
  have hle := batL_le n sz st zs t
  obtain ⟨hD, ⟨k1, k2, k3, k4⟩, v, h2, h3⟩ := h
  clear h2 h3
  generalize batL n sz st zs t = l at *
  go_enter Try.func11, Try.ntmps11
  go_wp2_with fail
  refine HE.out.mono ?_
  rintro e w1 ⟨⟨a, c, rfl, hc1, hc2, hr⟩, g1⟩
  have HR := Lib.hid hr
  have HG := Lib.hid g1
  clear hr g1
  go_wp2_with fail
  refine (iclone_any a c l w1 (by omega) HR.out).mono ?_
  rintro e w2 ⟨⟨a2, c2, rfl, hb⟩, g2⟩
  have HB := Lib.hid hb.rd
  have HG2 := Lib.hid (HG.out.trans g2)
  clear hb g2
  go_wp2
  go_ret
  exact ⟨⟨_, _, rfl, HB.out⟩, HG2.out⟩
end
end Go.Proofs.Ytdcpankbolfmiaa
