/- The reference's Epoch, Batch, piece, Shard, Micro. -/
import Derived.Test.YtdcpankbolfmiaaQi
namespace Go.Proofs.Ytdcpankbolfmiaa
open Go.RowKit
set_option linter.unusedVariables false

section
variable {D n sz st : Nat} {zs : List Int} {w : World} {oa : Option Addr} {oc : Nat}
theorem repoch_no (t : Int) (a : Option Addr) (m c : Nat) (ht : t < 0 ∨ (st : Int) ≤ t) :
    Calls Try.prog 28 #[.agg #[.int .i64 n, .int .i64 sz, .int .i64 st, .slice a m c], .int .i64 t] w fun e w' => e = .returned (.tuple #[.int .i64 0, .int .i64 0, .bool false]) ∧ Grew w w' := by
  have HG := Lib.hid (((Grew.refl w).alloc (.cells #[.int .i64 n, .int .i64 sz, .int .i64 st, .slice a m c] 33)))
  by_cases h0 : t < 0
  · go_enter Try.func28, Try.ntmps28
    go_wp2
    exact bodyPost_ret (v := .tuple #[.int .i64 0, .int .i64 0, .bool false]) (by simp [results, Try.results28, go_sem]) rfl ⟨rfl, HG.out⟩
  · have h1 : (st : Int) ≤ t := by omega
    go_enter Try.func28, Try.ntmps28
    go_wp2
    exact bodyPost_ret (v := .tuple #[.int .i64 0, .int .i64 0, .bool false]) (by simp [results, Try.results28, go_sem]) rfl ⟨rfl, HG.out⟩

theorem repoch_yes (t : Nat) (a : Option Addr) (m c : Nat) (hS : Small n sz st) (ht : t < st) :
    Calls Try.prog 28 #[.agg #[.int .i64 n, .int .i64 sz, .int .i64 st, .slice a m c], .int .i64 t] w fun e w' => e = .returned (.tuple #[.int .i64 (t / (n / sz) : Nat), .int .i64 (t % (n / sz) : Nat), .bool true]) ∧ Grew w w' := by
  have HG := Lib.hid (((Grew.refl w).alloc (.cells #[.int .i64 n, .int .i64 sz, .int .i64 st, .slice a m c] 33)))
  obtain ⟨k1, k2, k3, k4⟩ := hS
  have he : 0 < n / sz := Nat.div_pos k2 k1
  have hen : n / sz ≤ n := Nat.div_le_self n sz
  have hz1 : ¬ sz = 0 := by omega
  have hz2 : ¬ n / sz = 0 := by omega
  have hq0 : ((n : Int) / (sz : Int)) = ((n / sz : Nat) : Int) := by simp
  have hqt : Int.tdiv (n : Int) (sz : Int) = ((n / sz : Nat) : Int) := by rw [Int.tdiv_eq_ediv_of_nonneg (by omega), hq0]
  generalize n / sz = ea at *
  have hq : ((t : Int) / (ea : Int)) = ((t / ea : Nat) : Int) := by simp
  have hm : ((t : Int) % (ea : Int)) = ((t % ea : Nat) : Int) := by simp
  have hq2 : Int.tdiv (t : Int) (ea : Int) = ((t / ea : Nat) : Int) := by rw [Int.tdiv_eq_ediv_of_nonneg (by omega), hq]
  have hm2 : Int.tmod (t : Int) (ea : Int) = ((t % ea : Nat) : Int) := by rw [Int.tmod_eq_emod_of_nonneg (by omega), hm]
  have h5 : t / ea ≤ t := Nat.div_le_self t ea
  have h6 := Nat.mod_lt t he
  generalize t / ea = q at *
  generalize t % ea = p at *
  have hw1 : IntKind.i64.wrap (q : Int) = q := IntWalk.i64_in _ (by omega)
  have hw2 : wrap64 (q : Int) = q := IntWalk.wrap64_in _ (by omega)
  have hw3 : IntKind.i64.wrap (p : Int) = p := IntWalk.i64_in _ (by omega)
  have hw4 : wrap64 (p : Int) = p := IntWalk.wrap64_in _ (by omega)
  have hw5 : IntKind.i64.wrap (ea : Int) = ea := IntWalk.i64_in _ (by omega)
  have hw6 : wrap64 (ea : Int) = ea := IntWalk.wrap64_in _ (by omega)
  go_enter Try.func28, Try.ntmps28
  go_wp2_with fail
  have HF := Lib.hid (Four.new w 33 (.int .i64 n) (.int .i64 sz) (.int .i64 st) (.slice a m c))
  generalize w.alloc (.cells #[.int .i64 n, .int .i64 sz, .int .i64 st, .slice a m c] 33) = V at *
  have C0 := HF.out.c0
  have C1 := HF.out.c1
  have hlF := HF.out.lt
  go_quiet (fail)
  go_wp2
  exact bodyPost_ret (v := .tuple #[.int .i64 q, .int .i64 p, .bool true]) (by simp [results, Try.results28, go_sem]) rfl ⟨rfl, HG.out.drewN _⟩

set_option maxHeartbeats 1000000 in
theorem rbatch_any (t : Int) (hS : Small n sz st) (h : Ords D w (.slice oa (epoN st (n / sz)) oc) (ordL n zs (epoN st (n / sz)))) :
    Calls Try.prog 12 #[.agg #[.int .i64 n, .int .i64 sz, .int .i64 st, .slice oa (epoN st (n / sz)) oc], .int .i64 t] w fun e w' => (∃ a c, e = .returned (.slice a (batL n sz st zs t).length c) ∧ (batL n sz st zs t).length ≤ c ∧ c ≤ 9223372036854775807 ∧ RdK .i64 w'.heap.size w' a (batL n sz st zs t)) ∧ Grew w w' := by
  have HG0 := Lib.hid (((Grew.refl w).alloc (.cells #[.int .i64 n, .int .i64 sz, .int .i64 st, .slice oa (epoN st (n / sz)) oc] 33)))
  have HF := Lib.hid (Four.new w 33 (.int .i64 n) (.int .i64 sz) (.int .i64 st) (.slice oa (epoN st (n / sz)) oc))
  by_cases hin : 0 ≤ t ∧ t < st
  · obtain ⟨h0, h1⟩ := hin
    obtain ⟨u, rfl⟩ := Int.eq_ofNat_of_zero_le h0
    have h1 : u < st := by omega
    have HE := Lib.hid (fun (w : World) => repoch_yes (w := w) u oa (epoN st (n / sz)) oc hS h1)
    obtain ⟨k1, k2, k3, k4⟩ := hS
    have he : 0 < n / sz := Nat.div_pos k2 k1
    have hel := epoN_of he h1
    have hpl := place_le (t := u) k1 k2
    have HB := Lib.hid (batL_yes (n := n) (sz := sz) (zs := zs) h1)
    have HL := Lib.hid (batL_len_yes (zs := zs) k1 k2 h1)
    obtain ⟨g, c, gj, cj, ev, hcell, hrd, hcj, hcm⟩ := h.row (j := u / (n / sz)) (m := n) (by rw [ordL_len]; exact hel) (by rw [rowAt_ord hel, ordE_len]) (by omega)
    injection ev with e1 e2 e3
    subst e1 e3
    rw [rowAt_ord hel] at hrd
    have HLo := Lib.hid (ordE_len n zs (u / (n / sz)))
    rw [HL.out, HB.out]
    have HR := Lib.hid hrd
    have hE := epoN_le st (n / sz)
    clear hrd h0 HB HL e2 h
    generalize ordE n zs (u / (n / sz)) = os at *
    generalize epoN st (n / sz) = E at *
    generalize u / (n / sz) = q at *
    have hpm : u % (n / sz) + 1 ≤ n := by
      have h4 := Nat.mod_lt u he
      have h5 := Nat.div_le_self n sz
      omega
    generalize u % (n / sz) = p at *
    generalize n / sz = ea at *
    have hf : (p : Int) * (sz : Int) = ((p * sz : Nat) : Int) := by push_cast; rfl
    generalize p * sz = f at *
    have HC : Hid (∀ W, Grew w W → RdK .i64 W.heap.size W (some ⟨gj, f, none⟩) ((os.drop f).take sz)) := Lib.hid (fun W g => by
      have hx := (HR.out.grow g).cut_some (f := f) (m := sz) (by rw [HLo.out]; exact hpl)
      rw [Nat.zero_add] at hx
      exact hx)
    clear HR HLo
    go_enter Try.func12, Try.ntmps12
    go_wp2_with fail
    refine (HE.out _).mono ?_
    rintro e w1 ⟨rfl, g1⟩
    have HG1 := Lib.hid (HG0.out.trans g1)
    have HF1 := Lib.hid (HF.out.grow g1)
    have HC1 := Lib.hid (HC.out w1 HG1.out)
    have C1 := HF1.out.c1
    have C3 := HF1.out.c3
    have C4 := (Below.cell HG1.out (block_in hcell)).trans hcell
    have hne : ¬ cj = f := by omega
    have hlt1 := g1.size
    clear hcell HC g1
    go_wp2_with fail
    go_quiet (fail)
    go_wp2
    simp only [Nat.add_sub_cancel_left]
    go_ret
    exact ⟨⟨_, _, rfl, by omega, by omega, HC1.out.grow ((Grew.refl _).drewN _)⟩, HG1.out.drewN _⟩
  · have HE := Lib.hid (fun (w : World) => repoch_no (n := n) (sz := sz) (st := st) (w := w) t oa (epoN st (n / sz)) oc (by omega))
    have HB := Lib.hid (batL_no (n := n) (sz := sz) (zs := zs) (show t < 0 ∨ (st : Int) ≤ t by omega))
    rw [HB.out]
    clear h
    generalize epoN st (n / sz) = E at *
    go_enter Try.func12, Try.ntmps12
    go_wp2_with fail
    refine (HE.out _).mono ?_
    rintro e w1 ⟨rfl, g1⟩
    have HG1 := Lib.hid (HG0.out.trans g1)
    clear g1
    go_wp2
    go_ret
    exact ⟨⟨_, _, rfl, Nat.le_refl _, by decide, .inl rfl⟩, HG1.out⟩
end

theorem reven_one (n k : Nat) (w : World) (hn : n ≤ 3000) (hk : k ≤ 3000) :
    Calls Try.prog 38 #[.int .i64 n, .int .i64 k] w fun e w' => (∃ ra rc, e = .returned (.slice ra k rc) ∧ RdR w'.heap.size w' ra (evenV n k)) ∧ Grew w w' := by
  by_cases h0 : k = 0
  · subst h0
    refine (reven_none (n : Int) 0 w (.inr (by omega))).mono ?_
    rintro e w' ⟨rfl, rfl⟩
    exact ⟨⟨none, 0, rfl, .inl rfl⟩, Grew.refl _⟩
  · refine (reven_some n k w hn (by omega) hk).mono ?_
    rintro e w' ⟨⟨ra, rc, rfl, hb⟩, g⟩
    exact ⟨⟨_, _, rfl, hb.rd⟩, g⟩

set_option maxHeartbeats 1000000 in
theorem rpiece_any {n : Nat} (a : Option Addr) (c k : Nat) (l : List Int) (i : Int) (w : World) (hn : l.length = n) (hl : n ≤ 3000) (hk : k ≤ 3000) (hc : n ≤ c) (hcm : c ≤ 9223372036854775807) (hX : RdK .i64 w.heap.size w a l) :
    Calls Try.prog 31 #[.slice a n c, .int .i64 i, .int .i64 k] w fun e w' => (∃ a' c', e = .returned (.slice a' (pieceL l i k).length c') ∧ (pieceL l i k).length ≤ c' ∧ c' ≤ 9223372036854775807 ∧ RdK .i64 w'.heap.size w' a' (pieceL l i k)) ∧ Grew w w' := by
  have HE := Lib.hid (fun w => reven_one n k w hl hk)
  by_cases hin : 0 ≤ i ∧ i < k
  · obtain ⟨h0, h1⟩ := hin
    obtain ⟨j, rfl⟩ := Int.eq_ofNat_of_zero_le h0
    have h1 : j < k := by omega
    have hst := stV_in (n := n) h1
    have HB := Lib.hid (pieceL_yes (l := l) h1)
    have HL := Lib.hid (pieceL_len (l := l) h1)
    rw [hn] at HB HL
    rw [HL.out, HB.out]
    have HEv := Lib.hid (evenV_at (n := n) h1)
    have HEl := Lib.hid (evenV_len n k)
    generalize evenV n k = ev at *
    generalize stV n k (j + 1) = hi at *
    generalize stV n k j = lo at *
    have HC := Lib.hid (fun W (g : Grew w W) => (hX.grow g).cut (c := c) (f := lo) (m := hi - lo) (by omega) (by omega))
    clear hX HB HL h0
    go_enter Try.func31, Try.ntmps31
    go_wp2_with fail
    refine (HE.out _).mono ?_
    rintro e w1 ⟨⟨ra, rc, rfl, hr⟩, g1⟩
    obtain ⟨b, off, rfl, hb, C0, C1⟩ := hr.at (k := j) (by rw [HEl.out]; exact h1)
    rw [HEv.out] at C0 C1
    simp only at C0 C1
    have HC1 := Lib.hid (HC.out w1 g1)
    have HG1 := Lib.hid g1
    clear hr g1 HC
    by_cases hcl : c = lo
    · rw [if_pos hcl] at HC1
      obtain rfl : hi = lo := by omega
      go_wp2_with fail
      go_quiet (fail)
      go_wp2
      rw [Nat.sub_self]
      rw [Nat.sub_self] at HC1
      go_ret
      exact ⟨⟨_, _, rfl, Nat.le_refl _, by decide, HC1.out.grow ((Grew.refl _).drewN _)⟩, HG1.out.drewN _⟩
    · rw [if_neg hcl] at HC1
      go_wp2_with fail
      go_quiet (fail)
      go_wp2
      go_ret
      exact ⟨⟨_, _, rfl, by omega, by omega, HC1.out.grow ((Grew.refl _).drewN _)⟩, HG1.out.drewN _⟩
  · have HB := Lib.hid (pieceL_no (l := l) (i := i) (k := k) (by omega))
    rw [HB.out]
    clear hX
    by_cases h0 : i < 0
    · go_enter Try.func31, Try.ntmps31
      go_wp2_with fail
      refine (HE.out _).mono ?_
      rintro e w1 ⟨⟨ra, rc, rfl, hr⟩, g1⟩
      have HG1 := Lib.hid g1
      clear hr g1
      go_wp2
      go_ret
      exact ⟨⟨_, _, rfl, Nat.le_refl _, by decide, .inl rfl⟩, HG1.out⟩
    · have h1 : (k : Int) ≤ i := by omega
      go_enter Try.func31, Try.ntmps31
      go_wp2_with fail
      refine (HE.out _).mono ?_
      rintro e w1 ⟨⟨ra, rc, rfl, hr⟩, g1⟩
      have HG1 := Lib.hid g1
      clear hr g1
      go_wp2
      go_ret
      exact ⟨⟨_, _, rfl, Nat.le_refl _, by decide, .inl rfl⟩, HG1.out⟩

section
variable {D n sz st : Nat} {zs : List Int} {w : World} {oa : Option Addr} {oc : Nat}
theorem rshard_any (t i : Int) (k : Nat) (hk : k ≤ 3000) (hS : Small n sz st) (h : Ords D w (.slice oa (epoN st (n / sz)) oc) (ordL n zs (epoN st (n / sz)))) :
    Calls Try.prog 16 #[.agg #[.int .i64 n, .int .i64 sz, .int .i64 st, .slice oa (epoN st (n / sz)) oc], .int .i64 t, .int .i64 i, .int .i64 k] w fun e w' => (∃ a c, e = .returned (.slice a (pieceL (batL n sz st zs t) i k).length c) ∧ (pieceL (batL n sz st zs t) i k).length ≤ c ∧ c ≤ 9223372036854775807 ∧ RdK .i64 w'.heap.size w' a (pieceL (batL n sz st zs t) i k)) ∧ Grew w w' := by
  have HE := Lib.hid (fun (W : World) (g : Grew w W) => rbatch_any (D := D) (oa := oa) (oc := oc) t hS (h.grow g))
  have hle := batL_le n sz st zs t
  obtain ⟨k1, k2, k3, k4⟩ := hS
  clear h
  generalize batL n sz st zs t = l at *
  have hpl := pieceL_le l i k
  have HP := Lib.hid (fun (a : Option Addr) (c : Nat) (W : World) => rpiece_any a c k l i W rfl (by omega) hk)
  obtain ⟨m, hm⟩ : ∃ m, m = l.length := ⟨_, rfl⟩
  rw [← hm] at hle HE hpl HP
  clear hm
  generalize pieceL l i k = l3 at *
  generalize epoN st (n / sz) = E at *
  have HG0 := Lib.hid (((Grew.refl w).alloc (.cells #[.int .i64 n, .int .i64 sz, .int .i64 st, .slice oa E oc] 33)))
  go_enter Try.func16, Try.ntmps16
  go_wp2_with fail
  refine (HE.out _ HG0.out).mono ?_
  rintro e w1 ⟨⟨a, c, rfl, hc1, hc2, hr⟩, g1⟩
  have HG := Lib.hid (HG0.out.trans g1)
  have HR := Lib.hid hr
  clear hr g1
  go_wp2_with fail
  refine (HP.out a c w1 hc1 hc2 HR.out).mono ?_
  rintro e w2 ⟨⟨a2, c2, rfl, hc3, hc4, hr⟩, g⟩
  have HR2 := Lib.hid hr
  have HG2 := Lib.hid (HG.out.trans g)
  clear hr g
  go_wp2
  go_ret
  exact ⟨⟨_, _, rfl, hc3, hc4, HR2.out⟩, HG2.out⟩

theorem rmicro_any (t i j : Int) (k k2 : Nat) (hk : k ≤ 3000) (hk2 : k2 ≤ 3000) (hS : Small n sz st) (h : Ords D w (.slice oa (epoN st (n / sz)) oc) (ordL n zs (epoN st (n / sz)))) :
    Calls Try.prog 18 #[.agg #[.int .i64 n, .int .i64 sz, .int .i64 st, .slice oa (epoN st (n / sz)) oc], .int .i64 t, .int .i64 i, .int .i64 k, .int .i64 j, .int .i64 k2] w fun e w' => (∃ a c, e = .returned (.slice a (pieceL (pieceL (batL n sz st zs t) i k) j k2).length c) ∧ (pieceL (pieceL (batL n sz st zs t) i k) j k2).length ≤ c ∧ c ≤ 9223372036854775807 ∧ RdK .i64 w'.heap.size w' a (pieceL (pieceL (batL n sz st zs t) i k) j k2)) ∧ Grew w w' := by
  have HE := Lib.hid (fun (W : World) (g : Grew w W) => rshard_any (D := D) (oa := oa) (oc := oc) t i k hk hS (h.grow g))
  have hle := batL_le n sz st zs t
  obtain ⟨k1, k2', k3, k4⟩ := hS
  clear h
  generalize batL n sz st zs t = l0 at *
  have hpl0 := pieceL_le l0 i k
  generalize pieceL l0 i k = l at *
  have hpl := pieceL_le l j k2
  have HP := Lib.hid (fun (a : Option Addr) (c : Nat) (W : World) => rpiece_any a c k2 l j W rfl (by omega) hk2)
  obtain ⟨m, hm⟩ : ∃ m, m = l.length := ⟨_, rfl⟩
  rw [← hm] at hpl0 HE hpl HP
  clear hm
  generalize pieceL l j k2 = l3 at *
  generalize epoN st (n / sz) = E at *
  have HG0 := Lib.hid (((Grew.refl w).alloc (.cells #[.int .i64 n, .int .i64 sz, .int .i64 st, .slice oa E oc] 33)))
  go_enter Try.func18, Try.ntmps18
  go_wp2_with fail
  refine (HE.out _ HG0.out).mono ?_
  rintro e w1 ⟨⟨a, c, rfl, hc1, hc2, hr⟩, g1⟩
  have HG := Lib.hid (HG0.out.trans g1)
  have HR := Lib.hid hr
  clear hr g1
  go_wp2_with fail
  refine (HP.out a c w1 hc1 hc2 HR.out).mono ?_
  rintro e w2 ⟨⟨a2, c2, rfl, hc3, hc4, hr⟩, g⟩
  have HR2 := Lib.hid hr
  have HG2 := Lib.hid (HG.out.trans g)
  clear hr g
  go_wp2
  go_ret
  exact ⟨⟨_, _, rfl, hc3, hc4, HR2.out⟩, HG2.out⟩
end
end Go.Proofs.Ytdcpankbolfmiaa
