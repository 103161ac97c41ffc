/- New of package shape: the shape of right sizes, or none with the code. Conditions: at most 2^44 sizes, which can be read. -/
import Derived.Test.YthcahpgandappaaHe
import Derived.Test.YthcahpgandappaaHd
import Derived.Deep.AppendLies
import Derived.Deep.DeepCutAuto
import Derived.OrdersHeld
import Derived.Deep.RegionHeld
namespace Go.Proofs.Ythcahpgandappaa
open Go.RowKit

set_option maxHeartbeats 1000000 in
theorem next_any {b : Nat} {E n : Int} (w : World) (h : One w b 3 (.int .i64 E)) (E0 : 0 ≤ E) (E1 : E ≤ 4611686018427387904) (n0 : 0 ≤ n) (n1 : n ≤ 4611686018427387903) :
    Calls Try.prog 30 #[.int .i64 n, .pointer (some ⟨b, 0, none⟩)] w fun e w' => e = .returned (.agg #[.int .i64 E, .int .i64 (E + n)]) ∧ One w' b 3 (.int .i64 (E + n)) ∧ w.grownBy w' (some b) := by
  have c0 := h.c0
  have f0 := h.f0
  have hlt := h.lt
  have HO := Lib.hid ((h.set (.int .i64 (E + n))).alloc (.cells #[.int .i64 E, .int .i64 (E + n)] 58))
  have HG : Hid (w.grownBy ((w.setCell ⟨b, 0, none⟩ (.int .i64 (E + n))).alloc (.cells #[.int .i64 E, .int .i64 (E + n)] 58)) (some b)) := Lib.hid (grownBy_trans (grownBy_setCell1 w ⟨b, 0, none⟩ (.int .i64 (E + n))) (((Grew.refl _).alloc _).by' _))
  have HT := Lib.hid (Two.new (w.setCell ⟨b, 0, none⟩ (.int .i64 (E + n))) 58 (.int .i64 E) (.int .i64 (E + n)))
  clear h
  go_enter Try.func30, Try.ntmps30
  go_wp2
  have e0 := HT.out.c0
  have e1 := HT.out.c1
  rw [World.size_setCell] at e0 e1
  exact bodyPost_ret (v := .agg #[.int .i64 E, .int .i64 (E + n)]) (by simp [results, Try.results30, go_sem, e0, e1]) rfl ⟨rfl, HO.out, HG.out⟩

/-- What New has made behind k links: the shape's block b, the box behind it, the ranges. -/
def Part8 (W : World) (b : Nat) (sa : Option Addr) (n cs : Nat) (E : Int) (ws bs : List Rg) (m k : Nat) : Prop :=
  ∃ aw cw ab cb, Three W b 56 (.slice sa n cs) (.slice aw m cw) (.slice ab k cb) ∧ One W (b + 1) 3 (.int .i64 E) ∧
    W.ownsRow (b + 2) 58 2 (.slice aw m cw) m (rcells ws) ∧ W.ownsRow (b + 2) 58 2 (.slice ab k cb) k (rcells bs) ∧
    (∀ g, (Value.slice aw m cw).ownBlock = some g → (Value.slice ab k cb).ownBlock ≠ some g)
theorem part8_start (w : World) (sa : Option Addr) (n cs : Nat) :
    Part8 ((w.alloc (.cells #[.slice sa n cs, .slice none 0 0, .slice none 0 0] 56)).alloc (.cells #[.int .i64 0] 3)) w.heap.size sa n cs 0 [] [] 0 0 := by
  refine ⟨none, 0, none, 0, (Three.new w _ _ _ _).alloc _, ?_, World.ownsRow_nil _ _ _ _, World.ownsRow_nil _ _ _ _, fun _ h => nomatch h⟩
  have := One.new (w.alloc (.cells #[.slice sa n cs, .slice none 0 0, .slice none 0 0] 56)) 3 (.int .i64 0)
  rwa [World.size_alloc] at this
theorem rcells_snoc (l : List Rg) (x y : Int) : rcells (l ++ [(x, y)]) = rcells l ++ [.int .i64 x, .int .i64 y] := by rw [rcells_append]; rfl
theorem one_cells {x y : Int} : ∀ u ∈ ([.int .i64 x, .int .i64 y] : List Value), u.oneCell' = true := by
  intro u hu
  simp only [List.mem_cons, List.not_mem_nil, or_false] at hu
  rcases hu with rfl | rfl <;> rfl

set_option maxHeartbeats 4000000 in
theorem new_short (a : Option Addr) (c : Nat) (zs : List Int) (w : World) (hl : zs.length ≤ 17592186044416) (h : RdK .i64 w.heap.size w a zs) (hc : zs.length < 2 ∨ 16 < zs.length ∨ badS zs = true) :
    Calls Try.prog 17 #[.slice a zs.length c] w fun e w' => e = .returned (.tuple #[.pointer none, .int .i64 5]) ∧ Grew w w' := by
  have HX := Lib.hid h
  clear h
  by_cases h2 : zs.length < 2
  · go_enter Try.func17, Try.ntmps17
    go_wp2
    go_ret2
    exact ⟨rfl, Grew.refl _⟩
  · by_cases h16 : 16 < zs.length
    · go_enter Try.func17, Try.ntmps17
      go_wp2
      go_ret2
      exact ⟨rfl, Grew.refl _⟩
    · have HB : Hid (badS zs = true) := Lib.hid (by rcases hc with h | h | h; exact absurd h h2; exact absurd h h16; exact h)
      clear hc
      go_enter Try.func17, Try.ntmps17
      go_wp2_with fail
      refine (scontains_any a c zs _ hl HX.out).mono ?_
      rintro e w1 ⟨rfl, rfl⟩
      rw [HB.out]
      go_wp2
      go_ret2
      exact ⟨rfl, Grew.refl _⟩

set_option linter.unusedSimpArgs false in
set_option maxRecDepth 100000 in
set_option maxHeartbeats 2000000 in
theorem new_long {D off : Nat} (c : Nat) (zs : List Int) (w : World) (h2 : 2 ≤ zs.length) (h16 : zs.length ≤ 16) (hc : zs.length ≤ c) (hm : c ≤ maxLen) (hD : D < w.heap.size) (hok : OkS zs) (h : RdK .i64 w.heap.size w (some ⟨D, off, none⟩) zs) (hcell : ∀ j, j < zs.length → w.cell? ⟨D, off + j, none⟩ = some (.int .i64 (el zs j))) :
    Calls Try.prog 17 #[.slice (some ⟨D, off, none⟩) zs.length c] w fun e w' => ((∃ b, e = .returned (.tuple #[.pointer (some ⟨b, 0, none⟩), .int .i64 0]) ∧ Shp w.heap.size w' b zs ∧ cnt zs ≤ 1048576) ∨ (e = .returned (.tuple #[.pointer none, .int .i64 4]) ∧ 1048576 < cnt zs)) ∧ Grew w w' := by
  obtain ⟨i0, hi, hz0, hz1, hz2⟩ := info_parts info_range
  obtain ⟨n, hn⟩ : ∃ n, zs.length = n := ⟨_, rfl⟩
  obtain ⟨m, hmn⟩ : ∃ m, n = m + 1 := ⟨n - 1, by omega⟩
  have hlk : lnk zs = m := by unfold lnk; omega
  have HX := Lib.hid h
  have HC := Lib.hid (fun j (hj : j < n) => hcell j (by omega))
  have HO := Lib.hid hok
  have HN := Lib.hid hn
  have HL := Lib.hid hlk
  have HB := Lib.hid (badS_no hok)
  rw [hn] at h2 h16 hc ⊢
  subst hmn
  have hm1 : 1 ≤ m := by omega
  have hm15 : m ≤ 15 := by omega
  have hcm : c ≤ 9223372036854775807 := hm
  have hc1 : ¬ c = 1 := by omega
  clear h hcell hok hn hlk h2 h16
  go_enter Try.func17, Try.ntmps17
  go_wp2_with fail
  refine (scontains_n (some ⟨D, off, none⟩) c zs _ HN.out (by omega) HX.out).mono ?_
  rintro e w1 ⟨rfl, rfl⟩
  rw [HB.out]
  go_wp2_with fail
  refine (iclone_n (some ⟨D, off, none⟩) c zs _ HN.out (by omega) HX.out).mono ?_
  rintro e w1 ⟨⟨sa, cs, rfl, hb⟩, g1⟩
  have HS := Lib.hid hb
  have HG1 := Lib.hid g1
  have HP0 := Lib.hid (part8_start w1 sa (m + 1) cs)
  have HW0 : Hid (Grew w1 ((w1.alloc (.cells #[.slice sa (m + 1 : Nat) cs, .slice none 0 0, .slice none 0 0] 56)).alloc (.cells #[.int .i64 0] 3))) := Lib.hid (((Grew.refl w1).alloc _).alloc _)
  have hDw := Nat.lt_of_lt_of_le hD g1.size
  clear hb g1
  go_wp2
  obtain ⟨b, hbz⟩ : ∃ b, w1.heap.size = b := ⟨_, rfl⟩
  have HBz := Lib.hid hbz
  have hDb : D < b := by omega
  have hbD : w.heap.size ≤ b := by rw [← hbz]; exact HG1.out.size
  have HW1 : Hid (Below b w1 ((w1.alloc (.cells #[.slice sa (m + 1 : Nat) cs, .slice none 0 0, .slice none 0 0] 56)).alloc (.cells #[.int .i64 0] 3))) := Lib.hid (by rw [← hbz]; exact HW0.out)
  rw [hbz] at HP0
  rw [hbz]
  generalize (w1.alloc (.cells #[.slice sa (m + 1 : Nat) cs, .slice none 0 0, .slice none 0 0] 56)).alloc (.cells #[.int .i64 0] 3) = W0 at *
  clear hbz hDw HW0
  go_loopw [30] (fun x wr => ∃ k : Nat, k ≤ m ∧ x = .int .i64 k ∧ Hid (cntN zs k ≤ 1048576) ∧ Hid (Part8 wr b sa (m + 1) cs (cntN zs k) (wts zs k) (bss zs k) k k) ∧ Hid (Below b w1 wr)) (fun x _ => m - (intOf x).toNat)
  case atStart => exact ⟨0, Nat.zero_le _, rfl, Lib.hid (by show (0 : Int) ≤ 1048576; omega), HP0, HW1⟩
  case round =>
    obtain ⟨k, hk, rfl, HE, HP, HG⟩ := hrel
    by_cases hlt : k < m
    · have hkl : k < lnk zs := by rw [HL.out]; exact hlt
      have hgw : Below w.heap.size w wr := HG1.out.trans_below HG.out hbD
      have hd1 : wr.cell? ⟨D, off + 1 + k, none⟩ = some (.int .i64 (el zs (k + 1))) := by
        have := HC.out (k + 1) (by omega)
        rw [hgw.cell (p := ⟨D, off + 1 + k, none⟩) hD, show off + 1 + k = off + (k + 1) by omega]
        exact this
      have hd2 : wr.cell? ⟨D, off + k, none⟩ = some (.int .i64 (el zs k)) := (hgw.cell (p := ⟨D, off + k, none⟩) hD).trans (HC.out k (by omega))
      have hx := this_in HO.out hkl
      have hy := next_in HO.out hkl
      have hwg := wgt_in HO.out hkl
      have hcn := (cntN_in HO.out (Nat.le_of_lt hkl)).1
      have hce := HE.out
      have hm : el zs (k + 1) * el zs k = wgt zs k := Int.mul_comm _ _
      have hmy : el zs (k + 1) * (el zs k + 1) = wgt zs k + el zs (k + 1) := by rw [Int.mul_comm]; exact mul_next zs k
      have HV : Hid (cntN zs (k + 1) = cntN zs k + (wgt zs k + el zs (k + 1))) := Lib.hid rfl
      have HO5 : Hid (1048576 < cntN zs k + (wgt zs k + el zs (k + 1)) → 1048576 < cnt zs) := Lib.hid (cnt_over HO.out hkl)
      have HWS : Hid (wts zs (k + 1) = wts zs k ++ [(cntN zs k, cntN zs k + wgt zs k)]) := Lib.hid (wts_succ zs k)
      have HBS : Hid (bss zs (k + 1) = bss zs k ++ [(cntN zs k + wgt zs k, cntN zs k + (wgt zs k + el zs (k + 1)))]) := Lib.hid (bss_succ zs k)
      generalize cntN zs k = N at *
      generalize wgt zs k = M at *
      generalize el zs k = x at *
      generalize el zs (k + 1) = y at *
      have hwM : IntKind.i64.wrap M = M := IntWalk.i64_in _ (by omega)
      obtain ⟨Q, hQ⟩ : ∃ Q, (1048576 - N) / (x + 1) = Q := ⟨_, rfl⟩
      have hq : (1048576 - N).tdiv (x + 1) = Q := by rw [Int.tdiv_eq_ediv_of_nonneg (by omega)]; exact hQ
      have hQ0 : 0 ≤ Q := by rw [← hQ]; exact Int.ediv_nonneg (by omega) (by omega)
      have hQ1 : Q ≤ 1048576 := by rw [← hQ]; exact Int.le_trans (Int.ediv_le_self _ (by omega)) (by omega)
      have hyQ : y ≤ Q ↔ M + y ≤ 1048576 - N := by rw [← hQ, Int.le_ediv_iff_mul_le (by omega), hmy]
      obtain ⟨aw, cw, ab, cb, ht, ho, hw, hbb, hap⟩ := HP.out
      have hltb := ht.lt
      have o0 := ho.c0
      have lo := ho.lt
      have HT := Lib.hid ht
      have HOn := Lib.hid ho
      have HW := Lib.hid hw
      have HB := Lib.hid hbb
      have HAP := Lib.hid hap
      have c1 := ht.c1
      clear ht ho hw hbb hap hQ hmy hgw HP HE
      by_cases hyq : y ≤ Q
      · have hnext : M + y ≤ 1048576 - N := hyQ.1 hyq
        clear hyQ
        go_upto_region 12 with fail
        go_cut [] (fun wx => Hid (Part8 wx b sa (m + 1) cs (N + M) (wts zs (k + 1)) (bss zs k) (k + 1) k) ∧ Hid (Below b w1 wx))
        case first =>
          refine wp_region_held_drew (S := (fun _ => True)) (by kernel_rfl) trivial (fun hHeld => ?_)
          refine wpAnyH_take (i := 0) (oi := { dst := some 46, op := Go.Op.move (Go.Operand.tmp 4), type := 41, pos := _, after := #[], guard := none }) (v := ?v1) rfl (by kernel_rfl) (by kernel_rfl) (by kernel_rfl) (fun _ _ _ h => h) (Or.inl ⟨by kernel_rfl, ?hy1⟩) (by assumption) ?_
          case hy1 => intro w hSw; (try dsimp only at hSw); first | (go_simp; done) | (go_simp; with_reducible rfl)
          (try simp only [Act.put, List.setIfInBounds_toArray, List.set_cons_zero, List.set_cons_succ])
          refine wpAnyH_take (i := 1) (oi := { dst := some 47, op := Go.Op.move (Go.Operand.tmp 4), type := 41, pos := _, after := #[], guard := none }) (v := ?v2) rfl (by kernel_rfl) (by kernel_rfl) (by kernel_rfl) (fun _ _ _ h => h) (Or.inl ⟨by kernel_rfl, ?hy2⟩) (by assumption) ?_
          case hy2 => intro w hSw; (try dsimp only at hSw); first | (go_simp; done) | (go_simp; with_reducible rfl)
          (try simp only [Act.put, List.setIfInBounds_toArray, List.set_cons_zero, List.set_cons_succ])
          refine wpAnyH_take (i := 2) (oi := { dst := some 48, op := Go.Op.nilCheck (Go.Operand.tmp 47), type := 0, pos := _, after := #[{ on := 1, ground := Go.Ground.data }], guard := none }) (v := ?v3) rfl (by kernel_rfl) (by kernel_rfl) (by kernel_rfl) (fun _ _ _ h => h) (Or.inl ⟨by kernel_rfl, ?hy3⟩) (by assumption) ?_
          case hy3 => intro w hSw; (try dsimp only at hSw); first | (go_simp; done) | (go_simp; with_reducible rfl)
          (try simp only [Act.put, List.setIfInBounds_toArray, List.set_cons_zero, List.set_cons_succ])
          refine wpAnyH_take (i := 3) (oi := { dst := some 49, op := Go.Op.fieldAddr 56 (Go.Operand.tmp 48) 1, type := 0, pos := _, after := #[{ on := 2, ground := Go.Ground.data }], guard := none }) (v := ?v4) rfl (by kernel_rfl) (by kernel_rfl) (by kernel_rfl) (fun _ _ _ h => h) (Or.inl ⟨by kernel_rfl, ?hy4⟩) (by assumption) ?_
          case hy4 => intro w hSw; (try dsimp only at hSw); first | (go_simp; done) | (go_simp; with_reducible rfl)
          (try simp only [Act.put, List.setIfInBounds_toArray, List.set_cons_zero, List.set_cons_succ])
          refine wpAnyH_take (i := 5) (oi := { dst := some 51, op := Go.Op.move (Go.Operand.tmp 6), type := 59, pos := _, after := #[], guard := none }) (v := ?v5) rfl (by kernel_rfl) (by kernel_rfl) (by kernel_rfl) (fun _ _ _ h => h) (Or.inl ⟨by kernel_rfl, ?hy5⟩) (by assumption) ?_
          case hy5 => intro w hSw; (try dsimp only at hSw); first | (go_simp; done) | (go_simp; with_reducible rfl)
          (try simp only [Act.put, List.setIfInBounds_toArray, List.set_cons_zero, List.set_cons_succ])
          refine wpAnyH_take (i := 6) (oi := { dst := some 52, op := Go.Op.move (Go.Operand.tmp 8), type := 3, pos := _, after := #[], guard := none }) (v := ?v6) rfl (by kernel_rfl) (by kernel_rfl) (by kernel_rfl) (fun _ _ _ h => h) (Or.inl ⟨by kernel_rfl, ?hy6⟩) (by assumption) ?_
          case hy6 => intro w hSw; (try dsimp only at hSw); first | (go_simp; done) | (go_simp; with_reducible rfl)
          (try simp only [Act.put, List.setIfInBounds_toArray, List.set_cons_zero, List.set_cons_succ])
          refine wpAnyH_take (i := 7) (oi := { dst := some 53, op := Go.Op.move (Go.Operand.tmp 9), type := 3, pos := _, after := #[], guard := none }) (v := ?v7) rfl (by kernel_rfl) (by kernel_rfl) (by kernel_rfl) (fun _ _ _ h => h) (Or.inl ⟨by kernel_rfl, ?hy7⟩) (by assumption) ?_
          case hy7 => intro w hSw; (try dsimp only at hSw); first | (go_simp; done) | (go_simp; with_reducible rfl)
          (try simp only [Act.put, List.setIfInBounds_toArray, List.set_cons_zero, List.set_cons_succ])
          refine wpAnyH_take (i := 8) (oi := { dst := some 54, op := Go.Op.binOp Go.BinOp.mul 3 (Go.Operand.tmp 52) (Go.Operand.tmp 53) 3, type := 3, pos := _, after := #[{ on := 6, ground := Go.Ground.data }, { on := 7, ground := Go.Ground.data }], guard := none }) (v := ?v8) rfl (by kernel_rfl) (by kernel_rfl) (by kernel_rfl) (fun _ _ _ h => h) (Or.inl ⟨by kernel_rfl, ?hy8⟩) (by assumption) ?_
          case hy8 => intro w hSw; (try dsimp only at hSw); first | (go_simp; done) | (go_simp; with_reducible rfl)
          (try simp only [Act.put, List.setIfInBounds_toArray, List.set_cons_zero, List.set_cons_succ])
          refine wpAnyH_ready (rs := [4, 9]) (by kernel_rfl) (by simp) ?_
          refine (AllReadyH.cons (o := { dst := some 50, op := Go.Op.load 54 (Go.Operand.tmp 49), type := 54, pos := _, after := #[{ on := 3, ground := Go.Ground.data }], guard := none }) rfl (fun K hK => ?b9_4) (AllReadyH.cons (o := { dst := some 55, op := Go.Op.call { callee := Go.Callee.value (Go.Operand.tmp 51), args := #[Go.Operand.tmp 54], argTypes := #[3] }, type := 58, pos := _, after := #[{ on := 5, ground := Go.Ground.data }, { on := 8, ground := Go.Ground.data }], guard := none }) rfl (fun K hK => ?b9_9) AllReadyH.nil))
          case b9_4 =>
            go_simp
            skip
            (try go_wp2_with fail)
            refine hK.out _ _ ?hS10 (fun hHeld => ?_)
            case hS10 => (try dsimp only); (try trivial)
            clear hK K
            (try simp only [Act.put, List.setIfInBounds_toArray, List.set_cons_zero, List.set_cons_succ])
            refine wpAnyH_ready (rs := [9]) (by kernel_rfl) (by simp) ?_
            refine AllReadyH.cons (o := { dst := some 55, op := Go.Op.call { callee := Go.Callee.value (Go.Operand.tmp 51), args := #[Go.Operand.tmp 54], argTypes := #[3] }, type := 58, pos := _, after := #[{ on := 5, ground := Go.Ground.data }, { on := 8, ground := Go.Ground.data }], guard := none }) rfl (fun K hK => ?_) AllReadyH.nil
            go_simp
            (go_at_call 30; refine (next_any (b := b + 1) (E := N) (n := M) _ (HOn.out.grow (Grew.drew' (Grew.refl wr))) (by omega) (by omega) (by omega) (by omega)).mono ?_; rintro e w2 ⟨rfl, ho2, g2⟩; have gt2 := grownBy_trans ((Grew.drew' (Grew.refl wr)).by' (some (b + 1))) g2; have ht2 := HT.out.grown gt2 (fun e => by injection e with e; omega); have d1 := ht2.c1; have d2 := ht2.c2; have hlt2 := ht2.lt; have HW2 := Lib.hid (own_aside HW.out gt2 (by omega)); have HB2 := Lib.hid (own_aside HB.out gt2 (by omega)); have HT2 := Lib.hid ht2; have HO2 := Lib.hid ho2; have HGT2 := Lib.hid gt2; clear ht2 ho2 g2 gt2)
            (try go_wp2_with fail)
            refine hK.out _ _ ?hS12 (fun hHeld => ?_)
            case hS12 => (try dsimp only); (try trivial)
            clear hK K
            (try simp only [Act.put, List.setIfInBounds_toArray, List.set_cons_zero, List.set_cons_succ])
            refine wpAnyH_ready (rs := [10]) (by kernel_rfl) (by simp) ?_
            refine AllReadyH.cons (o := { dst := some 56, op := Go.Op.buildSlice 54 1 #[(0, Go.Operand.tmp 55)], type := 54, pos := _, after := #[{ on := 9, ground := Go.Ground.data }], guard := none }) rfl (fun K hK => ?_) AllReadyH.nil
            go_simp
            skip
            (try go_wp2_with fail)
            refine hK.out _ _ ?hS14 (fun hHeld => ?_)
            case hS14 => (try dsimp only); (try trivial)
            clear hK K
            (try simp only [Act.put, List.setIfInBounds_toArray, List.set_cons_zero, List.set_cons_succ])
            refine wpAnyH_ready (rs := [11]) (by kernel_rfl) (by simp) ?_
            refine AllReadyH.cons (o := { dst := some 57, op := Go.Op.call { callee := Go.Callee.builtin Go.Builtin.append, args := #[Go.Operand.tmp 50, Go.Operand.tmp 56], argTypes := #[54, 54] }, type := 54, pos := _, after := #[{ on := 4, ground := Go.Ground.data }, { on := 10, ground := Go.Ground.data }, { on := 9, ground := Go.Ground.chain }], guard := none }) rfl (fun K hK => ?_) AllReadyH.nil
            (refine step_append_lies _ rfl _ _ 54 rfl (b + 2) 58 i0 (.agg #[.int .i64 0, .int .i64 0]) 2 16 Try.underlying54 hi hz0 hz1 hz2 rfl (by decide) (.slice aw k cw) k _ rfl (HW2.out.alloc _) ⟨w2.heap.size, 0, none⟩ 1 1 [.int .i64 (N), .int .i64 (N + M)] rfl rfl (cell_two_new _ _ _ _) one_cells (by decide) (by unfold maxLen; omega) (by omega) (by have := HO2.out.lt; simp; omega) _ rfl ?_; intro g' c' w3 hown hgrow hat hlt'; have ht3 := (HT2.out.alloc (.cells #[.int .i64 (N), .int .i64 (N + M)] 58)).grown hgrow (fun e => by have := (World.ownsRow.lt HW2.out b e.symm).1; omega); have ho3 := (HO2.out.alloc (.cells #[.int .i64 (N), .int .i64 (N + M)] 58)).grown hgrow (fun e => by have := (World.ownsRow.lt HW2.out (b + 1) e.symm).1; omega); have HB3 := Lib.hid (own_left (HB2.out.alloc (.cells #[.int .i64 (N), .int .i64 (N + M)] 58)) hgrow (fun g hg e => HAP.out g e.symm hg)); have e1 := ht3.c1; have e2 := ht3.c2; have f1 := ht3.f1; have f2 := ht3.f2; have lt3 := ht3.lt; have HAT := Lib.hid hat; have HGR := Lib.hid hgrow; have HW3 := Lib.hid hown; have HT3 := Lib.hid ht3; have HO3 := Lib.hid ho3; clear hown hgrow hat hlt' ht3 ho3)
            (try go_wp2_with fail)
            refine hK.out _ _ ?hS16 (fun hHeld => ?_)
            case hS16 => (try dsimp only); (try trivial)
            clear hK K
            (try simp only [Act.put, List.setIfInBounds_toArray, List.set_cons_zero, List.set_cons_succ])
            refine wpAnyH_take (i := 12) (oi := { dst := some 58, op := Go.Op.nilCheck (Go.Operand.tmp 46), type := 0, pos := _, after := #[{ on := 0, ground := Go.Ground.data }, { on := 0, ground := Go.Ground.phase }, { on := 1, ground := Go.Ground.phase }, { on := 2, ground := Go.Ground.phase }, { on := 3, ground := Go.Ground.phase }, { on := 4, ground := Go.Ground.phase }, { on := 5, ground := Go.Ground.phase }, { on := 6, ground := Go.Ground.phase }, { on := 7, ground := Go.Ground.phase }, { on := 8, ground := Go.Ground.phase }, { on := 9, ground := Go.Ground.phase }, { on := 10, ground := Go.Ground.phase }, { on := 11, ground := Go.Ground.phase }], guard := none }) (v := ?v17) rfl (by kernel_rfl) (by kernel_rfl) (by kernel_rfl) (fun _ _ _ h => h) (Or.inl ⟨by kernel_rfl, ?hy17⟩) (by assumption) ?_
            case hy17 => intro w hSw; (try dsimp only at hSw); first | (go_simp; done) | (go_simp; with_reducible rfl)
            (try simp only [Act.put, List.setIfInBounds_toArray, List.set_cons_zero, List.set_cons_succ])
            refine wpAnyH_take (i := 13) (oi := { dst := some 59, op := Go.Op.fieldAddr 56 (Go.Operand.tmp 58) 1, type := 0, pos := _, after := #[{ on := 12, ground := Go.Ground.data }, { on := 0, ground := Go.Ground.phase }, { on := 1, ground := Go.Ground.phase }, { on := 2, ground := Go.Ground.phase }, { on := 3, ground := Go.Ground.phase }, { on := 4, ground := Go.Ground.phase }, { on := 5, ground := Go.Ground.phase }, { on := 6, ground := Go.Ground.phase }, { on := 7, ground := Go.Ground.phase }, { on := 8, ground := Go.Ground.phase }, { on := 9, ground := Go.Ground.phase }, { on := 10, ground := Go.Ground.phase }, { on := 11, ground := Go.Ground.phase }], guard := none }) (v := ?v18) rfl (by kernel_rfl) (by kernel_rfl) (by kernel_rfl) (fun _ _ _ h => h) (Or.inl ⟨by kernel_rfl, ?hy18⟩) (by assumption) ?_
            case hy18 => intro w hSw; (try dsimp only at hSw); first | (go_simp; done) | (go_simp; with_reducible rfl)
            (try simp only [Act.put, List.setIfInBounds_toArray, List.set_cons_zero, List.set_cons_succ])
            refine wpAnyH_ready (rs := [14]) (by kernel_rfl) (by simp) ?_
            refine AllReadyH.cons (o := { dst := none, op := Go.Op.store 54 (Go.Operand.tmp 59) (Go.Operand.tmp 57), type := 0, pos := _, after := #[{ on := 13, ground := Go.Ground.data }, { on := 11, ground := Go.Ground.data }, { on := 11, ground := Go.Ground.chain }, { on := 0, ground := Go.Ground.phase }, { on := 1, ground := Go.Ground.phase }, { on := 2, ground := Go.Ground.phase }, { on := 3, ground := Go.Ground.phase }, { on := 4, ground := Go.Ground.phase }, { on := 5, ground := Go.Ground.phase }, { on := 6, ground := Go.Ground.phase }, { on := 7, ground := Go.Ground.phase }, { on := 8, ground := Go.Ground.phase }, { on := 9, ground := Go.Ground.phase }, { on := 10, ground := Go.Ground.phase }, { on := 11, ground := Go.Ground.phase }], guard := none }) rfl (fun K hK => ?_) AllReadyH.nil
            go_simp
            skip
            (try go_wp2_with fail)
            refine hK.out _ _ ?hS20 (fun hHeld => ?_)
            case hS20 => (try dsimp only); (try trivial)
            clear hK K
            (try simp only [Act.put, List.setIfInBounds_toArray, List.set_cons_zero, List.set_cons_succ])
            refine wpAnyH_done (by kernel_rfl) ?_ _
            have hs3 : w3.grownBy (w3.setCell ⟨b, 1, none⟩ (.slice (some ⟨g', 0, none⟩) (k + 1) c')) (some b) := grownBy_setCell1 w3 ⟨b, 1, none⟩ (.slice (some ⟨g', 0, none⟩) (k + 1) c')
            have HGE : Hid (Below b w1 (w3.setCell ⟨b, 1, none⟩ (.slice (some ⟨g', 0, none⟩) (k + 1) c'))) := Lib.hid (Below.setCell (((Below.alloc (HG.out.grown HGT2.out (by omega) (fun j hj => by injection hj with hj; omega)) (by have := HO2.out.lt; omega) (.cells #[.int .i64 (N), .int .i64 (N + M)] 58))).grown HGR.out (by have := HO2.out.lt; simp; omega) (fun j hj => by have := (World.ownsRow.lt HW2.out j hj).1; omega)) (p := ⟨b, 1, none⟩) (Nat.le_refl _) _)
            have HPE : Hid (Part8 (w3.setCell ⟨b, 1, none⟩ (.slice (some ⟨g', 0, none⟩) (k + 1) c')) b sa (m + 1) cs (N + M) (wts zs (k + 1)) (bss zs k) (k + 1) k) := Lib.hid ⟨_, _, _, _, HT3.out.set1 _, HO3.out.grown hs3 (fun e => by injection e with e; omega), by rw [HWS.out, rcells_snoc]; exact own_aside HW3.out hs3 (by omega), own_aside HB3.out hs3 (by omega), fun g hg hb => by have hg : g' = g := (by injection hg); subst hg; rcases HAT.out with h | h; exact HAP.out _ h hb; have := (World.ownsRow.lt HB2.out _ hb).2; simp at h; omega⟩
            clear hs3
            go_wp2
            go_meet
            exact ⟨HPE, HGE⟩
          case b9_9 =>
            go_simp
            (go_at_call 30; refine (next_any (b := b + 1) (E := N) (n := M) _ (HOn.out.grow (Grew.drew' (Grew.refl wr))) (by omega) (by omega) (by omega) (by omega)).mono ?_; rintro e w2 ⟨rfl, ho2, g2⟩; have gt2 := grownBy_trans ((Grew.drew' (Grew.refl wr)).by' (some (b + 1))) g2; have ht2 := HT.out.grown gt2 (fun e => by injection e with e; omega); have d1 := ht2.c1; have d2 := ht2.c2; have hlt2 := ht2.lt; have HW2 := Lib.hid (own_aside HW.out gt2 (by omega)); have HB2 := Lib.hid (own_aside HB.out gt2 (by omega)); have HT2 := Lib.hid ht2; have HO2 := Lib.hid ho2; have HGT2 := Lib.hid gt2; clear ht2 ho2 g2 gt2)
            (try go_wp2_with fail)
            refine hK.out _ _ ?hS21 (fun hHeld => ?_)
            case hS21 => (try dsimp only); (try trivial)
            clear hK K
            (try simp only [Act.put, List.setIfInBounds_toArray, List.set_cons_zero, List.set_cons_succ])
            refine wpAnyH_ready (rs := [4, 10]) (by kernel_rfl) (by simp) ?_
            refine (AllReadyH.cons (o := { dst := some 50, op := Go.Op.load 54 (Go.Operand.tmp 49), type := 54, pos := _, after := #[{ on := 3, ground := Go.Ground.data }], guard := none }) rfl (fun K hK => ?b22_4) (AllReadyH.cons (o := { dst := some 56, op := Go.Op.buildSlice 54 1 #[(0, Go.Operand.tmp 55)], type := 54, pos := _, after := #[{ on := 9, ground := Go.Ground.data }], guard := none }) rfl (fun K hK => ?b22_10) AllReadyH.nil))
            case b22_4 =>
              go_simp
              skip
              (try go_wp2_with fail)
              refine hK.out _ _ ?hS23 (fun hHeld => ?_)
              case hS23 => (try dsimp only); (try trivial)
              clear hK K
              (try simp only [Act.put, List.setIfInBounds_toArray, List.set_cons_zero, List.set_cons_succ])
              refine wpAnyH_ready (rs := [10]) (by kernel_rfl) (by simp) ?_
              refine AllReadyH.cons (o := { dst := some 56, op := Go.Op.buildSlice 54 1 #[(0, Go.Operand.tmp 55)], type := 54, pos := _, after := #[{ on := 9, ground := Go.Ground.data }], guard := none }) rfl (fun K hK => ?_) AllReadyH.nil
              go_simp
              skip
              (try go_wp2_with fail)
              refine hK.out _ _ ?hS25 (fun hHeld => ?_)
              case hS25 => (try dsimp only); (try trivial)
              clear hK K
              (try simp only [Act.put, List.setIfInBounds_toArray, List.set_cons_zero, List.set_cons_succ])
              refine wpAnyH_ready (rs := [11]) (by kernel_rfl) (by simp) ?_
              refine AllReadyH.cons (o := { dst := some 57, op := Go.Op.call { callee := Go.Callee.builtin Go.Builtin.append, args := #[Go.Operand.tmp 50, Go.Operand.tmp 56], argTypes := #[54, 54] }, type := 54, pos := _, after := #[{ on := 4, ground := Go.Ground.data }, { on := 10, ground := Go.Ground.data }, { on := 9, ground := Go.Ground.chain }], guard := none }) rfl (fun K hK => ?_) AllReadyH.nil
              (refine step_append_lies _ rfl _ _ 54 rfl (b + 2) 58 i0 (.agg #[.int .i64 0, .int .i64 0]) 2 16 Try.underlying54 hi hz0 hz1 hz2 rfl (by decide) (.slice aw k cw) k _ rfl (HW2.out.alloc _) ⟨w2.heap.size, 0, none⟩ 1 1 [.int .i64 (N), .int .i64 (N + M)] rfl rfl (cell_two_new _ _ _ _) one_cells (by decide) (by unfold maxLen; omega) (by omega) (by have := HO2.out.lt; simp; omega) _ rfl ?_; intro g' c' w3 hown hgrow hat hlt'; have ht3 := (HT2.out.alloc (.cells #[.int .i64 (N), .int .i64 (N + M)] 58)).grown hgrow (fun e => by have := (World.ownsRow.lt HW2.out b e.symm).1; omega); have ho3 := (HO2.out.alloc (.cells #[.int .i64 (N), .int .i64 (N + M)] 58)).grown hgrow (fun e => by have := (World.ownsRow.lt HW2.out (b + 1) e.symm).1; omega); have HB3 := Lib.hid (own_left (HB2.out.alloc (.cells #[.int .i64 (N), .int .i64 (N + M)] 58)) hgrow (fun g hg e => HAP.out g e.symm hg)); have e1 := ht3.c1; have e2 := ht3.c2; have f1 := ht3.f1; have f2 := ht3.f2; have lt3 := ht3.lt; have HAT := Lib.hid hat; have HGR := Lib.hid hgrow; have HW3 := Lib.hid hown; have HT3 := Lib.hid ht3; have HO3 := Lib.hid ho3; clear hown hgrow hat hlt' ht3 ho3)
              (try go_wp2_with fail)
              refine hK.out _ _ ?hS27 (fun hHeld => ?_)
              case hS27 => (try dsimp only); (try trivial)
              clear hK K
              (try simp only [Act.put, List.setIfInBounds_toArray, List.set_cons_zero, List.set_cons_succ])
              refine wpAnyH_take (i := 12) (oi := { dst := some 58, op := Go.Op.nilCheck (Go.Operand.tmp 46), type := 0, pos := _, after := #[{ on := 0, ground := Go.Ground.data }, { on := 0, ground := Go.Ground.phase }, { on := 1, ground := Go.Ground.phase }, { on := 2, ground := Go.Ground.phase }, { on := 3, ground := Go.Ground.phase }, { on := 4, ground := Go.Ground.phase }, { on := 5, ground := Go.Ground.phase }, { on := 6, ground := Go.Ground.phase }, { on := 7, ground := Go.Ground.phase }, { on := 8, ground := Go.Ground.phase }, { on := 9, ground := Go.Ground.phase }, { on := 10, ground := Go.Ground.phase }, { on := 11, ground := Go.Ground.phase }], guard := none }) (v := ?v28) rfl (by kernel_rfl) (by kernel_rfl) (by kernel_rfl) (fun _ _ _ h => h) (Or.inl ⟨by kernel_rfl, ?hy28⟩) (by assumption) ?_
              case hy28 => intro w hSw; (try dsimp only at hSw); first | (go_simp; done) | (go_simp; with_reducible rfl)
              (try simp only [Act.put, List.setIfInBounds_toArray, List.set_cons_zero, List.set_cons_succ])
              refine wpAnyH_take (i := 13) (oi := { dst := some 59, op := Go.Op.fieldAddr 56 (Go.Operand.tmp 58) 1, type := 0, pos := _, after := #[{ on := 12, ground := Go.Ground.data }, { on := 0, ground := Go.Ground.phase }, { on := 1, ground := Go.Ground.phase }, { on := 2, ground := Go.Ground.phase }, { on := 3, ground := Go.Ground.phase }, { on := 4, ground := Go.Ground.phase }, { on := 5, ground := Go.Ground.phase }, { on := 6, ground := Go.Ground.phase }, { on := 7, ground := Go.Ground.phase }, { on := 8, ground := Go.Ground.phase }, { on := 9, ground := Go.Ground.phase }, { on := 10, ground := Go.Ground.phase }, { on := 11, ground := Go.Ground.phase }], guard := none }) (v := ?v29) rfl (by kernel_rfl) (by kernel_rfl) (by kernel_rfl) (fun _ _ _ h => h) (Or.inl ⟨by kernel_rfl, ?hy29⟩) (by assumption) ?_
              case hy29 => intro w hSw; (try dsimp only at hSw); first | (go_simp; done) | (go_simp; with_reducible rfl)
              (try simp only [Act.put, List.setIfInBounds_toArray, List.set_cons_zero, List.set_cons_succ])
              refine wpAnyH_ready (rs := [14]) (by kernel_rfl) (by simp) ?_
              refine AllReadyH.cons (o := { dst := none, op := Go.Op.store 54 (Go.Operand.tmp 59) (Go.Operand.tmp 57), type := 0, pos := _, after := #[{ on := 13, ground := Go.Ground.data }, { on := 11, ground := Go.Ground.data }, { on := 11, ground := Go.Ground.chain }, { on := 0, ground := Go.Ground.phase }, { on := 1, ground := Go.Ground.phase }, { on := 2, ground := Go.Ground.phase }, { on := 3, ground := Go.Ground.phase }, { on := 4, ground := Go.Ground.phase }, { on := 5, ground := Go.Ground.phase }, { on := 6, ground := Go.Ground.phase }, { on := 7, ground := Go.Ground.phase }, { on := 8, ground := Go.Ground.phase }, { on := 9, ground := Go.Ground.phase }, { on := 10, ground := Go.Ground.phase }, { on := 11, ground := Go.Ground.phase }], guard := none }) rfl (fun K hK => ?_) AllReadyH.nil
              go_simp
              skip
              (try go_wp2_with fail)
              refine hK.out _ _ ?hS31 (fun hHeld => ?_)
              case hS31 => (try dsimp only); (try trivial)
              clear hK K
              (try simp only [Act.put, List.setIfInBounds_toArray, List.set_cons_zero, List.set_cons_succ])
              refine wpAnyH_done (by kernel_rfl) ?_ _
              have hs3 : w3.grownBy (w3.setCell ⟨b, 1, none⟩ (.slice (some ⟨g', 0, none⟩) (k + 1) c')) (some b) := grownBy_setCell1 w3 ⟨b, 1, none⟩ (.slice (some ⟨g', 0, none⟩) (k + 1) c')
              have HGE : Hid (Below b w1 (w3.setCell ⟨b, 1, none⟩ (.slice (some ⟨g', 0, none⟩) (k + 1) c'))) := Lib.hid (Below.setCell (((Below.alloc (HG.out.grown HGT2.out (by omega) (fun j hj => by injection hj with hj; omega)) (by have := HO2.out.lt; omega) (.cells #[.int .i64 (N), .int .i64 (N + M)] 58))).grown HGR.out (by have := HO2.out.lt; simp; omega) (fun j hj => by have := (World.ownsRow.lt HW2.out j hj).1; omega)) (p := ⟨b, 1, none⟩) (Nat.le_refl _) _)
              have HPE : Hid (Part8 (w3.setCell ⟨b, 1, none⟩ (.slice (some ⟨g', 0, none⟩) (k + 1) c')) b sa (m + 1) cs (N + M) (wts zs (k + 1)) (bss zs k) (k + 1) k) := Lib.hid ⟨_, _, _, _, HT3.out.set1 _, HO3.out.grown hs3 (fun e => by injection e with e; omega), by rw [HWS.out, rcells_snoc]; exact own_aside HW3.out hs3 (by omega), own_aside HB3.out hs3 (by omega), fun g hg hb => by have hg : g' = g := (by injection hg); subst hg; rcases HAT.out with h | h; exact HAP.out _ h hb; have := (World.ownsRow.lt HB2.out _ hb).2; simp at h; omega⟩
              clear hs3
              go_wp2
              go_meet
              exact ⟨HPE, HGE⟩
            case b22_10 =>
              go_simp
              skip
              (try go_wp2_with fail)
              refine hK.out _ _ ?hS32 (fun hHeld => ?_)
              case hS32 => (try dsimp only); (try trivial)
              clear hK K
              (try simp only [Act.put, List.setIfInBounds_toArray, List.set_cons_zero, List.set_cons_succ])
              refine wpAnyH_ready (rs := [4]) (by kernel_rfl) (by simp) ?_
              refine AllReadyH.cons (o := { dst := some 50, op := Go.Op.load 54 (Go.Operand.tmp 49), type := 54, pos := _, after := #[{ on := 3, ground := Go.Ground.data }], guard := none }) rfl (fun K hK => ?_) AllReadyH.nil
              go_simp
              skip
              (try go_wp2_with fail)
              refine hK.out _ _ ?hS34 (fun hHeld => ?_)
              case hS34 => (try dsimp only); (try trivial)
              clear hK K
              (try simp only [Act.put, List.setIfInBounds_toArray, List.set_cons_zero, List.set_cons_succ])
              refine wpAnyH_ready (rs := [11]) (by kernel_rfl) (by simp) ?_
              refine AllReadyH.cons (o := { dst := some 57, op := Go.Op.call { callee := Go.Callee.builtin Go.Builtin.append, args := #[Go.Operand.tmp 50, Go.Operand.tmp 56], argTypes := #[54, 54] }, type := 54, pos := _, after := #[{ on := 4, ground := Go.Ground.data }, { on := 10, ground := Go.Ground.data }, { on := 9, ground := Go.Ground.chain }], guard := none }) rfl (fun K hK => ?_) AllReadyH.nil
              (refine step_append_lies _ rfl _ _ 54 rfl (b + 2) 58 i0 (.agg #[.int .i64 0, .int .i64 0]) 2 16 Try.underlying54 hi hz0 hz1 hz2 rfl (by decide) (.slice aw k cw) k _ rfl (HW2.out.alloc _) ⟨w2.heap.size, 0, none⟩ 1 1 [.int .i64 (N), .int .i64 (N + M)] rfl rfl (cell_two_new _ _ _ _) one_cells (by decide) (by unfold maxLen; omega) (by omega) (by have := HO2.out.lt; simp; omega) _ rfl ?_; intro g' c' w3 hown hgrow hat hlt'; have ht3 := (HT2.out.alloc (.cells #[.int .i64 (N), .int .i64 (N + M)] 58)).grown hgrow (fun e => by have := (World.ownsRow.lt HW2.out b e.symm).1; omega); have ho3 := (HO2.out.alloc (.cells #[.int .i64 (N), .int .i64 (N + M)] 58)).grown hgrow (fun e => by have := (World.ownsRow.lt HW2.out (b + 1) e.symm).1; omega); have HB3 := Lib.hid (own_left (HB2.out.alloc (.cells #[.int .i64 (N), .int .i64 (N + M)] 58)) hgrow (fun g hg e => HAP.out g e.symm hg)); have e1 := ht3.c1; have e2 := ht3.c2; have f1 := ht3.f1; have f2 := ht3.f2; have lt3 := ht3.lt; have HAT := Lib.hid hat; have HGR := Lib.hid hgrow; have HW3 := Lib.hid hown; have HT3 := Lib.hid ht3; have HO3 := Lib.hid ho3; clear hown hgrow hat hlt' ht3 ho3)
              (try go_wp2_with fail)
              refine hK.out _ _ ?hS36 (fun hHeld => ?_)
              case hS36 => (try dsimp only); (try trivial)
              clear hK K
              (try simp only [Act.put, List.setIfInBounds_toArray, List.set_cons_zero, List.set_cons_succ])
              refine wpAnyH_take (i := 12) (oi := { dst := some 58, op := Go.Op.nilCheck (Go.Operand.tmp 46), type := 0, pos := _, after := #[{ on := 0, ground := Go.Ground.data }, { on := 0, ground := Go.Ground.phase }, { on := 1, ground := Go.Ground.phase }, { on := 2, ground := Go.Ground.phase }, { on := 3, ground := Go.Ground.phase }, { on := 4, ground := Go.Ground.phase }, { on := 5, ground := Go.Ground.phase }, { on := 6, ground := Go.Ground.phase }, { on := 7, ground := Go.Ground.phase }, { on := 8, ground := Go.Ground.phase }, { on := 9, ground := Go.Ground.phase }, { on := 10, ground := Go.Ground.phase }, { on := 11, ground := Go.Ground.phase }], guard := none }) (v := ?v37) rfl (by kernel_rfl) (by kernel_rfl) (by kernel_rfl) (fun _ _ _ h => h) (Or.inl ⟨by kernel_rfl, ?hy37⟩) (by assumption) ?_
              case hy37 => intro w hSw; (try dsimp only at hSw); first | (go_simp; done) | (go_simp; with_reducible rfl)
              (try simp only [Act.put, List.setIfInBounds_toArray, List.set_cons_zero, List.set_cons_succ])
              refine wpAnyH_take (i := 13) (oi := { dst := some 59, op := Go.Op.fieldAddr 56 (Go.Operand.tmp 58) 1, type := 0, pos := _, after := #[{ on := 12, ground := Go.Ground.data }, { on := 0, ground := Go.Ground.phase }, { on := 1, ground := Go.Ground.phase }, { on := 2, ground := Go.Ground.phase }, { on := 3, ground := Go.Ground.phase }, { on := 4, ground := Go.Ground.phase }, { on := 5, ground := Go.Ground.phase }, { on := 6, ground := Go.Ground.phase }, { on := 7, ground := Go.Ground.phase }, { on := 8, ground := Go.Ground.phase }, { on := 9, ground := Go.Ground.phase }, { on := 10, ground := Go.Ground.phase }, { on := 11, ground := Go.Ground.phase }], guard := none }) (v := ?v38) rfl (by kernel_rfl) (by kernel_rfl) (by kernel_rfl) (fun _ _ _ h => h) (Or.inl ⟨by kernel_rfl, ?hy38⟩) (by assumption) ?_
              case hy38 => intro w hSw; (try dsimp only at hSw); first | (go_simp; done) | (go_simp; with_reducible rfl)
              (try simp only [Act.put, List.setIfInBounds_toArray, List.set_cons_zero, List.set_cons_succ])
              refine wpAnyH_ready (rs := [14]) (by kernel_rfl) (by simp) ?_
              refine AllReadyH.cons (o := { dst := none, op := Go.Op.store 54 (Go.Operand.tmp 59) (Go.Operand.tmp 57), type := 0, pos := _, after := #[{ on := 13, ground := Go.Ground.data }, { on := 11, ground := Go.Ground.data }, { on := 11, ground := Go.Ground.chain }, { on := 0, ground := Go.Ground.phase }, { on := 1, ground := Go.Ground.phase }, { on := 2, ground := Go.Ground.phase }, { on := 3, ground := Go.Ground.phase }, { on := 4, ground := Go.Ground.phase }, { on := 5, ground := Go.Ground.phase }, { on := 6, ground := Go.Ground.phase }, { on := 7, ground := Go.Ground.phase }, { on := 8, ground := Go.Ground.phase }, { on := 9, ground := Go.Ground.phase }, { on := 10, ground := Go.Ground.phase }, { on := 11, ground := Go.Ground.phase }], guard := none }) rfl (fun K hK => ?_) AllReadyH.nil
              go_simp
              skip
              (try go_wp2_with fail)
              refine hK.out _ _ ?hS40 (fun hHeld => ?_)
              case hS40 => (try dsimp only); (try trivial)
              clear hK K
              (try simp only [Act.put, List.setIfInBounds_toArray, List.set_cons_zero, List.set_cons_succ])
              refine wpAnyH_done (by kernel_rfl) ?_ _
              have hs3 : w3.grownBy (w3.setCell ⟨b, 1, none⟩ (.slice (some ⟨g', 0, none⟩) (k + 1) c')) (some b) := grownBy_setCell1 w3 ⟨b, 1, none⟩ (.slice (some ⟨g', 0, none⟩) (k + 1) c')
              have HGE : Hid (Below b w1 (w3.setCell ⟨b, 1, none⟩ (.slice (some ⟨g', 0, none⟩) (k + 1) c'))) := Lib.hid (Below.setCell (((Below.alloc (HG.out.grown HGT2.out (by omega) (fun j hj => by injection hj with hj; omega)) (by have := HO2.out.lt; omega) (.cells #[.int .i64 (N), .int .i64 (N + M)] 58))).grown HGR.out (by have := HO2.out.lt; simp; omega) (fun j hj => by have := (World.ownsRow.lt HW2.out j hj).1; omega)) (p := ⟨b, 1, none⟩) (Nat.le_refl _) _)
              have HPE : Hid (Part8 (w3.setCell ⟨b, 1, none⟩ (.slice (some ⟨g', 0, none⟩) (k + 1) c')) b sa (m + 1) cs (N + M) (wts zs (k + 1)) (bss zs k) (k + 1) k) := Lib.hid ⟨_, _, _, _, HT3.out.set1 _, HO3.out.grown hs3 (fun e => by injection e with e; omega), by rw [HWS.out, rcells_snoc]; exact own_aside HW3.out hs3 (by omega), own_aside HB3.out hs3 (by omega), fun g hg hb => by have hg : g' = g := (by injection hg); subst hg; rcases HAT.out with h | h; exact HAP.out _ h hb; have := (World.ownsRow.lt HB2.out _ hb).2; simp at h; omega⟩
              clear hs3
              go_wp2
              go_meet
              exact ⟨HPE, HGE⟩
        case rest =>
          obtain ⟨HP2, HG2⟩ := hcut
          clear HT HOn HW HB HAP c1 hltb o0 lo
          obtain ⟨aw, cw, ab, cb, ht, ho, hw, hbb, hap⟩ := HP2.out
          have hltb := ht.lt
          have o0 := ho.c0
          have lo := ho.lt
          have HT := Lib.hid ht
          have HOn := Lib.hid ho
          have HW := Lib.hid hw
          have HB := Lib.hid hbb
          have HAP := Lib.hid hap
          have c2 := ht.c2
          clear ht ho hw hbb hap HP2 HG hd1 hd2
          rename World => wr2
          go_wp2_with fail
          refine wp_region_held_drew (S := (fun _ => True)) (by kernel_rfl) trivial (fun hHeld => ?_)
          refine wpAnyH_take (i := 0) (oi := { dst := some 60, op := Go.Op.move (Go.Operand.tmp 4), type := 41, pos := _, after := #[], guard := none }) (v := ?v41) rfl (by kernel_rfl) (by kernel_rfl) (by kernel_rfl) (fun _ _ _ h => h) (Or.inl ⟨by kernel_rfl, ?hy41⟩) (by assumption) ?_
          case hy41 => intro w hSw; (try dsimp only at hSw); first | (go_simp; done) | (go_simp; with_reducible rfl)
          (try simp only [Act.put, List.setIfInBounds_toArray, List.set_cons_zero, List.set_cons_succ])
          refine wpAnyH_take (i := 1) (oi := { dst := some 61, op := Go.Op.move (Go.Operand.tmp 4), type := 41, pos := _, after := #[], guard := none }) (v := ?v42) rfl (by kernel_rfl) (by kernel_rfl) (by kernel_rfl) (fun _ _ _ h => h) (Or.inl ⟨by kernel_rfl, ?hy42⟩) (by assumption) ?_
          case hy42 => intro w hSw; (try dsimp only at hSw); first | (go_simp; done) | (go_simp; with_reducible rfl)
          (try simp only [Act.put, List.setIfInBounds_toArray, List.set_cons_zero, List.set_cons_succ])
          refine wpAnyH_take (i := 2) (oi := { dst := some 62, op := Go.Op.nilCheck (Go.Operand.tmp 61), type := 0, pos := _, after := #[{ on := 1, ground := Go.Ground.data }], guard := none }) (v := ?v43) rfl (by kernel_rfl) (by kernel_rfl) (by kernel_rfl) (fun _ _ _ h => h) (Or.inl ⟨by kernel_rfl, ?hy43⟩) (by assumption) ?_
          case hy43 => intro w hSw; (try dsimp only at hSw); first | (go_simp; done) | (go_simp; with_reducible rfl)
          (try simp only [Act.put, List.setIfInBounds_toArray, List.set_cons_zero, List.set_cons_succ])
          refine wpAnyH_take (i := 3) (oi := { dst := some 63, op := Go.Op.fieldAddr 56 (Go.Operand.tmp 62) 2, type := 0, pos := _, after := #[{ on := 2, ground := Go.Ground.data }], guard := none }) (v := ?v44) rfl (by kernel_rfl) (by kernel_rfl) (by kernel_rfl) (fun _ _ _ h => h) (Or.inl ⟨by kernel_rfl, ?hy44⟩) (by assumption) ?_
          case hy44 => intro w hSw; (try dsimp only at hSw); first | (go_simp; done) | (go_simp; with_reducible rfl)
          (try simp only [Act.put, List.setIfInBounds_toArray, List.set_cons_zero, List.set_cons_succ])
          refine wpAnyH_take (i := 5) (oi := { dst := some 65, op := Go.Op.move (Go.Operand.tmp 6), type := 59, pos := _, after := #[], guard := none }) (v := ?v45) rfl (by kernel_rfl) (by kernel_rfl) (by kernel_rfl) (fun _ _ _ h => h) (Or.inl ⟨by kernel_rfl, ?hy45⟩) (by assumption) ?_
          case hy45 => intro w hSw; (try dsimp only at hSw); first | (go_simp; done) | (go_simp; with_reducible rfl)
          (try simp only [Act.put, List.setIfInBounds_toArray, List.set_cons_zero, List.set_cons_succ])
          refine wpAnyH_take (i := 6) (oi := { dst := some 66, op := Go.Op.move (Go.Operand.tmp 8), type := 3, pos := _, after := #[], guard := none }) (v := ?v46) rfl (by kernel_rfl) (by kernel_rfl) (by kernel_rfl) (fun _ _ _ h => h) (Or.inl ⟨by kernel_rfl, ?hy46⟩) (by assumption) ?_
          case hy46 => intro w hSw; (try dsimp only at hSw); first | (go_simp; done) | (go_simp; with_reducible rfl)
          (try simp only [Act.put, List.setIfInBounds_toArray, List.set_cons_zero, List.set_cons_succ])
          refine wpAnyH_ready (rs := [4, 7]) (by kernel_rfl) (by simp) ?_
          refine (AllReadyH.cons (o := { dst := some 64, op := Go.Op.load 54 (Go.Operand.tmp 63), type := 54, pos := _, after := #[{ on := 3, ground := Go.Ground.data }], guard := none }) rfl (fun K hK => ?b47_4) (AllReadyH.cons (o := { dst := some 67, op := Go.Op.call { callee := Go.Callee.value (Go.Operand.tmp 65), args := #[Go.Operand.tmp 66], argTypes := #[3] }, type := 58, pos := _, after := #[{ on := 5, ground := Go.Ground.data }, { on := 6, ground := Go.Ground.data }], guard := none }) rfl (fun K hK => ?b47_7) AllReadyH.nil))
          case b47_4 =>
            go_simp
            skip
            (try go_wp2_with fail)
            refine hK.out _ _ ?hS48 (fun hHeld => ?_)
            case hS48 => (try dsimp only); (try trivial)
            clear hK K
            (try simp only [Act.put, List.setIfInBounds_toArray, List.set_cons_zero, List.set_cons_succ])
            refine wpAnyH_ready (rs := [7]) (by kernel_rfl) (by simp) ?_
            refine AllReadyH.cons (o := { dst := some 67, op := Go.Op.call { callee := Go.Callee.value (Go.Operand.tmp 65), args := #[Go.Operand.tmp 66], argTypes := #[3] }, type := 58, pos := _, after := #[{ on := 5, ground := Go.Ground.data }, { on := 6, ground := Go.Ground.data }], guard := none }) rfl (fun K hK => ?_) AllReadyH.nil
            go_simp
            (go_at_call 30; refine (next_any (b := b + 1) (E := N + M) (n := y) _ (HOn.out.grow (Grew.drew' (Grew.refl wr2))) (by omega) (by omega) (by omega) (by omega)).mono ?_; rintro e w2 ⟨rfl, ho2, g2⟩; have gt2 := grownBy_trans ((Grew.drew' (Grew.refl wr2)).by' (some (b + 1))) g2; have ht2 := HT.out.grown gt2 (fun e => by injection e with e; omega); have d1 := ht2.c1; have d2 := ht2.c2; have hlt2 := ht2.lt; have HW2 := Lib.hid (own_aside HW.out gt2 (by omega)); have HB2 := Lib.hid (own_aside HB.out gt2 (by omega)); have HT2 := Lib.hid ht2; have HO2 := Lib.hid ho2; have HGT2 := Lib.hid gt2; clear ht2 ho2 g2 gt2)
            (try go_wp2_with fail)
            refine hK.out _ _ ?hS50 (fun hHeld => ?_)
            case hS50 => (try dsimp only); (try trivial)
            clear hK K
            (try simp only [Act.put, List.setIfInBounds_toArray, List.set_cons_zero, List.set_cons_succ])
            refine wpAnyH_ready (rs := [8]) (by kernel_rfl) (by simp) ?_
            refine AllReadyH.cons (o := { dst := some 68, op := Go.Op.buildSlice 54 1 #[(0, Go.Operand.tmp 67)], type := 54, pos := _, after := #[{ on := 7, ground := Go.Ground.data }], guard := none }) rfl (fun K hK => ?_) AllReadyH.nil
            go_simp
            skip
            (try go_wp2_with fail)
            refine hK.out _ _ ?hS52 (fun hHeld => ?_)
            case hS52 => (try dsimp only); (try trivial)
            clear hK K
            (try simp only [Act.put, List.setIfInBounds_toArray, List.set_cons_zero, List.set_cons_succ])
            refine wpAnyH_ready (rs := [9]) (by kernel_rfl) (by simp) ?_
            refine AllReadyH.cons (o := { dst := some 69, op := Go.Op.call { callee := Go.Callee.builtin Go.Builtin.append, args := #[Go.Operand.tmp 64, Go.Operand.tmp 68], argTypes := #[54, 54] }, type := 54, pos := _, after := #[{ on := 4, ground := Go.Ground.data }, { on := 8, ground := Go.Ground.data }, { on := 7, ground := Go.Ground.chain }], guard := none }) rfl (fun K hK => ?_) AllReadyH.nil
            (refine step_append_lies _ rfl _ _ 54 rfl (b + 2) 58 i0 (.agg #[.int .i64 0, .int .i64 0]) 2 16 Try.underlying54 hi hz0 hz1 hz2 rfl (by decide) (.slice ab k cb) k _ rfl (HB2.out.alloc _) ⟨w2.heap.size, 0, none⟩ 1 1 [.int .i64 (N + M), .int .i64 (N + M + y)] rfl rfl (cell_two_new _ _ _ _) one_cells (by decide) (by unfold maxLen; omega) (by omega) (by have := HO2.out.lt; simp; omega) _ rfl ?_; intro g' c' w3 hown hgrow hat hlt'; have ht3 := (HT2.out.alloc (.cells #[.int .i64 (N + M), .int .i64 (N + M + y)] 58)).grown hgrow (fun e => by have := (World.ownsRow.lt HB2.out b e.symm).1; omega); have ho3 := (HO2.out.alloc (.cells #[.int .i64 (N + M), .int .i64 (N + M + y)] 58)).grown hgrow (fun e => by have := (World.ownsRow.lt HB2.out (b + 1) e.symm).1; omega); have HB3 := Lib.hid (own_left (HW2.out.alloc (.cells #[.int .i64 (N + M), .int .i64 (N + M + y)] 58)) hgrow (fun g hg e => HAP.out g hg e.symm)); have e1 := ht3.c1; have e2 := ht3.c2; have f1 := ht3.f1; have f2 := ht3.f2; have lt3 := ht3.lt; have HAT := Lib.hid hat; have HGR := Lib.hid hgrow; have HW3 := Lib.hid hown; have HT3 := Lib.hid ht3; have HO3 := Lib.hid ho3; clear hown hgrow hat hlt' ht3 ho3)
            (try go_wp2_with fail)
            refine hK.out _ _ ?hS54 (fun hHeld => ?_)
            case hS54 => (try dsimp only); (try trivial)
            clear hK K
            (try simp only [Act.put, List.setIfInBounds_toArray, List.set_cons_zero, List.set_cons_succ])
            refine wpAnyH_take (i := 10) (oi := { dst := some 70, op := Go.Op.nilCheck (Go.Operand.tmp 60), type := 0, pos := _, after := #[{ on := 0, ground := Go.Ground.data }, { on := 0, ground := Go.Ground.phase }, { on := 1, ground := Go.Ground.phase }, { on := 2, ground := Go.Ground.phase }, { on := 3, ground := Go.Ground.phase }, { on := 4, ground := Go.Ground.phase }, { on := 5, ground := Go.Ground.phase }, { on := 6, ground := Go.Ground.phase }, { on := 7, ground := Go.Ground.phase }, { on := 8, ground := Go.Ground.phase }, { on := 9, ground := Go.Ground.phase }], guard := none }) (v := ?v55) rfl (by kernel_rfl) (by kernel_rfl) (by kernel_rfl) (fun _ _ _ h => h) (Or.inl ⟨by kernel_rfl, ?hy55⟩) (by assumption) ?_
            case hy55 => intro w hSw; (try dsimp only at hSw); first | (go_simp; done) | (go_simp; with_reducible rfl)
            (try simp only [Act.put, List.setIfInBounds_toArray, List.set_cons_zero, List.set_cons_succ])
            refine wpAnyH_take (i := 11) (oi := { dst := some 71, op := Go.Op.fieldAddr 56 (Go.Operand.tmp 70) 2, type := 0, pos := _, after := #[{ on := 10, ground := Go.Ground.data }, { on := 0, ground := Go.Ground.phase }, { on := 1, ground := Go.Ground.phase }, { on := 2, ground := Go.Ground.phase }, { on := 3, ground := Go.Ground.phase }, { on := 4, ground := Go.Ground.phase }, { on := 5, ground := Go.Ground.phase }, { on := 6, ground := Go.Ground.phase }, { on := 7, ground := Go.Ground.phase }, { on := 8, ground := Go.Ground.phase }, { on := 9, ground := Go.Ground.phase }], guard := none }) (v := ?v56) rfl (by kernel_rfl) (by kernel_rfl) (by kernel_rfl) (fun _ _ _ h => h) (Or.inl ⟨by kernel_rfl, ?hy56⟩) (by assumption) ?_
            case hy56 => intro w hSw; (try dsimp only at hSw); first | (go_simp; done) | (go_simp; with_reducible rfl)
            (try simp only [Act.put, List.setIfInBounds_toArray, List.set_cons_zero, List.set_cons_succ])
            refine wpAnyH_ready (rs := [12]) (by kernel_rfl) (by simp) ?_
            refine AllReadyH.cons (o := { dst := none, op := Go.Op.store 54 (Go.Operand.tmp 71) (Go.Operand.tmp 69), type := 0, pos := _, after := #[{ on := 11, ground := Go.Ground.data }, { on := 9, ground := Go.Ground.data }, { on := 9, ground := Go.Ground.chain }, { on := 0, ground := Go.Ground.phase }, { on := 1, ground := Go.Ground.phase }, { on := 2, ground := Go.Ground.phase }, { on := 3, ground := Go.Ground.phase }, { on := 4, ground := Go.Ground.phase }, { on := 5, ground := Go.Ground.phase }, { on := 6, ground := Go.Ground.phase }, { on := 7, ground := Go.Ground.phase }, { on := 8, ground := Go.Ground.phase }, { on := 9, ground := Go.Ground.phase }], guard := none }) rfl (fun K hK => ?_) AllReadyH.nil
            go_simp
            skip
            (try go_wp2_with fail)
            refine hK.out _ _ ?hS58 (fun hHeld => ?_)
            case hS58 => (try dsimp only); (try trivial)
            clear hK K
            (try simp only [Act.put, List.setIfInBounds_toArray, List.set_cons_zero, List.set_cons_succ])
            refine wpAnyH_done (by kernel_rfl) ?_ _
            have hs3 : w3.grownBy (w3.setCell ⟨b, 2, none⟩ (.slice (some ⟨g', 0, none⟩) (k + 1) c')) (some b) := grownBy_setCell1 w3 ⟨b, 2, none⟩ (.slice (some ⟨g', 0, none⟩) (k + 1) c')
            have HGE : Hid (Below b w1 (w3.setCell ⟨b, 2, none⟩ (.slice (some ⟨g', 0, none⟩) (k + 1) c'))) := Lib.hid (Below.setCell (((Below.alloc (HG2.out.grown HGT2.out (by omega) (fun j hj => by injection hj with hj; omega)) (by have := HO2.out.lt; omega) (.cells #[.int .i64 (N + M), .int .i64 (N + M + y)] 58))).grown HGR.out (by have := HO2.out.lt; simp; omega) (fun j hj => by have := (World.ownsRow.lt HB2.out j hj).1; omega)) (p := ⟨b, 2, none⟩) (Nat.le_refl _) _)
            have HPE : Hid (Part8 (w3.setCell ⟨b, 2, none⟩ (.slice (some ⟨g', 0, none⟩) (k + 1) c')) b sa (m + 1) cs (cntN zs (k + 1)) (wts zs (k + 1)) (bss zs (k + 1)) (k + 1) (k + 1)) := Lib.hid ⟨_, _, _, _, HT3.out.set2 _, by rw [HV.out, show N + (M + y) = N + M + y by omega]; exact HO3.out.grown hs3 (fun e => by injection e with e; omega), own_aside HB3.out hs3 (by omega), by rw [HBS.out, show N + (M + y) = N + M + y by omega, rcells_snoc]; exact own_aside HW3.out hs3 (by omega), fun g hb hg => by have hg : g' = g := (by injection hg); subst hg; rcases HAT.out with h | h; exact HAP.out _ hb h; have := (World.ownsRow.lt HW2.out _ hb).2; simp at h; omega⟩
            clear hs3
            have HVE : Hid (cntN zs (k + 1) ≤ 1048576) := Lib.hid (by rw [HV.out]; omega)
            go_wp2
            go_roundw
            case rel => exact ⟨k + 1, by omega, by go_num, HVE, HPE, HGE⟩
            case measure => simp [intOf]; omega
          case b47_7 =>
            go_simp
            (go_at_call 30; refine (next_any (b := b + 1) (E := N + M) (n := y) _ (HOn.out.grow (Grew.drew' (Grew.refl wr2))) (by omega) (by omega) (by omega) (by omega)).mono ?_; rintro e w2 ⟨rfl, ho2, g2⟩; have gt2 := grownBy_trans ((Grew.drew' (Grew.refl wr2)).by' (some (b + 1))) g2; have ht2 := HT.out.grown gt2 (fun e => by injection e with e; omega); have d1 := ht2.c1; have d2 := ht2.c2; have hlt2 := ht2.lt; have HW2 := Lib.hid (own_aside HW.out gt2 (by omega)); have HB2 := Lib.hid (own_aside HB.out gt2 (by omega)); have HT2 := Lib.hid ht2; have HO2 := Lib.hid ho2; have HGT2 := Lib.hid gt2; clear ht2 ho2 g2 gt2)
            (try go_wp2_with fail)
            refine hK.out _ _ ?hS59 (fun hHeld => ?_)
            case hS59 => (try dsimp only); (try trivial)
            clear hK K
            (try simp only [Act.put, List.setIfInBounds_toArray, List.set_cons_zero, List.set_cons_succ])
            refine wpAnyH_ready (rs := [4, 8]) (by kernel_rfl) (by simp) ?_
            refine (AllReadyH.cons (o := { dst := some 64, op := Go.Op.load 54 (Go.Operand.tmp 63), type := 54, pos := _, after := #[{ on := 3, ground := Go.Ground.data }], guard := none }) rfl (fun K hK => ?b60_4) (AllReadyH.cons (o := { dst := some 68, op := Go.Op.buildSlice 54 1 #[(0, Go.Operand.tmp 67)], type := 54, pos := _, after := #[{ on := 7, ground := Go.Ground.data }], guard := none }) rfl (fun K hK => ?b60_8) AllReadyH.nil))
            case b60_4 =>
              go_simp
              skip
              (try go_wp2_with fail)
              refine hK.out _ _ ?hS61 (fun hHeld => ?_)
              case hS61 => (try dsimp only); (try trivial)
              clear hK K
              (try simp only [Act.put, List.setIfInBounds_toArray, List.set_cons_zero, List.set_cons_succ])
              refine wpAnyH_ready (rs := [8]) (by kernel_rfl) (by simp) ?_
              refine AllReadyH.cons (o := { dst := some 68, op := Go.Op.buildSlice 54 1 #[(0, Go.Operand.tmp 67)], type := 54, pos := _, after := #[{ on := 7, ground := Go.Ground.data }], guard := none }) rfl (fun K hK => ?_) AllReadyH.nil
              go_simp
              skip
              (try go_wp2_with fail)
              refine hK.out _ _ ?hS63 (fun hHeld => ?_)
              case hS63 => (try dsimp only); (try trivial)
              clear hK K
              (try simp only [Act.put, List.setIfInBounds_toArray, List.set_cons_zero, List.set_cons_succ])
              refine wpAnyH_ready (rs := [9]) (by kernel_rfl) (by simp) ?_
              refine AllReadyH.cons (o := { dst := some 69, op := Go.Op.call { callee := Go.Callee.builtin Go.Builtin.append, args := #[Go.Operand.tmp 64, Go.Operand.tmp 68], argTypes := #[54, 54] }, type := 54, pos := _, after := #[{ on := 4, ground := Go.Ground.data }, { on := 8, ground := Go.Ground.data }, { on := 7, ground := Go.Ground.chain }], guard := none }) rfl (fun K hK => ?_) AllReadyH.nil
              (refine step_append_lies _ rfl _ _ 54 rfl (b + 2) 58 i0 (.agg #[.int .i64 0, .int .i64 0]) 2 16 Try.underlying54 hi hz0 hz1 hz2 rfl (by decide) (.slice ab k cb) k _ rfl (HB2.out.alloc _) ⟨w2.heap.size, 0, none⟩ 1 1 [.int .i64 (N + M), .int .i64 (N + M + y)] rfl rfl (cell_two_new _ _ _ _) one_cells (by decide) (by unfold maxLen; omega) (by omega) (by have := HO2.out.lt; simp; omega) _ rfl ?_; intro g' c' w3 hown hgrow hat hlt'; have ht3 := (HT2.out.alloc (.cells #[.int .i64 (N + M), .int .i64 (N + M + y)] 58)).grown hgrow (fun e => by have := (World.ownsRow.lt HB2.out b e.symm).1; omega); have ho3 := (HO2.out.alloc (.cells #[.int .i64 (N + M), .int .i64 (N + M + y)] 58)).grown hgrow (fun e => by have := (World.ownsRow.lt HB2.out (b + 1) e.symm).1; omega); have HB3 := Lib.hid (own_left (HW2.out.alloc (.cells #[.int .i64 (N + M), .int .i64 (N + M + y)] 58)) hgrow (fun g hg e => HAP.out g hg e.symm)); have e1 := ht3.c1; have e2 := ht3.c2; have f1 := ht3.f1; have f2 := ht3.f2; have lt3 := ht3.lt; have HAT := Lib.hid hat; have HGR := Lib.hid hgrow; have HW3 := Lib.hid hown; have HT3 := Lib.hid ht3; have HO3 := Lib.hid ho3; clear hown hgrow hat hlt' ht3 ho3)
              (try go_wp2_with fail)
              refine hK.out _ _ ?hS65 (fun hHeld => ?_)
              case hS65 => (try dsimp only); (try trivial)
              clear hK K
              (try simp only [Act.put, List.setIfInBounds_toArray, List.set_cons_zero, List.set_cons_succ])
              refine wpAnyH_take (i := 10) (oi := { dst := some 70, op := Go.Op.nilCheck (Go.Operand.tmp 60), type := 0, pos := _, after := #[{ on := 0, ground := Go.Ground.data }, { on := 0, ground := Go.Ground.phase }, { on := 1, ground := Go.Ground.phase }, { on := 2, ground := Go.Ground.phase }, { on := 3, ground := Go.Ground.phase }, { on := 4, ground := Go.Ground.phase }, { on := 5, ground := Go.Ground.phase }, { on := 6, ground := Go.Ground.phase }, { on := 7, ground := Go.Ground.phase }, { on := 8, ground := Go.Ground.phase }, { on := 9, ground := Go.Ground.phase }], guard := none }) (v := ?v66) rfl (by kernel_rfl) (by kernel_rfl) (by kernel_rfl) (fun _ _ _ h => h) (Or.inl ⟨by kernel_rfl, ?hy66⟩) (by assumption) ?_
              case hy66 => intro w hSw; (try dsimp only at hSw); first | (go_simp; done) | (go_simp; with_reducible rfl)
              (try simp only [Act.put, List.setIfInBounds_toArray, List.set_cons_zero, List.set_cons_succ])
              refine wpAnyH_take (i := 11) (oi := { dst := some 71, op := Go.Op.fieldAddr 56 (Go.Operand.tmp 70) 2, type := 0, pos := _, after := #[{ on := 10, ground := Go.Ground.data }, { on := 0, ground := Go.Ground.phase }, { on := 1, ground := Go.Ground.phase }, { on := 2, ground := Go.Ground.phase }, { on := 3, ground := Go.Ground.phase }, { on := 4, ground := Go.Ground.phase }, { on := 5, ground := Go.Ground.phase }, { on := 6, ground := Go.Ground.phase }, { on := 7, ground := Go.Ground.phase }, { on := 8, ground := Go.Ground.phase }, { on := 9, ground := Go.Ground.phase }], guard := none }) (v := ?v67) rfl (by kernel_rfl) (by kernel_rfl) (by kernel_rfl) (fun _ _ _ h => h) (Or.inl ⟨by kernel_rfl, ?hy67⟩) (by assumption) ?_
              case hy67 => intro w hSw; (try dsimp only at hSw); first | (go_simp; done) | (go_simp; with_reducible rfl)
              (try simp only [Act.put, List.setIfInBounds_toArray, List.set_cons_zero, List.set_cons_succ])
              refine wpAnyH_ready (rs := [12]) (by kernel_rfl) (by simp) ?_
              refine AllReadyH.cons (o := { dst := none, op := Go.Op.store 54 (Go.Operand.tmp 71) (Go.Operand.tmp 69), type := 0, pos := _, after := #[{ on := 11, ground := Go.Ground.data }, { on := 9, ground := Go.Ground.data }, { on := 9, ground := Go.Ground.chain }, { on := 0, ground := Go.Ground.phase }, { on := 1, ground := Go.Ground.phase }, { on := 2, ground := Go.Ground.phase }, { on := 3, ground := Go.Ground.phase }, { on := 4, ground := Go.Ground.phase }, { on := 5, ground := Go.Ground.phase }, { on := 6, ground := Go.Ground.phase }, { on := 7, ground := Go.Ground.phase }, { on := 8, ground := Go.Ground.phase }, { on := 9, ground := Go.Ground.phase }], guard := none }) rfl (fun K hK => ?_) AllReadyH.nil
              go_simp
              skip
              (try go_wp2_with fail)
              refine hK.out _ _ ?hS69 (fun hHeld => ?_)
              case hS69 => (try dsimp only); (try trivial)
              clear hK K
              (try simp only [Act.put, List.setIfInBounds_toArray, List.set_cons_zero, List.set_cons_succ])
              refine wpAnyH_done (by kernel_rfl) ?_ _
              have hs3 : w3.grownBy (w3.setCell ⟨b, 2, none⟩ (.slice (some ⟨g', 0, none⟩) (k + 1) c')) (some b) := grownBy_setCell1 w3 ⟨b, 2, none⟩ (.slice (some ⟨g', 0, none⟩) (k + 1) c')
              have HGE : Hid (Below b w1 (w3.setCell ⟨b, 2, none⟩ (.slice (some ⟨g', 0, none⟩) (k + 1) c'))) := Lib.hid (Below.setCell (((Below.alloc (HG2.out.grown HGT2.out (by omega) (fun j hj => by injection hj with hj; omega)) (by have := HO2.out.lt; omega) (.cells #[.int .i64 (N + M), .int .i64 (N + M + y)] 58))).grown HGR.out (by have := HO2.out.lt; simp; omega) (fun j hj => by have := (World.ownsRow.lt HB2.out j hj).1; omega)) (p := ⟨b, 2, none⟩) (Nat.le_refl _) _)
              have HPE : Hid (Part8 (w3.setCell ⟨b, 2, none⟩ (.slice (some ⟨g', 0, none⟩) (k + 1) c')) b sa (m + 1) cs (cntN zs (k + 1)) (wts zs (k + 1)) (bss zs (k + 1)) (k + 1) (k + 1)) := Lib.hid ⟨_, _, _, _, HT3.out.set2 _, by rw [HV.out, show N + (M + y) = N + M + y by omega]; exact HO3.out.grown hs3 (fun e => by injection e with e; omega), own_aside HB3.out hs3 (by omega), by rw [HBS.out, show N + (M + y) = N + M + y by omega, rcells_snoc]; exact own_aside HW3.out hs3 (by omega), fun g hb hg => by have hg : g' = g := (by injection hg); subst hg; rcases HAT.out with h | h; exact HAP.out _ hb h; have := (World.ownsRow.lt HW2.out _ hb).2; simp at h; omega⟩
              clear hs3
              have HVE : Hid (cntN zs (k + 1) ≤ 1048576) := Lib.hid (by rw [HV.out]; omega)
              go_wp2
              go_roundw
              case rel => exact ⟨k + 1, by omega, by go_num, HVE, HPE, HGE⟩
              case measure => simp [intOf]; omega
            case b60_8 =>
              go_simp
              skip
              (try go_wp2_with fail)
              refine hK.out _ _ ?hS70 (fun hHeld => ?_)
              case hS70 => (try dsimp only); (try trivial)
              clear hK K
              (try simp only [Act.put, List.setIfInBounds_toArray, List.set_cons_zero, List.set_cons_succ])
              refine wpAnyH_ready (rs := [4]) (by kernel_rfl) (by simp) ?_
              refine AllReadyH.cons (o := { dst := some 64, op := Go.Op.load 54 (Go.Operand.tmp 63), type := 54, pos := _, after := #[{ on := 3, ground := Go.Ground.data }], guard := none }) rfl (fun K hK => ?_) AllReadyH.nil
              go_simp
              skip
              (try go_wp2_with fail)
              refine hK.out _ _ ?hS72 (fun hHeld => ?_)
              case hS72 => (try dsimp only); (try trivial)
              clear hK K
              (try simp only [Act.put, List.setIfInBounds_toArray, List.set_cons_zero, List.set_cons_succ])
              refine wpAnyH_ready (rs := [9]) (by kernel_rfl) (by simp) ?_
              refine AllReadyH.cons (o := { dst := some 69, op := Go.Op.call { callee := Go.Callee.builtin Go.Builtin.append, args := #[Go.Operand.tmp 64, Go.Operand.tmp 68], argTypes := #[54, 54] }, type := 54, pos := _, after := #[{ on := 4, ground := Go.Ground.data }, { on := 8, ground := Go.Ground.data }, { on := 7, ground := Go.Ground.chain }], guard := none }) rfl (fun K hK => ?_) AllReadyH.nil
              (refine step_append_lies _ rfl _ _ 54 rfl (b + 2) 58 i0 (.agg #[.int .i64 0, .int .i64 0]) 2 16 Try.underlying54 hi hz0 hz1 hz2 rfl (by decide) (.slice ab k cb) k _ rfl (HB2.out.alloc _) ⟨w2.heap.size, 0, none⟩ 1 1 [.int .i64 (N + M), .int .i64 (N + M + y)] rfl rfl (cell_two_new _ _ _ _) one_cells (by decide) (by unfold maxLen; omega) (by omega) (by have := HO2.out.lt; simp; omega) _ rfl ?_; intro g' c' w3 hown hgrow hat hlt'; have ht3 := (HT2.out.alloc (.cells #[.int .i64 (N + M), .int .i64 (N + M + y)] 58)).grown hgrow (fun e => by have := (World.ownsRow.lt HB2.out b e.symm).1; omega); have ho3 := (HO2.out.alloc (.cells #[.int .i64 (N + M), .int .i64 (N + M + y)] 58)).grown hgrow (fun e => by have := (World.ownsRow.lt HB2.out (b + 1) e.symm).1; omega); have HB3 := Lib.hid (own_left (HW2.out.alloc (.cells #[.int .i64 (N + M), .int .i64 (N + M + y)] 58)) hgrow (fun g hg e => HAP.out g hg e.symm)); have e1 := ht3.c1; have e2 := ht3.c2; have f1 := ht3.f1; have f2 := ht3.f2; have lt3 := ht3.lt; have HAT := Lib.hid hat; have HGR := Lib.hid hgrow; have HW3 := Lib.hid hown; have HT3 := Lib.hid ht3; have HO3 := Lib.hid ho3; clear hown hgrow hat hlt' ht3 ho3)
              (try go_wp2_with fail)
              refine hK.out _ _ ?hS74 (fun hHeld => ?_)
              case hS74 => (try dsimp only); (try trivial)
              clear hK K
              (try simp only [Act.put, List.setIfInBounds_toArray, List.set_cons_zero, List.set_cons_succ])
              refine wpAnyH_take (i := 10) (oi := { dst := some 70, op := Go.Op.nilCheck (Go.Operand.tmp 60), type := 0, pos := _, after := #[{ on := 0, ground := Go.Ground.data }, { on := 0, ground := Go.Ground.phase }, { on := 1, ground := Go.Ground.phase }, { on := 2, ground := Go.Ground.phase }, { on := 3, ground := Go.Ground.phase }, { on := 4, ground := Go.Ground.phase }, { on := 5, ground := Go.Ground.phase }, { on := 6, ground := Go.Ground.phase }, { on := 7, ground := Go.Ground.phase }, { on := 8, ground := Go.Ground.phase }, { on := 9, ground := Go.Ground.phase }], guard := none }) (v := ?v75) rfl (by kernel_rfl) (by kernel_rfl) (by kernel_rfl) (fun _ _ _ h => h) (Or.inl ⟨by kernel_rfl, ?hy75⟩) (by assumption) ?_
              case hy75 => intro w hSw; (try dsimp only at hSw); first | (go_simp; done) | (go_simp; with_reducible rfl)
              (try simp only [Act.put, List.setIfInBounds_toArray, List.set_cons_zero, List.set_cons_succ])
              refine wpAnyH_take (i := 11) (oi := { dst := some 71, op := Go.Op.fieldAddr 56 (Go.Operand.tmp 70) 2, type := 0, pos := _, after := #[{ on := 10, ground := Go.Ground.data }, { on := 0, ground := Go.Ground.phase }, { on := 1, ground := Go.Ground.phase }, { on := 2, ground := Go.Ground.phase }, { on := 3, ground := Go.Ground.phase }, { on := 4, ground := Go.Ground.phase }, { on := 5, ground := Go.Ground.phase }, { on := 6, ground := Go.Ground.phase }, { on := 7, ground := Go.Ground.phase }, { on := 8, ground := Go.Ground.phase }, { on := 9, ground := Go.Ground.phase }], guard := none }) (v := ?v76) rfl (by kernel_rfl) (by kernel_rfl) (by kernel_rfl) (fun _ _ _ h => h) (Or.inl ⟨by kernel_rfl, ?hy76⟩) (by assumption) ?_
              case hy76 => intro w hSw; (try dsimp only at hSw); first | (go_simp; done) | (go_simp; with_reducible rfl)
              (try simp only [Act.put, List.setIfInBounds_toArray, List.set_cons_zero, List.set_cons_succ])
              refine wpAnyH_ready (rs := [12]) (by kernel_rfl) (by simp) ?_
              refine AllReadyH.cons (o := { dst := none, op := Go.Op.store 54 (Go.Operand.tmp 71) (Go.Operand.tmp 69), type := 0, pos := _, after := #[{ on := 11, ground := Go.Ground.data }, { on := 9, ground := Go.Ground.data }, { on := 9, ground := Go.Ground.chain }, { on := 0, ground := Go.Ground.phase }, { on := 1, ground := Go.Ground.phase }, { on := 2, ground := Go.Ground.phase }, { on := 3, ground := Go.Ground.phase }, { on := 4, ground := Go.Ground.phase }, { on := 5, ground := Go.Ground.phase }, { on := 6, ground := Go.Ground.phase }, { on := 7, ground := Go.Ground.phase }, { on := 8, ground := Go.Ground.phase }, { on := 9, ground := Go.Ground.phase }], guard := none }) rfl (fun K hK => ?_) AllReadyH.nil
              go_simp
              skip
              (try go_wp2_with fail)
              refine hK.out _ _ ?hS78 (fun hHeld => ?_)
              case hS78 => (try dsimp only); (try trivial)
              clear hK K
              (try simp only [Act.put, List.setIfInBounds_toArray, List.set_cons_zero, List.set_cons_succ])
              refine wpAnyH_done (by kernel_rfl) ?_ _
              have hs3 : w3.grownBy (w3.setCell ⟨b, 2, none⟩ (.slice (some ⟨g', 0, none⟩) (k + 1) c')) (some b) := grownBy_setCell1 w3 ⟨b, 2, none⟩ (.slice (some ⟨g', 0, none⟩) (k + 1) c')
              have HGE : Hid (Below b w1 (w3.setCell ⟨b, 2, none⟩ (.slice (some ⟨g', 0, none⟩) (k + 1) c'))) := Lib.hid (Below.setCell (((Below.alloc (HG2.out.grown HGT2.out (by omega) (fun j hj => by injection hj with hj; omega)) (by have := HO2.out.lt; omega) (.cells #[.int .i64 (N + M), .int .i64 (N + M + y)] 58))).grown HGR.out (by have := HO2.out.lt; simp; omega) (fun j hj => by have := (World.ownsRow.lt HB2.out j hj).1; omega)) (p := ⟨b, 2, none⟩) (Nat.le_refl _) _)
              have HPE : Hid (Part8 (w3.setCell ⟨b, 2, none⟩ (.slice (some ⟨g', 0, none⟩) (k + 1) c')) b sa (m + 1) cs (cntN zs (k + 1)) (wts zs (k + 1)) (bss zs (k + 1)) (k + 1) (k + 1)) := Lib.hid ⟨_, _, _, _, HT3.out.set2 _, by rw [HV.out, show N + (M + y) = N + M + y by omega]; exact HO3.out.grown hs3 (fun e => by injection e with e; omega), own_aside HB3.out hs3 (by omega), by rw [HBS.out, show N + (M + y) = N + M + y by omega, rcells_snoc]; exact own_aside HW3.out hs3 (by omega), fun g hb hg => by have hg : g' = g := (by injection hg); subst hg; rcases HAT.out with h | h; exact HAP.out _ hb h; have := (World.ownsRow.lt HW2.out _ hb).2; simp at h; omega⟩
              clear hs3
              have HVE : Hid (cntN zs (k + 1) ≤ 1048576) := Lib.hid (by rw [HV.out]; omega)
              go_wp2
              go_roundw
              case rel => exact ⟨k + 1, by omega, by go_num, HVE, HPE, HGE⟩
              case measure => simp [intOf]; omega
      · have HM := Lib.hid (HO5.out (by omega))
        have HGE : Hid (Below w.heap.size w wr) := Lib.hid (HG1.out.trans_below HG.out hbD)
        go_wp2
        go_ret2
        exact ⟨.inr ⟨rfl, HM.out⟩, HGE.out⟩
    · obtain rfl : k = m := by omega
      have HGE : Hid (Below w.heap.size w wr) := Lib.hid (HG1.out.trans_below HG.out hbD)
      have HSE : Hid (Shp w.heap.size wr b zs) := Lib.hid (by
        obtain ⟨aw, cw, ab, cb, ht, ho, hw, hbb, hap⟩ := HP.out
        refine ⟨hbD, sa, cs, aw, cw, ab, cb, ?_, ?_, ?_, ?_⟩
        · rw [HN.out, HL.out]; exact ht
        · rw [HN.out]; exact HS.out.grow (by show Below w1.heap.size w1 wr; rw [HBz.out]; exact HG.out)
        · rw [HL.out]; exact BufR.mono hw (by omega)
        · rw [HL.out]; exact BufR.mono hbb (by omega))
      have HCE : Hid (cnt zs ≤ 1048576) := Lib.hid (by unfold cnt; rw [HL.out]; exact HE.out)
      go_wp2
      go_ret2
      exact ⟨.inl ⟨b, rfl, HSE.out, HCE.out⟩, HGE.out⟩
end Go.Proofs.Ythcahpgandappaa
