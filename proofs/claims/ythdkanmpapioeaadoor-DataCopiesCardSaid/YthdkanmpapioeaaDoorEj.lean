/- The reference's texts, Text and Words: the texts of numbers with spaces between them, the text of an example, or none; the parts of a string between single spaces. Conditions: at most 1000 numbers on a side, each within the bounds of int64; strings of at most 10^6 bytes. -/
import Derived.Test.YthdkanmpapioeaaDoorEi
import Derived.Deep.QuietTactic
import Derived.Deep.AppendLies
import Derived.OrdersHeld
import Derived.Deep.RegionHeld
namespace Go.Proofs.YthdkanmpapioeaaDoor
open Go.RowKit Go.Shelf

theorem kcG' {W W' : World} {r : Option Nat} {a : Addr} {x : Value} (hg : W.grownBy W' r) (h : W.cell? a = some x) (hne : some a.block ≠ r) : W'.cell? a = some x := (hg.cell_far a (World.block_lt_of_cell? W a h) hne).trans h
theorem kE2 {V W W' : World} {a b : Addr} {x y : Value} (k : Grew W W') (h : Grew V W ∧ W.cell? a = some x ∧ W.cell? b = some y) : Grew V W' ∧ W'.cell? a = some x ∧ W'.cell? b = some y :=
  ⟨h.1.trans k, kcG' (k.by' none) h.2.1 (fun e => by cases e), kcG' (k.by' none) h.2.2 (fun e => by cases e)⟩
theorem side_zero (q : Nat) (zs : List Int) : sideL q (zs.take 0) = [] := by simp [sideL, Lib.join]
theorem side_one {q : Nat} {zs : List Int} (h : 0 < zs.length) : sideL q (zs.take (0 + 1)) = textL (el zs 0) q := by
  unfold sideL
  rw [List.take_add_one, el_lt h]
  simp [Lib.join_one]
theorem side_succ {q k : Nat} {zs : List Int} (h : k < zs.length) (h0 : k ≠ 0) : sideL q (zs.take (k + 1)) = sideL q (zs.take k) ++ [32] ++ textL (el zs k) q := by
  unfold sideL
  rw [List.take_add_one, el_lt h, List.map_append]
  have hne : (zs.take k).map (fun x => textL x q) ≠ [] := by
    intro e
    have := congrArg List.length e
    rw [List.length_map, List.length_take, List.length_nil] at this
    omega
  rw [join_append _ _ hne (by simp)]
  simp [Lib.join_one]
theorem fit_take {zs : List Int} (h : FitL zs) (k : Nat) : FitL (zs.take k) := fun x hx => h x (List.mem_of_mem_take hx)

set_option maxHeartbeats 2000000 in
theorem rtexts_any {n : Nat} (a : Option Addr) (c : Nat) (zs : List Int) (q : Int) (w : World) (hn : zs.length = n) (hl : n ≤ 1000) (hz : FitL zs) (hq : qOk q) (hr : RdK .i64 w.heap.size w a zs) :
    Calls Tryd.prog 27 #[.slice a n c, .int .i64 q] w fun e w' => e = .returned (.string ⟨(sideL q.toNat zs).toArray⟩) ∧ Grew w w' := by
  have HN := Lib.hid hn
  have HZ := Lib.hid hz
  have HQ := Lib.hid hq
  have HR := Lib.hid hr
  clear hn hz hq hr
  go_enter Tryd.func27, Tryd.ntmps27
  go_wp2
  go_loopw [5, 6] (fun s i wr => ∃ k : Nat, k ≤ n ∧ i = .int .i64 k ∧ s = .string ⟨(sideL q.toNat (zs.take k)).toArray⟩ ∧ Hid (Grew w wr)) (fun _ i _ => n - (intOf i).toNat)
  case atStart => exact ⟨0, Nat.zero_le _, rfl, by rw [side_zero], Lib.hid (Grew.refl _)⟩
  case round =>
    obtain ⟨k, hk, rfl, rfl, HG⟩ := hrel
    by_cases hlt : k < n
    · obtain ⟨b, off, rfl, hb, hc⟩ := (HR.out.grow HG.out).at (k := k) (by rw [HN.out]; exact hlt)
      have hsl := side_len (zs := zs.take k) (toNat_le HQ.out) (fit_take HZ.out k)
      rw [List.length_take, HN.out] at hsl
      obtain ⟨f0, f1⟩ := fit_at HZ.out (k := k) (by rw [HN.out]; exact hlt)
      have htl := text_len (x := el zs k) (toNat_le HQ.out) f0 f1
      have HT := Lib.hid (textV_q (el zs k) HQ.out)
      by_cases h0 : k = 0
      · subst h0
        have HS := Lib.hid (side_one (q := q.toNat) (zs := zs) (by rw [HN.out]; omega))
        rw [side_zero]
        rw [Nat.add_zero] at hc
        obtain ⟨s1, hs1⟩ : ∃ s1, sideL q.toNat (zs.take (0 + 1)) = s1 := ⟨_, rfl⟩
        have HS1 := Lib.hid hs1
        rw [hs1] at HS
        clear hs1
        generalize textL (el zs 0) q.toNat = t at *
        generalize el zs 0 = z at *
        go_wp2_with fail
        refine (rtext_any z q _ f0 f1).mono ?_
        rintro e w1 ⟨rfl, g1⟩
        rw [HT.out]
        have HG1 := Lib.hid (HG.out.trans g1)
        clear g1
        go_wp2
        go_roundw
        case rel => exact ⟨1, by omega, by go_num, by rw [show zs.take 1 = zs.take (0 + 1) from rfl, HS1.out, HS.out]; exact congrArg Value.string (str_append [] t), HG1⟩
        case measure => simp [intOf]; omega
      · have HS := Lib.hid (side_succ (q := q.toNat) (zs := zs) (k := k) (by rw [HN.out]; omega) h0)
        have hpos : (0 : Int) < (k : Int) := by omega
        obtain ⟨s1, hs1⟩ : ∃ s1, sideL q.toNat (zs.take (k + 1)) = s1 := ⟨_, rfl⟩
        have HS1 := Lib.hid hs1
        rw [hs1] at HS
        clear hs1
        generalize sideL q.toNat (zs.take k) = s0 at *
        generalize textL (el zs k) q.toNat = t at *
        generalize el zs k = z at *
        have hla : ¬ (9223372036854775807 : Int) < (s0.length : Int) + 1 := by omega
        have hlb : ¬ (9223372036854775807 : Int) < (s0.length : Int) + 1 + (t.length : Int) := by omega
        have hst : (⟨s0.toArray⟩ : ByteArray) ++ ⟨#[32]⟩ ++ ⟨t.toArray⟩ = ⟨s1.toArray⟩ := by rw [HS.out, ← str_append, ← str_append]
        have HST := Lib.hid hst
        clear hst
        go_wp2_with fail
        refine (rtext_any z q _ f0 f1).mono ?_
        rintro e w1 ⟨rfl, g1⟩
        rw [HT.out]
        have HG1 := Lib.hid (HG.out.trans g1)
        clear g1
        go_wp2
        rw [HST.out]
        go_roundw
        case rel => exact ⟨k + 1, by omega, by go_num, by rw [HS1.out], HG1⟩
        case measure => simp [intOf]; omega
    · obtain rfl : k = n := by omega
      have HS : Hid (zs.take k = zs) := Lib.hid (List.take_of_length_le (by rw [HN.out]; exact Nat.le_refl _))
      rw [HS.out]
      go_wp2
      go_ret
      exact ⟨rfl, HG.out⟩

set_option maxRecDepth 100000 in
set_option maxHeartbeats 4000000 in
theorem rTextE_any {n m : Nat} (xa ya : Option Addr) (xc yc : Nat) (e : Ex) (q : Int) (w : World) (hx : e.1.length = n) (hy : e.2.length = m) (hn : n ≤ 1000) (hm : m ≤ 1000) (hi : InE e)
    (r1 : RdK .i64 w.heap.size w xa e.1) (r2 : RdK .i64 w.heap.size w ya e.2) :
    Calls Tryd.prog 12 #[.agg #[.slice xa n xc, .slice ya m yc], .int .i64 q] w fun u w' => u = .returned (.tuple #[.string ⟨(exT e q).1.toArray⟩, .bool (exT e q).2]) ∧ Grew w w' := by
  have hg : Grew w (w.alloc (.cells #[.slice xa n xc, .slice ya m yc] 24)) := (Grew.refl w).alloc _
  have ht := Two.new w 24 (.slice xa n xc) (.slice ya m yc)
  have HG := Lib.hid hg
  have HT := Lib.hid ht
  have R1 := Lib.hid (r1.grow hg)
  have R2 := Lib.hid (r2.grow hg)
  have HX := Lib.hid hx
  have HY := Lib.hid hy
  have HI := Lib.hid hi
  clear hg ht r1 r2 hx hy hi
  by_cases hq0 : q < 0
  · have HE := Lib.hid (exT_no (e := e) (q := q) (fun h => by have := h.1.1; omega))
    go_enter Tryd.func12, Tryd.ntmps12
    go_wp2
    go_ret2
    exact ⟨by simp [HE.out], HG.out⟩
  · by_cases hq1 : 62 < q
    · have HE := Lib.hid (exT_no (e := e) (q := q) (fun h => by have := h.1.2; omega))
      go_enter Tryd.func12, Tryd.ntmps12
      go_wp2
      go_ret2
      exact ⟨by simp [HE.out], HG.out⟩
    · by_cases h1 : n = 0
      · subst h1
        have HE := Lib.hid (exT_no (e := e) (q := q) (fun h => h.2.1 (List.eq_nil_of_length_eq_zero HX.out)))
        go_enter Tryd.func12, Tryd.ntmps12
        go_wp2
        go_ret2
        exact ⟨by simp [HE.out], HG.out⟩
      · have e1 : ((n : Int) == (0 : Int)) = false := by rw [beq_eq_false_iff_ne]; omega
        by_cases h2 : m = 0
        · subst h2
          have HE := Lib.hid (exT_no (e := e) (q := q) (fun h => h.2.2 (List.eq_nil_of_length_eq_zero HY.out)))
          go_enter Tryd.func12, Tryd.ntmps12
          go_wp2
          go_ret2
          exact ⟨by simp [HE.out], HG.out⟩
        · have e2 : ((m : Int) == (0 : Int)) = false := by rw [beq_eq_false_iff_ne]; omega
          have hxn : e.1 ≠ [] := fun h => by have := HX.out; rw [h] at this; simp at this; omega
          have hyn : e.2 ≠ [] := fun h => by have := HY.out; rw [h] at this; simp at this; omega
          have hq : qOk q := ⟨by omega, by omega⟩
          have HE := Lib.hid (exT_yes (e := e) (q := q) ⟨hq, hxn, hyn⟩)
          have hl1 := side_len (zs := e.1) (toNat_le hq) HI.out.1
          have hl2 := side_len (zs := e.2) (toNat_le hq) HI.out.2
          rw [HX.out] at hl1
          rw [HY.out] at hl2
          have HQ := Lib.hid hq
          have HC1 := Lib.hid (fun W (r : RdK .i64 W.heap.size W xa e.1) => rtexts_any xa xc e.1 q W HX.out hn HI.out.1 hq r)
          have HC2 := Lib.hid (fun W (r : RdK .i64 W.heap.size W ya e.2) => rtexts_any ya yc e.2 q W HY.out hm HI.out.2 hq r)
          have HS : Hid (exL q.toNat e = sideL q.toNat e.1 ++ [32, 62, 32] ++ sideL q.toNat e.2) := Lib.hid rfl
          clear hxn hyn hq
          generalize sideL q.toNat e.1 = s1 at *
          generalize sideL q.toNat e.2 = s2 at *
          have hst : (⟨s1.toArray⟩ : ByteArray) ++ ⟨#[32, 62, 32]⟩ ++ ⟨s2.toArray⟩ = ⟨(exL q.toNat e).toArray⟩ := by rw [HS.out, ← str_append, ← str_append]
          have HST := Lib.hid hst
          have hla : ¬ 9223372036854775807 < s1.length + 3 := by omega
          have hlb : ¬ 9223372036854775807 < s1.length + 3 + s2.length := by omega
          clear hst
          go_enter Tryd.func12, Tryd.ntmps12
          go_wp2_with fail
          generalize w.alloc (.cells #[.slice xa n xc, .slice ya m yc] 24) = wv at *
          generalize w.heap.size = L at *
          have b0 := HT.out.c0
          have b1 := HT.out.c1
          refine wp_region_held_drew (S := (fun W' => Grew wv W' ∧ W'.cell? ⟨L, 0, none⟩ = some (.slice xa n xc) ∧ W'.cell? ⟨L, 1, none⟩ = some (.slice ya m yc))) (by kernel_rfl) ⟨Grew.drew' (Grew.refl _), b0, b1⟩ (fun hHeld => ?_)
          refine wpAnyH_take (i := 0) (oi := { dst := some 24, op := Go.Op.fieldAddr 24 (Go.Operand.tmp 2) 0, type := 0, pos := _, after := #[], guard := none }) (v := ?v1) rfl (by kernel_rfl) (by kernel_rfl) (by kernel_rfl) (fun _ _ _ h => h) (Or.inl ⟨by kernel_rfl, ?hy1⟩) (by assumption) ?_
          case hy1 => intro w hSw; (try dsimp only at hSw); first | (go_simp; done) | (go_simp; with_reducible rfl)
          (try simp only [Act.put, List.setIfInBounds_toArray, List.set_cons_zero, List.set_cons_succ])
          refine wpAnyH_take (i := 1) (oi := { dst := some 25, op := Go.Op.load 22 (Go.Operand.tmp 24), type := 22, pos := _, after := #[{ on := 0, ground := Go.Ground.data }], guard := none }) (v := ?v2) rfl (by kernel_rfl) (by kernel_rfl) (by kernel_rfl) (fun _ _ _ h => h) (Or.inl ⟨by kernel_rfl, ?hy2⟩) (by assumption) ?_
          case hy2 => intro w hSw; (try dsimp only at hSw); first | (go_simp; done) | (go_simp; with_reducible rfl)
          (try simp only [Act.put, List.setIfInBounds_toArray, List.set_cons_zero, List.set_cons_succ])
          refine wpAnyH_take (i := 2) (oi := { dst := some 26, op := Go.Op.move (Go.Operand.tmp 1), type := 3, pos := _, after := #[], guard := none }) (v := ?v3) rfl (by kernel_rfl) (by kernel_rfl) (by kernel_rfl) (fun _ _ _ h => h) (Or.inl ⟨by kernel_rfl, ?hy3⟩) (by assumption) ?_
          case hy3 => intro w hSw; (try dsimp only at hSw); first | (go_simp; done) | (go_simp; with_reducible rfl)
          (try simp only [Act.put, List.setIfInBounds_toArray, List.set_cons_zero, List.set_cons_succ])
          refine wpAnyH_take (i := 5) (oi := { dst := some 29, op := Go.Op.fieldAddr 24 (Go.Operand.tmp 2) 1, type := 0, pos := _, after := #[], guard := none }) (v := ?v4) rfl (by kernel_rfl) (by kernel_rfl) (by kernel_rfl) (fun _ _ _ h => h) (Or.inl ⟨by kernel_rfl, ?hy4⟩) (by assumption) ?_
          case hy4 => intro w hSw; (try dsimp only at hSw); first | (go_simp; done) | (go_simp; with_reducible rfl)
          (try simp only [Act.put, List.setIfInBounds_toArray, List.set_cons_zero, List.set_cons_succ])
          refine wpAnyH_take (i := 6) (oi := { dst := some 30, op := Go.Op.load 22 (Go.Operand.tmp 29), type := 22, pos := _, after := #[{ on := 5, ground := Go.Ground.data }], guard := none }) (v := ?v5) rfl (by kernel_rfl) (by kernel_rfl) (by kernel_rfl) (fun _ _ _ h => h) (Or.inl ⟨by kernel_rfl, ?hy5⟩) (by assumption) ?_
          case hy5 => intro w hSw; (try dsimp only at hSw); first | (go_simp; done) | (go_simp; with_reducible rfl)
          (try simp only [Act.put, List.setIfInBounds_toArray, List.set_cons_zero, List.set_cons_succ])
          refine wpAnyH_take (i := 7) (oi := { dst := some 31, op := Go.Op.move (Go.Operand.tmp 1), type := 3, pos := _, after := #[], guard := none }) (v := ?v6) rfl (by kernel_rfl) (by kernel_rfl) (by kernel_rfl) (fun _ _ _ h => h) (Or.inl ⟨by kernel_rfl, ?hy6⟩) (by assumption) ?_
          case hy6 => intro w hSw; (try dsimp only at hSw); first | (go_simp; done) | (go_simp; with_reducible rfl)
          (try simp only [Act.put, List.setIfInBounds_toArray, List.set_cons_zero, List.set_cons_succ])
          refine wpAnyH_ready (rs := [3]) (by kernel_rfl) (by simp) ?_
          refine AllReadyH.cons (o := { dst := some 27, op := Go.Op.call { callee := Go.Callee.value (Go.Operand.func 27), args := #[Go.Operand.tmp 25, Go.Operand.tmp 26], argTypes := #[22, 3] }, type := 9, pos := _, after := #[{ on := 1, ground := Go.Ground.data }, { on := 2, ground := Go.Ground.data }], guard := none }) rfl (fun K hK => ?_) AllReadyH.nil
          go_simp
          (go_at_call 27; refine (HC1.out _ (R1.out.grow (Grew.drew' (Grew.refl wv)))).mono ?_; rintro u w5 ⟨rfl, g5⟩; have HG5 := Lib.hid (HG.out.trans ((Grew.drew' (Grew.refl wv)).trans g5)); have R5 := Lib.hid (R2.out.grow ((Grew.drew' (Grew.refl wv)).trans g5)))
          (try go_wp2_with fail)
          refine hK.out _ _ ?hS8 (fun hHeld => ?_)
          case hS8 => (try dsimp only); exact kE2 g5 (by assumption)
          clear hK K
          (try simp only [Act.put, List.setIfInBounds_toArray, List.set_cons_zero, List.set_cons_succ])
          refine wpAnyH_take (i := 4) (oi := { dst := some 28, op := Go.Op.binOp Go.BinOp.add 9 (Go.Operand.tmp 27) (Go.Operand.const (Go.Value.string { data := #[32, 62, 32] })) 9, type := 9, pos := _, after := #[{ on := 3, ground := Go.Ground.data }], guard := none }) (v := ?v9) rfl (by kernel_rfl) (by kernel_rfl) (by kernel_rfl) (fun _ _ _ h => h) (Or.inl ⟨by kernel_rfl, ?hy9⟩) (by assumption) ?_
          case hy9 => intro w hSw; (try dsimp only at hSw); first | (go_simp; done) | (go_simp; with_reducible rfl)
          (try simp only [Act.put, List.setIfInBounds_toArray, List.set_cons_zero, List.set_cons_succ])
          refine wpAnyH_ready (rs := [8]) (by kernel_rfl) (by simp) ?_
          refine AllReadyH.cons (o := { dst := some 32, op := Go.Op.call { callee := Go.Callee.value (Go.Operand.func 27), args := #[Go.Operand.tmp 30, Go.Operand.tmp 31], argTypes := #[22, 3] }, type := 9, pos := _, after := #[{ on := 6, ground := Go.Ground.data }, { on := 7, ground := Go.Ground.data }, { on := 3, ground := Go.Ground.chain }], guard := none }) rfl (fun K hK => ?_) AllReadyH.nil
          go_simp
          (go_at_call 27; refine (HC2.out _ R5.out).mono ?_; rintro u w6 ⟨rfl, g6⟩; have HG6 := Lib.hid (HG5.out.trans g6))
          (try go_wp2_with fail)
          refine hK.out _ _ ?hS11 (fun hHeld => ?_)
          case hS11 => (try dsimp only); exact kE2 g6 (by assumption)
          clear hK K
          (try simp only [Act.put, List.setIfInBounds_toArray, List.set_cons_zero, List.set_cons_succ])
          refine wpAnyH_take (i := 9) (oi := { dst := some 33, op := Go.Op.binOp Go.BinOp.add 9 (Go.Operand.tmp 28) (Go.Operand.tmp 32) 9, type := 9, pos := _, after := #[{ on := 4, ground := Go.Ground.data }, { on := 8, ground := Go.Ground.data }], guard := none }) (v := ?v12) rfl (by kernel_rfl) (by kernel_rfl) (by kernel_rfl) (fun _ _ _ h => h) (Or.inl ⟨by kernel_rfl, ?hy12⟩) (by assumption) ?_
          case hy12 => intro w hSw; (try dsimp only at hSw); first | (go_simp; done) | (go_simp; with_reducible rfl)
          (try simp only [Act.put, List.setIfInBounds_toArray, List.set_cons_zero, List.set_cons_succ])
          refine wpAnyH_take (i := 10) (oi := { dst := some 4, op := Go.Op.assign (Go.Operand.tmp 33), type := 9, pos := _, after := #[{ on := 9, ground := Go.Ground.data }, { on := 8, ground := Go.Ground.chain }, { on := 0, ground := Go.Ground.phase }, { on := 1, ground := Go.Ground.phase }, { on := 2, ground := Go.Ground.phase }, { on := 3, ground := Go.Ground.phase }, { on := 4, ground := Go.Ground.phase }, { on := 5, ground := Go.Ground.phase }, { on := 6, ground := Go.Ground.phase }, { on := 7, ground := Go.Ground.phase }, { on := 8, ground := Go.Ground.phase }, { on := 9, ground := Go.Ground.phase }], guard := none }) (v := ?v13) rfl (by kernel_rfl) (by kernel_rfl) (by kernel_rfl) (fun _ _ _ h => h) (Or.inl ⟨by kernel_rfl, ?hy13⟩) (by assumption) ?_
          case hy13 => intro w hSw; (try dsimp only at hSw); first | (go_simp; done) | (go_simp; with_reducible rfl)
          (try simp only [Act.put, List.setIfInBounds_toArray, List.set_cons_zero, List.set_cons_succ])
          refine wpAnyH_take (i := 11) (oi := { dst := some 5, op := Go.Op.assign (Go.Operand.const (Go.Value.bool true)), type := 4, pos := _, after := #[{ on := 10, ground := Go.Ground.chain }, { on := 0, ground := Go.Ground.phase }, { on := 1, ground := Go.Ground.phase }, { on := 2, ground := Go.Ground.phase }, { on := 3, ground := Go.Ground.phase }, { on := 4, ground := Go.Ground.phase }, { on := 5, ground := Go.Ground.phase }, { on := 6, ground := Go.Ground.phase }, { on := 7, ground := Go.Ground.phase }, { on := 8, ground := Go.Ground.phase }, { on := 9, ground := Go.Ground.phase }, { on := 10, ground := Go.Ground.phase }], guard := none }) (v := ?v14) rfl (by kernel_rfl) (by kernel_rfl) (by kernel_rfl) (fun _ _ _ h => h) (Or.inl ⟨by kernel_rfl, ?hy14⟩) (by assumption) ?_
          case hy14 => intro w hSw; (try dsimp only at hSw); first | (go_simp; done) | (go_simp; with_reducible rfl)
          (try simp only [Act.put, List.setIfInBounds_toArray, List.set_cons_zero, List.set_cons_succ])
          refine wpAnyH_done (by kernel_rfl) ?_ _
          go_wp2
          go_ret2
          refine ⟨?_, HG6.out⟩
          show Ending.returned (.tuple #[.string ((⟨s1.toArray⟩ : ByteArray) ++ ⟨#[32, 62, 32]⟩ ++ ⟨s2.toArray⟩), .bool true]) = _
          rw [HST.out, HE.out]
end Go.Proofs.YthdkanmpapioeaaDoor
