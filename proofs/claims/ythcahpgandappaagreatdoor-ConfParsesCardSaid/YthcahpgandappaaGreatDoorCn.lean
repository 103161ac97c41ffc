/- The values of a configuration's text: where they lie (of), and what writes, reads and compares them. Conditions: numbers within the bounds of int64, texts of at most 10^6 bytes; the table of powers of ten holds its numbers. -/
import Derived.Test.YthcahpgandappaaGreatDoorCm
import Derived.Test.YthcahpgandappaaGreatDoorOe
import Derived.Test.YthcahpgandappaaGreatDoorYf
import Derived.RangeFuncBox
import Derived.Deep.RegionHeld
import Derived.OrdersHeld
namespace Go.Proofs.YthcahpgandappaaGreatDoor
open Go.RowKit

theorem stay {W W' : World} (g : Grew W W') {a : Addr} {x : Value} (h : W.cell? a = some x) : W'.cell? a = some x := (g.cell (World.block_lt_of_cell? W a h)).trans h
theorem keep3 {V W W' : World} {a0 a1 a2 : Addr} {x0 x1 x2 : Value} (k : Grew W W') (h : Grew V W ∧ W.cell? a0 = some x0 ∧ W.cell? a1 = some x1 ∧ W.cell? a2 = some x2) : Grew V W' ∧ W'.cell? a0 = some x0 ∧ W'.cell? a1 = some x1 ∧ W'.cell? a2 = some x2 := ⟨h.1.trans k, stay k h.2.1, stay k h.2.2.1, stay k h.2.2.2⟩
theorem within_any (n lo hi : Int) (w : World) : Calls Tryz.prog 25 #[.int .i64 n, .int .i64 lo, .int .i64 hi] w fun e w' => e = .returned (.bool (inR n lo hi)) ∧ w = w' := by
  by_cases h1 : lo ≤ n
  · by_cases h2 : n ≤ hi
    · have HE := Lib.hid (inR_yes ⟨h1, h2⟩)
      go_enter Tryz.func25, Tryz.ntmps25
      go_wp2
      go_ret
      exact ⟨ret_bool HE.out.symm, rfl⟩
    · have HE := Lib.hid (inR_no (n := n) (lo := lo) (hi := hi) (by omega))
      go_enter Tryz.func25, Tryz.ntmps25
      go_wp2
      go_ret
      exact ⟨ret_bool HE.out.symm, rfl⟩
  · have HE := Lib.hid (inR_no (n := n) (lo := lo) (hi := hi) (by omega))
    go_enter Tryz.func25, Tryz.ntmps25
    go_wp2
    go_ret
    exact ⟨ret_bool HE.out.symm, rfl⟩
theorem textV_0 {n : Int} : textV n 0 = textL n 0 := textV_yes (q := 0) (by decide)
theorem writeCount_any (n : Int) (w : World) (h0 : i64 n) (hT : Lib.TabIs Tryz.prog w "internal/strconv.uint64pow10" .u64 Lib.pow10Tab) :
    Calls Tryz.prog 61 #[.int .i64 n] w fun e w' => e = .returned (.string ⟨(cntT n).toArray⟩) ∧ Grew w w' := by
  cases h : inR n 0 1048576 with
  | true =>
    have HE := Lib.hid (cntT_yes h)
    have H1 := Lib.hid h
    have H0 := Lib.hid h0
    clear h h0
    go_enter Tryz.func61, Tryz.ntmps61
    go_wp2_with fail
    refine (within_any _ _ _ _).mono ?_
    rintro e wX ⟨rfl, rfl⟩
    rw [H1.out]
    go_wp2_with fail
    refine (text_any n 0 _ H0.out.1 H0.out.2 hT).mono ?_
    rintro e w1 ⟨rfl, g1⟩
    rw [textV_0]
    go_wp2
    go_ret
    exact ⟨by rw [HE.out]; rfl, g1⟩
  | false =>
    have HE := Lib.hid (cntT_no h)
    have H1 := Lib.hid h
    clear h h0
    go_enter Tryz.func61, Tryz.ntmps61
    go_wp2_with fail
    refine (within_any _ _ _ _).mono ?_
    rintro e wX ⟨rfl, rfl⟩
    rw [H1.out]
    go_wp2
    go_ret
    exact ⟨by rw [HE.out]; rfl, Grew.refl _⟩
theorem natV_natO (t : List UInt8) : (natO t = some (natV t 1048576).1 ∧ (natV t 1048576).2 = true) ∨ (natO t = none ∧ (natV t 1048576).2 = false) := by
  unfold natO natV inR
  by_cases h : (parseV t 0).2 = true ∧ 0 ≤ (parseV t 0).1 ∧ (parseV t 0).1 ≤ 1048576
  · rw [if_pos h, if_pos ⟨h.1, decide_eq_true h.2⟩]; exact .inl ⟨rfl, rfl⟩
  · rw [if_neg h, if_neg (fun e => h ⟨e.1, of_decide_eq_true e.2⟩)]; exact .inr ⟨rfl, rfl⟩
theorem readCount_any (s : ByteArray) (w : World) (hs : s.size ≤ 1000000) (hT : Lib.TabIs Tryz.prog w "internal/strconv.uint64pow10" .u64 Lib.pow10Tab) :
    Calls Tryz.prog 63 #[.string s] w fun e w' => ((∃ x, natO s.data.toList = some x ∧ e = .returned (.tuple #[.int .i64 x, .bool true])) ∨ (natO s.data.toList = none ∧ ∃ x, e = .returned (.tuple #[.int .i64 x, .bool false]))) ∧ Grew w w' := by
  have HC := Lib.hid (natV_natO s.data.toList)
  go_enter Tryz.func63, Tryz.ntmps63
  go_wp2_with fail
  refine (natural_any s 1048576 _ (by omega) (by decide) (by decide) hT).mono ?_
  rintro e w1 ⟨rfl, g1⟩
  rcases HC.out with ⟨h1, h2⟩ | ⟨h1, h2⟩
  · rw [h2]
    have H1 := Lib.hid h1
    clear h1 h2 HC
    go_wp2
    go_ret2
    exact ⟨.inl ⟨_, H1.out, rfl⟩, g1⟩
  · rw [h2]
    have H1 := Lib.hid h1
    clear h1 h2 HC
    go_wp2
    go_ret2
    exact ⟨.inr ⟨H1.out, _, rfl⟩, g1⟩

/-! ### Where the numbers lie -/
def gOf : Nat → Nat
  | 1 => 29
  | 2 => 31
  | 3 => 32
  | 4 => 33
  | 5 => 34
  | 6 => 35
  | 7 => 36
  | 8 => 37
  | 9 => 38
  | 10 => 39
  | _ => 40
theorem of_1 (cb : Nat) (w : World) : Calls Tryz.prog 29 #[.pointer (some ⟨cb, 0, none⟩)] w fun e w' => e = .returned (.pointer (some ⟨cb, 1, none⟩)) ∧ w = w' := by
  go_enter Tryz.func29, Tryz.ntmps29
  go_wp2
  go_ret
  exact ⟨rfl, rfl⟩
theorem of_2 (cb : Nat) (w : World) : Calls Tryz.prog 31 #[.pointer (some ⟨cb, 0, none⟩)] w fun e w' => e = .returned (.pointer (some ⟨cb, 2, none⟩)) ∧ w = w' := by
  go_enter Tryz.func31, Tryz.ntmps31
  go_wp2
  go_ret
  exact ⟨rfl, rfl⟩
theorem of_3 (cb : Nat) (w : World) : Calls Tryz.prog 32 #[.pointer (some ⟨cb, 0, none⟩)] w fun e w' => e = .returned (.pointer (some ⟨cb, 3, none⟩)) ∧ w = w' := by
  go_enter Tryz.func32, Tryz.ntmps32
  go_wp2
  go_ret
  exact ⟨rfl, rfl⟩
theorem of_4 (cb : Nat) (w : World) : Calls Tryz.prog 33 #[.pointer (some ⟨cb, 0, none⟩)] w fun e w' => e = .returned (.pointer (some ⟨cb, 4, none⟩)) ∧ w = w' := by
  go_enter Tryz.func33, Tryz.ntmps33
  go_wp2
  go_ret
  exact ⟨rfl, rfl⟩
theorem of_5 (cb : Nat) (w : World) : Calls Tryz.prog 34 #[.pointer (some ⟨cb, 0, none⟩)] w fun e w' => e = .returned (.pointer (some ⟨cb, 5, none⟩)) ∧ w = w' := by
  go_enter Tryz.func34, Tryz.ntmps34
  go_wp2
  go_ret
  exact ⟨rfl, rfl⟩
theorem of_6 (cb : Nat) (w : World) : Calls Tryz.prog 35 #[.pointer (some ⟨cb, 0, none⟩)] w fun e w' => e = .returned (.pointer (some ⟨cb, 6, none⟩)) ∧ w = w' := by
  go_enter Tryz.func35, Tryz.ntmps35
  go_wp2
  go_ret
  exact ⟨rfl, rfl⟩
theorem of_7 (cb : Nat) (w : World) : Calls Tryz.prog 36 #[.pointer (some ⟨cb, 0, none⟩)] w fun e w' => e = .returned (.pointer (some ⟨cb, 7, none⟩)) ∧ w = w' := by
  go_enter Tryz.func36, Tryz.ntmps36
  go_wp2
  go_ret
  exact ⟨rfl, rfl⟩
theorem of_8 (cb : Nat) (w : World) : Calls Tryz.prog 37 #[.pointer (some ⟨cb, 0, none⟩)] w fun e w' => e = .returned (.pointer (some ⟨cb, 8, none⟩)) ∧ w = w' := by
  go_enter Tryz.func37, Tryz.ntmps37
  go_wp2
  go_ret
  exact ⟨rfl, rfl⟩
theorem of_9 (cb : Nat) (w : World) : Calls Tryz.prog 38 #[.pointer (some ⟨cb, 0, none⟩)] w fun e w' => e = .returned (.pointer (some ⟨cb, 9, none⟩)) ∧ w = w' := by
  go_enter Tryz.func38, Tryz.ntmps38
  go_wp2
  go_ret
  exact ⟨rfl, rfl⟩
theorem of_10 (cb : Nat) (w : World) : Calls Tryz.prog 39 #[.pointer (some ⟨cb, 0, none⟩)] w fun e w' => e = .returned (.pointer (some ⟨cb, 10, none⟩)) ∧ w = w' := by
  go_enter Tryz.func39, Tryz.ntmps39
  go_wp2
  go_ret
  exact ⟨rfl, rfl⟩
theorem of_11 (cb : Nat) (w : World) : Calls Tryz.prog 40 #[.pointer (some ⟨cb, 0, none⟩)] w fun e w' => e = .returned (.pointer (some ⟨cb, 11, none⟩)) ∧ w = w' := by
  go_enter Tryz.func40, Tryz.ntmps40
  go_wp2
  go_ret
  exact ⟨rfl, rfl⟩
theorem of_any {k : Nat} (h1 : 1 ≤ k) (h2 : k < 12) (cb : Nat) (w : World) : Calls Tryz.prog (gOf k) #[.pointer (some ⟨cb, 0, none⟩)] w fun e w' => e = .returned (.pointer (some ⟨cb, k, none⟩)) ∧ w = w' := by
  match k, h1, h2 with
  | 1, _, _ => exact of_1 cb w
  | 2, _, _ => exact of_2 cb w
  | 3, _, _ => exact of_3 cb w
  | 4, _, _ => exact of_4 cb w
  | 5, _, _ => exact of_5 cb w
  | 6, _, _ => exact of_6 cb w
  | 7, _, _ => exact of_7 cb w
  | 8, _, _ => exact of_8 cb w
  | 9, _, _ => exact of_9 cb w
  | 10, _, _ => exact of_10 cb w
  | 11, _, _ => exact of_11 cb w
theorem of_enters {k : Nat} (h1 : 1 ≤ k) (h2 : k < 12) : ∀ args w, (callFunc (gOf k) args).run Tryz.prog w = .ok (.enter (gOf k) args) w := by
  match k, h1, h2 with
  | 1, _, _ => exact enters_of Tryz.func29 (by kernel_rfl) rfl
  | 2, _, _ => exact enters_of Tryz.func31 (by kernel_rfl) rfl
  | 3, _, _ => exact enters_of Tryz.func32 (by kernel_rfl) rfl
  | 4, _, _ => exact enters_of Tryz.func33 (by kernel_rfl) rfl
  | 5, _, _ => exact enters_of Tryz.func34 (by kernel_rfl) rfl
  | 6, _, _ => exact enters_of Tryz.func35 (by kernel_rfl) rfl
  | 7, _, _ => exact enters_of Tryz.func36 (by kernel_rfl) rfl
  | 8, _, _ => exact enters_of Tryz.func37 (by kernel_rfl) rfl
  | 9, _, _ => exact enters_of Tryz.func38 (by kernel_rfl) rfl
  | 10, _, _ => exact enters_of Tryz.func39 (by kernel_rfl) rfl
  | 11, _, _ => exact enters_of Tryz.func40 (by kernel_rfl) rfl
theorem CfM.ck {W : World} {b n c k : Nat} {a : Option Addr} {f : Cf} (h : CfM W b a n c f) (h1 : 1 ≤ k) (h2 : k < 12) : W.cell? ⟨b, k, none⟩ = some (.int .i64 (xk f k)) := by
  match k, h1, h2 with
  | 1, _, _ => exact h.c1
  | 2, _, _ => exact h.c2
  | 3, _, _ => exact h.c3
  | 4, _, _ => exact h.c4
  | 5, _, _ => exact h.c5
  | 6, _, _ => exact h.c6
  | 7, _, _ => exact h.c7
  | 8, _, _ => exact h.c8
  | 9, _, _ => exact h.c9
  | 10, _, _ => exact h.c10
  | 11, _, _ => exact h.c11
theorem CfM.setk {W : World} {b n c k : Nat} {a : Option Addr} {f : Cf} (h : CfM W b a n c f) (h1 : 1 ≤ k) (h2 : k < 12) (v : Int) : CfM (W.setCell ⟨b, k, none⟩ (.int .i64 v)) b a n c (setX f k v) := by
  match k, h1, h2 with
  | 1, _, _ => exact h.set1 v
  | 2, _, _ => exact h.set2 v
  | 3, _, _ => exact h.set3 v
  | 4, _, _ => exact h.set4 v
  | 5, _, _ => exact h.set5 v
  | 6, _, _ => exact h.set6 v
  | 7, _, _ => exact h.set7 v
  | 8, _, _ => exact h.set8 v
  | 9, _, _ => exact h.set9 v
  | 10, _, _ => exact h.set10 v
  | 11, _, _ => exact h.set11 v

/-! ### Numbers in decimal form -/
set_option maxHeartbeats 1000000 in
theorem cwrite_any {g k cb bk : Nat} {x : Int} (w : World) (hbox : Boxed w bk 63 (.func (.func g) #[] #[])) (heg : ∀ args w, (callFunc g args).run Tryz.prog w = .ok (.enter g args) w)
    (hof : ∀ cb w, Calls Tryz.prog g #[.pointer (some ⟨cb, 0, none⟩)] w fun e w' => e = .returned (.pointer (some ⟨cb, k, none⟩)) ∧ w = w') (hx : w.cell? ⟨cb, k, none⟩ = some (.int .i64 x)) (h0 : i64 x) (hT : Lib.TabIs Tryz.prog w "internal/strconv.uint64pow10" .u64 Lib.pow10Tab) :
    Calls Tryz.prog 60 #[.pointer (some ⟨cb, 0, none⟩), .pointer (some ⟨bk, 0, none⟩)] w fun e w' => e = .returned (.string ⟨(cntT x).toArray⟩) ∧ Grew w w' := by
  have c0 := hbox.cell
  go_enter Tryz.func60, Tryz.ntmps60
  go_wp2_with fail
  refine (hof _ _).mono ?_
  rintro e wX ⟨rfl, rfl⟩
  go_wp2_with fail
  refine (writeCount_any x _ h0 hT).mono ?_
  rintro e w1 ⟨rfl, g1⟩
  go_wp2
  go_ret
  exact ⟨rfl, g1⟩
theorem setCell_grown (W : World) (b k : Nat) (v : Value) : W.grownBy (W.setCell ⟨b, k, none⟩ v) (some b) :=
  ⟨rfl, rfl, rfl, by simp, fun j hj hne => heap_setCell_other W ⟨b, k, none⟩ j v (fun e => hne (by rw [e]))⟩
set_option maxHeartbeats 1000000 in
theorem cread_any {g k cb bk n c : Nat} {a : Option Addr} {f : Cf} (t : ByteArray) (w : World) (hbox : Boxed w bk 63 (.func (.func g) #[] #[])) (heg : ∀ args w, (callFunc g args).run Tryz.prog w = .ok (.enter g args) w)
    (hof : ∀ cb w, Calls Tryz.prog g #[.pointer (some ⟨cb, 0, none⟩)] w fun e w' => e = .returned (.pointer (some ⟨cb, k, none⟩)) ∧ w = w') (hm : CfM w cb a n c f) (h1 : 1 ≤ k) (h2 : k < 12) (ht : t.size ≤ 1000000) (hT : Lib.TabIs Tryz.prog w "internal/strconv.uint64pow10" .u64 Lib.pow10Tab) :
    Calls Tryz.prog 62 #[.pointer (some ⟨cb, 0, none⟩), .string t, .pointer (some ⟨bk, 0, none⟩)] w fun e w' => ((∃ x, natO t.data.toList = some x ∧ e = .returned (.bool true) ∧ CfM w' cb a n c (setX f k x)) ∨ (natO t.data.toList = none ∧ e = .returned (.bool false))) ∧ w.grownBy w' (some cb) := by
  have c0 := hbox.cell
  have HM := Lib.hid hm
  go_enter Tryz.func62, Tryz.ntmps62
  go_wp2_with fail
  refine (hof _ _).mono ?_
  rintro e wX ⟨rfl, rfl⟩
  go_wp2_with fail
  refine (readCount_any t _ ht hT).mono ?_
  rintro e w1 ⟨⟨x, hx, rfl⟩ | ⟨hx, x, rfl⟩, g1⟩
  · have HX := Lib.hid hx
    have hm1 := HM.out.grow g1
    have q0 := hm1.ck h1 h2
    have q1 := hm1.fz k
    have q2 := hm1.lt
    have HS := Lib.hid (hm1.setk h1 h2 x)
    have HG := Lib.hid (grownBy_trans (g1.by' (some cb)) (setCell_grown w1 cb k (.int .i64 x)))
    clear hx hm1 g1
    go_wp2
    go_ret
    exact ⟨.inl ⟨x, HX.out, rfl, HS.out⟩, HG.out⟩
  · have HX := Lib.hid hx
    have hm1 := HM.out.grow g1
    have q0 := hm1.ck h1 h2
    have q1 := hm1.fz k
    have q2 := hm1.lt
    have HG := Lib.hid (grownBy_trans (g1.by' (some cb)) (setCell_grown w1 cb k (.int .i64 x)))
    clear hx hm1 g1
    go_wp2
    go_ret
    exact ⟨.inr ⟨HX.out, rfl⟩, HG.out⟩
set_option maxHeartbeats 1000000 in
theorem csame_any {g k cb cc bk : Nat} {x y : Int} (w : World) (hbox : Boxed w bk 63 (.func (.func g) #[] #[])) (heg : ∀ args w, (callFunc g args).run Tryz.prog w = .ok (.enter g args) w)
    (hof : ∀ cb w, Calls Tryz.prog g #[.pointer (some ⟨cb, 0, none⟩)] w fun e w' => e = .returned (.pointer (some ⟨cb, k, none⟩)) ∧ w = w') (hx : w.cell? ⟨cb, k, none⟩ = some (.int .i64 x)) (hy : w.cell? ⟨cc, k, none⟩ = some (.int .i64 y)) :
    Calls Tryz.prog 64 #[.pointer (some ⟨cb, 0, none⟩), .pointer (some ⟨cc, 0, none⟩), .pointer (some ⟨bk, 0, none⟩)] w fun e w' => e = .returned (.bool (x == y)) ∧ Grew w w' := by
  go_enter Tryz.func64, Tryz.ntmps64
  go_upto_region 1 with fail
  refine wp_region_held_drew (S := (fun W' => Grew w W' ∧ W'.cell? ⟨bk, 0, none⟩ = some (.func (.func g) #[] #[]) ∧ W'.cell? ⟨cb, k, none⟩ = some (.int .i64 x) ∧ W'.cell? ⟨cc, k, none⟩ = some (.int .i64 y))) (by kernel_rfl) ⟨Grew.drew' (Grew.refl _), hbox.cell, hx, hy⟩ (fun hHeld => ?_)
  refine wpAnyH_take (i := 0) (oi := { dst := some 6, op := Go.Op.load 63 (Go.Operand.tmp 2), type := 63, pos := _, after := #[], guard := none }) (v := ?v1) rfl (by kernel_rfl) (by kernel_rfl) (by kernel_rfl) (fun _ _ _ h => h) (Or.inl ⟨by kernel_rfl, ?hy1⟩) (by assumption) ?_
  case hy1 => intro w hSw; (try dsimp only at hSw); first | (go_simp; done) | (go_simp; with_reducible rfl)
  (try simp only [Act.put, List.setIfInBounds_toArray, List.set_cons_zero, List.set_cons_succ])
  refine wpAnyH_take (i := 1) (oi := { dst := some 7, op := Go.Op.move (Go.Operand.tmp 0), type := 43, pos := _, after := #[], guard := none }) (v := ?v2) rfl (by kernel_rfl) (by kernel_rfl) (by kernel_rfl) (fun _ _ _ h => h) (Or.inl ⟨by kernel_rfl, ?hy2⟩) (by assumption) ?_
  case hy2 => intro w hSw; (try dsimp only at hSw); first | (go_simp; done) | (go_simp; with_reducible rfl)
  (try simp only [Act.put, List.setIfInBounds_toArray, List.set_cons_zero, List.set_cons_succ])
  refine wpAnyH_take (i := 5) (oi := { dst := some 11, op := Go.Op.load 63 (Go.Operand.tmp 2), type := 63, pos := _, after := #[], guard := none }) (v := ?v3) rfl (by kernel_rfl) (by kernel_rfl) (by kernel_rfl) (fun _ _ _ h => h) (Or.inl ⟨by kernel_rfl, ?hy3⟩) (by assumption) ?_
  case hy3 => intro w hSw; (try dsimp only at hSw); first | (go_simp; done) | (go_simp; with_reducible rfl)
  (try simp only [Act.put, List.setIfInBounds_toArray, List.set_cons_zero, List.set_cons_succ])
  refine wpAnyH_take (i := 6) (oi := { dst := some 12, op := Go.Op.move (Go.Operand.tmp 1), type := 43, pos := _, after := #[], guard := none }) (v := ?v4) rfl (by kernel_rfl) (by kernel_rfl) (by kernel_rfl) (fun _ _ _ h => h) (Or.inl ⟨by kernel_rfl, ?hy4⟩) (by assumption) ?_
  case hy4 => intro w hSw; (try dsimp only at hSw); first | (go_simp; done) | (go_simp; with_reducible rfl)
  (try simp only [Act.put, List.setIfInBounds_toArray, List.set_cons_zero, List.set_cons_succ])
  refine wpAnyH_ready (rs := [2]) (by kernel_rfl) (by simp) ?_
  refine AllReadyH.cons (o := { dst := some 8, op := Go.Op.call { callee := Go.Callee.value (Go.Operand.tmp 6), args := #[Go.Operand.tmp 7], argTypes := #[43] }, type := 62, pos := _, after := #[{ on := 0, ground := Go.Ground.data }, { on := 1, ground := Go.Ground.data }], guard := none }) rfl (fun K hK => ?_) AllReadyH.nil
  go_simp
  (refine (hof _ _).mono ?_; rintro e wX ⟨rfl, rfl⟩)
  (try go_wp2_with fail)
  refine hK.out _ _ ?hS6 (fun hHeld => ?_)
  case hS6 => (try dsimp only); assumption
  clear hK K
  (try simp only [Act.put, List.setIfInBounds_toArray, List.set_cons_zero, List.set_cons_succ])
  refine wpAnyH_take (i := 3) (oi := { dst := some 9, op := Go.Op.nilCheck (Go.Operand.tmp 8), type := 0, pos := _, after := #[{ on := 2, ground := Go.Ground.data }], guard := none }) (v := ?v7) rfl (by kernel_rfl) (by kernel_rfl) (by kernel_rfl) (fun _ _ _ h => h) (Or.inl ⟨by kernel_rfl, ?hy7⟩) (by assumption) ?_
  case hy7 => intro w hSw; (try dsimp only at hSw); first | (go_simp; done) | (go_simp; with_reducible rfl)
  (try simp only [Act.put, List.setIfInBounds_toArray, List.set_cons_zero, List.set_cons_succ])
  refine wpAnyH_take (i := 4) (oi := { dst := some 10, op := Go.Op.load 3 (Go.Operand.tmp 9), type := 3, pos := _, after := #[{ on := 3, ground := Go.Ground.data }], guard := none }) (v := ?v8) rfl (by kernel_rfl) (by kernel_rfl) (by kernel_rfl) (fun _ _ _ h => h) (Or.inl ⟨by kernel_rfl, ?hy8⟩) (by assumption) ?_
  case hy8 => intro w hSw; (try dsimp only at hSw); first | (go_simp; done) | (go_simp; with_reducible rfl)
  (try simp only [Act.put, List.setIfInBounds_toArray, List.set_cons_zero, List.set_cons_succ])
  refine wpAnyH_ready (rs := [7]) (by kernel_rfl) (by simp) ?_
  refine AllReadyH.cons (o := { dst := some 13, op := Go.Op.call { callee := Go.Callee.value (Go.Operand.tmp 11), args := #[Go.Operand.tmp 12], argTypes := #[43] }, type := 62, pos := _, after := #[{ on := 5, ground := Go.Ground.data }, { on := 6, ground := Go.Ground.data }, { on := 2, ground := Go.Ground.chain }], guard := none }) rfl (fun K hK => ?_) AllReadyH.nil
  go_simp
  (refine (hof _ _).mono ?_; rintro e wX ⟨rfl, rfl⟩)
  (try go_wp2_with fail)
  refine hK.out _ _ ?hS10 (fun hHeld => ?_)
  case hS10 => (try dsimp only); assumption
  clear hK K
  (try simp only [Act.put, List.setIfInBounds_toArray, List.set_cons_zero, List.set_cons_succ])
  refine wpAnyH_take (i := 8) (oi := { dst := some 14, op := Go.Op.nilCheck (Go.Operand.tmp 13), type := 0, pos := _, after := #[{ on := 7, ground := Go.Ground.data }], guard := none }) (v := ?v11) rfl (by kernel_rfl) (by kernel_rfl) (by kernel_rfl) (fun _ _ _ h => h) (Or.inl ⟨by kernel_rfl, ?hy11⟩) (by assumption) ?_
  case hy11 => intro w hSw; (try dsimp only at hSw); first | (go_simp; done) | (go_simp; with_reducible rfl)
  (try simp only [Act.put, List.setIfInBounds_toArray, List.set_cons_zero, List.set_cons_succ])
  refine wpAnyH_take (i := 9) (oi := { dst := some 15, op := Go.Op.load 3 (Go.Operand.tmp 14), type := 3, pos := _, after := #[{ on := 8, ground := Go.Ground.data }], guard := none }) (v := ?v12) rfl (by kernel_rfl) (by kernel_rfl) (by kernel_rfl) (fun _ _ _ h => h) (Or.inl ⟨by kernel_rfl, ?hy12⟩) (by assumption) ?_
  case hy12 => intro w hSw; (try dsimp only at hSw); first | (go_simp; done) | (go_simp; with_reducible rfl)
  (try simp only [Act.put, List.setIfInBounds_toArray, List.set_cons_zero, List.set_cons_succ])
  refine wpAnyH_take (i := 10) (oi := { dst := some 16, op := Go.Op.binOp Go.BinOp.eql 3 (Go.Operand.tmp 10) (Go.Operand.tmp 15) 3, type := 4, pos := _, after := #[{ on := 4, ground := Go.Ground.data }, { on := 9, ground := Go.Ground.data }], guard := none }) (v := ?v13) rfl (by kernel_rfl) (by kernel_rfl) (by kernel_rfl) (fun _ _ _ h => h) (Or.inl ⟨by kernel_rfl, ?hy13⟩) (by assumption) ?_
  case hy13 => intro w hSw; (try dsimp only at hSw); first | (go_simp; done) | (go_simp; with_reducible rfl)
  (try simp only [Act.put, List.setIfInBounds_toArray, List.set_cons_zero, List.set_cons_succ])
  refine wpAnyH_take (i := 11) (oi := { dst := some 5, op := Go.Op.assign (Go.Operand.tmp 16), type := 4, pos := _, after := #[{ on := 10, ground := Go.Ground.data }, { on := 7, ground := Go.Ground.chain }, { on := 0, ground := Go.Ground.phase }, { on := 1, ground := Go.Ground.phase }, { on := 2, ground := Go.Ground.phase }, { on := 3, ground := Go.Ground.phase }, { on := 4, ground := Go.Ground.phase }, { on := 5, ground := Go.Ground.phase }, { on := 6, ground := Go.Ground.phase }, { on := 7, ground := Go.Ground.phase }, { on := 8, ground := Go.Ground.phase }, { on := 9, ground := Go.Ground.phase }, { on := 10, ground := Go.Ground.phase }], guard := none }) (v := ?v14) rfl (by kernel_rfl) (by kernel_rfl) (by kernel_rfl) (fun _ _ _ h => h) (Or.inl ⟨by kernel_rfl, ?hy14⟩) (by assumption) ?_
  case hy14 => intro w hSw; (try dsimp only at hSw); first | (go_simp; done) | (go_simp; with_reducible rfl)
  (try simp only [Act.put, List.setIfInBounds_toArray, List.set_cons_zero, List.set_cons_succ])
  refine wpAnyH_done (by kernel_rfl) ?_ _
  go_wp2
  go_ret
  exact ⟨rfl, Grew.drew' (Grew.refl _)⟩
set_option maxHeartbeats 1000000 in
theorem fsame_any {g k cb cc bk : Nat} {x y : Int} (w : World) (hbox : Boxed w bk 66 (.func (.func g) #[] #[])) (heg : ∀ args w, (callFunc g args).run Tryz.prog w = .ok (.enter g args) w)
    (hof : ∀ cb w, Calls Tryz.prog g #[.pointer (some ⟨cb, 0, none⟩)] w fun e w' => e = .returned (.pointer (some ⟨cb, k, none⟩)) ∧ w = w') (hx : w.cell? ⟨cb, k, none⟩ = some (.int .i64 x)) (hy : w.cell? ⟨cc, k, none⟩ = some (.int .i64 y)) :
    Calls Tryz.prog 69 #[.pointer (some ⟨cb, 0, none⟩), .pointer (some ⟨cc, 0, none⟩), .pointer (some ⟨bk, 0, none⟩)] w fun e w' => e = .returned (.bool (x == y)) ∧ Grew w w' := by
  go_enter Tryz.func69, Tryz.ntmps69
  go_upto_region 1 with fail
  refine wp_region_held_drew (S := (fun W' => Grew w W' ∧ W'.cell? ⟨bk, 0, none⟩ = some (.func (.func g) #[] #[]) ∧ W'.cell? ⟨cb, k, none⟩ = some (.int .i64 x) ∧ W'.cell? ⟨cc, k, none⟩ = some (.int .i64 y))) (by kernel_rfl) ⟨Grew.drew' (Grew.refl _), hbox.cell, hx, hy⟩ (fun hHeld => ?_)
  refine wpAnyH_take (i := 0) (oi := { dst := some 6, op := Go.Op.load 66 (Go.Operand.tmp 2), type := 66, pos := _, after := #[], guard := none }) (v := ?v15) rfl (by kernel_rfl) (by kernel_rfl) (by kernel_rfl) (fun _ _ _ h => h) (Or.inl ⟨by kernel_rfl, ?hy15⟩) (by assumption) ?_
  case hy15 => intro w hSw; (try dsimp only at hSw); first | (go_simp; done) | (go_simp; with_reducible rfl)
  (try simp only [Act.put, List.setIfInBounds_toArray, List.set_cons_zero, List.set_cons_succ])
  refine wpAnyH_take (i := 1) (oi := { dst := some 7, op := Go.Op.move (Go.Operand.tmp 0), type := 43, pos := _, after := #[], guard := none }) (v := ?v16) rfl (by kernel_rfl) (by kernel_rfl) (by kernel_rfl) (fun _ _ _ h => h) (Or.inl ⟨by kernel_rfl, ?hy16⟩) (by assumption) ?_
  case hy16 => intro w hSw; (try dsimp only at hSw); first | (go_simp; done) | (go_simp; with_reducible rfl)
  (try simp only [Act.put, List.setIfInBounds_toArray, List.set_cons_zero, List.set_cons_succ])
  refine wpAnyH_take (i := 5) (oi := { dst := some 11, op := Go.Op.load 66 (Go.Operand.tmp 2), type := 66, pos := _, after := #[], guard := none }) (v := ?v17) rfl (by kernel_rfl) (by kernel_rfl) (by kernel_rfl) (fun _ _ _ h => h) (Or.inl ⟨by kernel_rfl, ?hy17⟩) (by assumption) ?_
  case hy17 => intro w hSw; (try dsimp only at hSw); first | (go_simp; done) | (go_simp; with_reducible rfl)
  (try simp only [Act.put, List.setIfInBounds_toArray, List.set_cons_zero, List.set_cons_succ])
  refine wpAnyH_take (i := 6) (oi := { dst := some 12, op := Go.Op.move (Go.Operand.tmp 1), type := 43, pos := _, after := #[], guard := none }) (v := ?v18) rfl (by kernel_rfl) (by kernel_rfl) (by kernel_rfl) (fun _ _ _ h => h) (Or.inl ⟨by kernel_rfl, ?hy18⟩) (by assumption) ?_
  case hy18 => intro w hSw; (try dsimp only at hSw); first | (go_simp; done) | (go_simp; with_reducible rfl)
  (try simp only [Act.put, List.setIfInBounds_toArray, List.set_cons_zero, List.set_cons_succ])
  refine wpAnyH_ready (rs := [2]) (by kernel_rfl) (by simp) ?_
  refine AllReadyH.cons (o := { dst := some 8, op := Go.Op.call { callee := Go.Callee.value (Go.Operand.tmp 6), args := #[Go.Operand.tmp 7], argTypes := #[43] }, type := 65, pos := _, after := #[{ on := 0, ground := Go.Ground.data }, { on := 1, ground := Go.Ground.data }], guard := none }) rfl (fun K hK => ?_) AllReadyH.nil
  go_simp
  (refine (hof _ _).mono ?_; rintro e wX ⟨rfl, rfl⟩)
  (try go_wp2_with fail)
  refine hK.out _ _ ?hS20 (fun hHeld => ?_)
  case hS20 => (try dsimp only); assumption
  clear hK K
  (try simp only [Act.put, List.setIfInBounds_toArray, List.set_cons_zero, List.set_cons_succ])
  refine wpAnyH_take (i := 3) (oi := { dst := some 9, op := Go.Op.nilCheck (Go.Operand.tmp 8), type := 0, pos := _, after := #[{ on := 2, ground := Go.Ground.data }], guard := none }) (v := ?v21) rfl (by kernel_rfl) (by kernel_rfl) (by kernel_rfl) (fun _ _ _ h => h) (Or.inl ⟨by kernel_rfl, ?hy21⟩) (by assumption) ?_
  case hy21 => intro w hSw; (try dsimp only at hSw); first | (go_simp; done) | (go_simp; with_reducible rfl)
  (try simp only [Act.put, List.setIfInBounds_toArray, List.set_cons_zero, List.set_cons_succ])
  refine wpAnyH_take (i := 4) (oi := { dst := some 10, op := Go.Op.load 2 (Go.Operand.tmp 9), type := 2, pos := _, after := #[{ on := 3, ground := Go.Ground.data }], guard := none }) (v := ?v22) rfl (by kernel_rfl) (by kernel_rfl) (by kernel_rfl) (fun _ _ _ h => h) (Or.inl ⟨by kernel_rfl, ?hy22⟩) (by assumption) ?_
  case hy22 => intro w hSw; (try dsimp only at hSw); first | (go_simp; done) | (go_simp; with_reducible rfl)
  (try simp only [Act.put, List.setIfInBounds_toArray, List.set_cons_zero, List.set_cons_succ])
  refine wpAnyH_ready (rs := [7]) (by kernel_rfl) (by simp) ?_
  refine AllReadyH.cons (o := { dst := some 13, op := Go.Op.call { callee := Go.Callee.value (Go.Operand.tmp 11), args := #[Go.Operand.tmp 12], argTypes := #[43] }, type := 65, pos := _, after := #[{ on := 5, ground := Go.Ground.data }, { on := 6, ground := Go.Ground.data }, { on := 2, ground := Go.Ground.chain }], guard := none }) rfl (fun K hK => ?_) AllReadyH.nil
  go_simp
  (refine (hof _ _).mono ?_; rintro e wX ⟨rfl, rfl⟩)
  (try go_wp2_with fail)
  refine hK.out _ _ ?hS24 (fun hHeld => ?_)
  case hS24 => (try dsimp only); assumption
  clear hK K
  (try simp only [Act.put, List.setIfInBounds_toArray, List.set_cons_zero, List.set_cons_succ])
  refine wpAnyH_take (i := 8) (oi := { dst := some 14, op := Go.Op.nilCheck (Go.Operand.tmp 13), type := 0, pos := _, after := #[{ on := 7, ground := Go.Ground.data }], guard := none }) (v := ?v25) rfl (by kernel_rfl) (by kernel_rfl) (by kernel_rfl) (fun _ _ _ h => h) (Or.inl ⟨by kernel_rfl, ?hy25⟩) (by assumption) ?_
  case hy25 => intro w hSw; (try dsimp only at hSw); first | (go_simp; done) | (go_simp; with_reducible rfl)
  (try simp only [Act.put, List.setIfInBounds_toArray, List.set_cons_zero, List.set_cons_succ])
  refine wpAnyH_take (i := 9) (oi := { dst := some 15, op := Go.Op.load 2 (Go.Operand.tmp 14), type := 2, pos := _, after := #[{ on := 8, ground := Go.Ground.data }], guard := none }) (v := ?v26) rfl (by kernel_rfl) (by kernel_rfl) (by kernel_rfl) (fun _ _ _ h => h) (Or.inl ⟨by kernel_rfl, ?hy26⟩) (by assumption) ?_
  case hy26 => intro w hSw; (try dsimp only at hSw); first | (go_simp; done) | (go_simp; with_reducible rfl)
  (try simp only [Act.put, List.setIfInBounds_toArray, List.set_cons_zero, List.set_cons_succ])
  refine wpAnyH_take (i := 10) (oi := { dst := some 16, op := Go.Op.binOp Go.BinOp.eql 2 (Go.Operand.tmp 10) (Go.Operand.tmp 15) 2, type := 4, pos := _, after := #[{ on := 4, ground := Go.Ground.data }, { on := 9, ground := Go.Ground.data }], guard := none }) (v := ?v27) rfl (by kernel_rfl) (by kernel_rfl) (by kernel_rfl) (fun _ _ _ h => h) (Or.inl ⟨by kernel_rfl, ?hy27⟩) (by assumption) ?_
  case hy27 => intro w hSw; (try dsimp only at hSw); first | (go_simp; done) | (go_simp; with_reducible rfl)
  (try simp only [Act.put, List.setIfInBounds_toArray, List.set_cons_zero, List.set_cons_succ])
  refine wpAnyH_take (i := 11) (oi := { dst := some 5, op := Go.Op.assign (Go.Operand.tmp 16), type := 4, pos := _, after := #[{ on := 10, ground := Go.Ground.data }, { on := 7, ground := Go.Ground.chain }, { on := 0, ground := Go.Ground.phase }, { on := 1, ground := Go.Ground.phase }, { on := 2, ground := Go.Ground.phase }, { on := 3, ground := Go.Ground.phase }, { on := 4, ground := Go.Ground.phase }, { on := 5, ground := Go.Ground.phase }, { on := 6, ground := Go.Ground.phase }, { on := 7, ground := Go.Ground.phase }, { on := 8, ground := Go.Ground.phase }, { on := 9, ground := Go.Ground.phase }, { on := 10, ground := Go.Ground.phase }], guard := none }) (v := ?v28) rfl (by kernel_rfl) (by kernel_rfl) (by kernel_rfl) (fun _ _ _ h => h) (Or.inl ⟨by kernel_rfl, ?hy28⟩) (by assumption) ?_
  case hy28 => intro w hSw; (try dsimp only at hSw); first | (go_simp; done) | (go_simp; with_reducible rfl)
  (try simp only [Act.put, List.setIfInBounds_toArray, List.set_cons_zero, List.set_cons_succ])
  refine wpAnyH_done (by kernel_rfl) ?_ _
  go_wp2
  go_ret
  exact ⟨rfl, Grew.drew' (Grew.refl _)⟩
set_option maxHeartbeats 1000000 in
theorem fwrite_any {g k cb bk : Nat} {x q : Int} (w : World) (hbox : Boxed w bk 66 (.func (.func g) #[] #[])) (heg : ∀ args w, (callFunc g args).run Tryz.prog w = .ok (.enter g args) w)
    (hof : ∀ cb w, Calls Tryz.prog g #[.pointer (some ⟨cb, 0, none⟩)] w fun e w' => e = .returned (.pointer (some ⟨cb, k, none⟩)) ∧ w = w') (hx : w.cell? ⟨cb, k, none⟩ = some (.int .i64 x)) (hq : w.cell? ⟨cb, 1, none⟩ = some (.int .i64 q)) (h0 : i64 x) (hT : Lib.TabIs Tryz.prog w "internal/strconv.uint64pow10" .u64 Lib.pow10Tab) :
    Calls Tryz.prog 65 #[.pointer (some ⟨cb, 0, none⟩), .pointer (some ⟨bk, 0, none⟩)] w fun e w' => e = .returned (.string ⟨(textV x q).toArray⟩) ∧ Grew w w' := by
  go_enter Tryz.func65, Tryz.ntmps65
  go_upto_region 1 with fail
  have HTD := Lib.hid (tab_below hT (Nat.le_refl _) (Grew.drew' (Grew.refl w)))
  refine wp_region_held_drew (S := (fun W' => Grew w W' ∧ W'.cell? ⟨bk, 0, none⟩ = some (.func (.func g) #[] #[]) ∧ W'.cell? ⟨cb, k, none⟩ = some (.int .i64 x) ∧ W'.cell? ⟨cb, 1, none⟩ = some (.int .i64 q))) (by kernel_rfl) ⟨Grew.drew' (Grew.refl _), hbox.cell, hx, hq⟩ (fun hHeld => ?_)
  refine wpAnyH_take (i := 0) (oi := { dst := some 4, op := Go.Op.load 66 (Go.Operand.tmp 1), type := 66, pos := _, after := #[], guard := none }) (v := ?v29) rfl (by kernel_rfl) (by kernel_rfl) (by kernel_rfl) (fun _ _ _ h => h) (Or.inl ⟨by kernel_rfl, ?hy29⟩) (by assumption) ?_
  case hy29 => intro w hSw; (try dsimp only at hSw); first | (go_simp; done) | (go_simp; with_reducible rfl)
  (try simp only [Act.put, List.setIfInBounds_toArray, List.set_cons_zero, List.set_cons_succ])
  refine wpAnyH_take (i := 1) (oi := { dst := some 5, op := Go.Op.move (Go.Operand.tmp 0), type := 43, pos := _, after := #[], guard := none }) (v := ?v30) rfl (by kernel_rfl) (by kernel_rfl) (by kernel_rfl) (fun _ _ _ h => h) (Or.inl ⟨by kernel_rfl, ?hy30⟩) (by assumption) ?_
  case hy30 => intro w hSw; (try dsimp only at hSw); first | (go_simp; done) | (go_simp; with_reducible rfl)
  (try simp only [Act.put, List.setIfInBounds_toArray, List.set_cons_zero, List.set_cons_succ])
  refine wpAnyH_take (i := 5) (oi := { dst := some 9, op := Go.Op.move (Go.Operand.tmp 0), type := 43, pos := _, after := #[], guard := none }) (v := ?v31) rfl (by kernel_rfl) (by kernel_rfl) (by kernel_rfl) (fun _ _ _ h => h) (Or.inl ⟨by kernel_rfl, ?hy31⟩) (by assumption) ?_
  case hy31 => intro w hSw; (try dsimp only at hSw); first | (go_simp; done) | (go_simp; with_reducible rfl)
  (try simp only [Act.put, List.setIfInBounds_toArray, List.set_cons_zero, List.set_cons_succ])
  refine wpAnyH_take (i := 6) (oi := { dst := some 10, op := Go.Op.nilCheck (Go.Operand.tmp 9), type := 0, pos := _, after := #[{ on := 5, ground := Go.Ground.data }], guard := none }) (v := ?v32) rfl (by kernel_rfl) (by kernel_rfl) (by kernel_rfl) (fun _ _ _ h => h) (Or.inl ⟨by kernel_rfl, ?hy32⟩) (by assumption) ?_
  case hy32 => intro w hSw; (try dsimp only at hSw); first | (go_simp; done) | (go_simp; with_reducible rfl)
  (try simp only [Act.put, List.setIfInBounds_toArray, List.set_cons_zero, List.set_cons_succ])
  refine wpAnyH_take (i := 7) (oi := { dst := some 11, op := Go.Op.fieldAddr 24 (Go.Operand.tmp 10) 1, type := 0, pos := _, after := #[{ on := 6, ground := Go.Ground.data }], guard := none }) (v := ?v33) rfl (by kernel_rfl) (by kernel_rfl) (by kernel_rfl) (fun _ _ _ h => h) (Or.inl ⟨by kernel_rfl, ?hy33⟩) (by assumption) ?_
  case hy33 => intro w hSw; (try dsimp only at hSw); first | (go_simp; done) | (go_simp; with_reducible rfl)
  (try simp only [Act.put, List.setIfInBounds_toArray, List.set_cons_zero, List.set_cons_succ])
  refine wpAnyH_take (i := 8) (oi := { dst := some 12, op := Go.Op.load 3 (Go.Operand.tmp 11), type := 3, pos := _, after := #[{ on := 7, ground := Go.Ground.data }], guard := none }) (v := ?v34) rfl (by kernel_rfl) (by kernel_rfl) (by kernel_rfl) (fun _ _ _ h => h) (Or.inl ⟨by kernel_rfl, ?hy34⟩) (by assumption) ?_
  case hy34 => intro w hSw; (try dsimp only at hSw); first | (go_simp; done) | (go_simp; with_reducible rfl)
  (try simp only [Act.put, List.setIfInBounds_toArray, List.set_cons_zero, List.set_cons_succ])
  refine wpAnyH_ready (rs := [2]) (by kernel_rfl) (by simp) ?_
  refine AllReadyH.cons (o := { dst := some 6, op := Go.Op.call { callee := Go.Callee.value (Go.Operand.tmp 4), args := #[Go.Operand.tmp 5], argTypes := #[43] }, type := 65, pos := _, after := #[{ on := 0, ground := Go.Ground.data }, { on := 1, ground := Go.Ground.data }], guard := none }) rfl (fun K hK => ?_) AllReadyH.nil
  go_simp
  (refine (hof _ _).mono ?_; rintro e wX ⟨rfl, rfl⟩)
  (try go_wp2_with fail)
  refine hK.out _ _ ?hS36 (fun hHeld => ?_)
  case hS36 => (try dsimp only); assumption
  clear hK K
  (try simp only [Act.put, List.setIfInBounds_toArray, List.set_cons_zero, List.set_cons_succ])
  refine wpAnyH_take (i := 3) (oi := { dst := some 7, op := Go.Op.nilCheck (Go.Operand.tmp 6), type := 0, pos := _, after := #[{ on := 2, ground := Go.Ground.data }], guard := none }) (v := ?v37) rfl (by kernel_rfl) (by kernel_rfl) (by kernel_rfl) (fun _ _ _ h => h) (Or.inl ⟨by kernel_rfl, ?hy37⟩) (by assumption) ?_
  case hy37 => intro w hSw; (try dsimp only at hSw); first | (go_simp; done) | (go_simp; with_reducible rfl)
  (try simp only [Act.put, List.setIfInBounds_toArray, List.set_cons_zero, List.set_cons_succ])
  refine wpAnyH_take (i := 4) (oi := { dst := some 8, op := Go.Op.load 2 (Go.Operand.tmp 7), type := 2, pos := _, after := #[{ on := 3, ground := Go.Ground.data }], guard := none }) (v := ?v38) rfl (by kernel_rfl) (by kernel_rfl) (by kernel_rfl) (fun _ _ _ h => h) (Or.inl ⟨by kernel_rfl, ?hy38⟩) (by assumption) ?_
  case hy38 => intro w hSw; (try dsimp only at hSw); first | (go_simp; done) | (go_simp; with_reducible rfl)
  (try simp only [Act.put, List.setIfInBounds_toArray, List.set_cons_zero, List.set_cons_succ])
  refine wpAnyH_ready (rs := [9]) (by kernel_rfl) (by simp) ?_
  refine AllReadyH.cons (o := { dst := some 13, op := Go.Op.call { callee := Go.Callee.value (Go.Operand.func 66), args := #[Go.Operand.tmp 8, Go.Operand.tmp 12], argTypes := #[2, 3] }, type := 9, pos := _, after := #[{ on := 4, ground := Go.Ground.data }, { on := 8, ground := Go.Ground.data }, { on := 2, ground := Go.Ground.chain }], guard := none }) rfl (fun K hK => ?_) AllReadyH.nil
  go_simp
  (go_at_call 66; refine (text_any x q _ h0.1 h0.2 HTD.out).mono ?_; rintro e w1 ⟨rfl, g1⟩)
  (try go_wp2_with fail)
  refine hK.out _ _ ?hS40 (fun hHeld => ?_)
  case hS40 => (try dsimp only); exact keep3 g1 (by assumption)
  clear hK K
  (try simp only [Act.put, List.setIfInBounds_toArray, List.set_cons_zero, List.set_cons_succ])
  refine wpAnyH_take (i := 10) (oi := { dst := some 3, op := Go.Op.assign (Go.Operand.tmp 13), type := 9, pos := _, after := #[{ on := 9, ground := Go.Ground.data }, { on := 9, ground := Go.Ground.chain }, { on := 0, ground := Go.Ground.phase }, { on := 1, ground := Go.Ground.phase }, { on := 2, ground := Go.Ground.phase }, { on := 3, ground := Go.Ground.phase }, { on := 4, ground := Go.Ground.phase }, { on := 5, ground := Go.Ground.phase }, { on := 6, ground := Go.Ground.phase }, { on := 7, ground := Go.Ground.phase }, { on := 8, ground := Go.Ground.phase }, { on := 9, ground := Go.Ground.phase }], guard := none }) (v := ?v41) rfl (by kernel_rfl) (by kernel_rfl) (by kernel_rfl) (fun _ _ _ h => h) (Or.inl ⟨by kernel_rfl, ?hy41⟩) (by assumption) ?_
  case hy41 => intro w hSw; (try dsimp only at hSw); first | (go_simp; done) | (go_simp; with_reducible rfl)
  (try simp only [Act.put, List.setIfInBounds_toArray, List.set_cons_zero, List.set_cons_succ])
  refine wpAnyH_done (by kernel_rfl) ?_ _
  go_wp2
  go_ret
  exact ⟨rfl, (Grew.drew' (Grew.refl _)).trans g1⟩
theorem parse_pO' (t : ByteArray) (q : Int) : (pO q t.data.toList = some (parseQ t.data.toList q).1 ∧ (parseQ t.data.toList q).2 = true) ∨ (pO q t.data.toList = none ∧ (parseQ t.data.toList q).2 = false) := by
  unfold pO
  by_cases h : qOk q
  · have e : parseQ t.data.toList q = parseV t.data.toList q.toNat := by unfold parseQ; rw [if_pos (show 0 ≤ q ∧ q ≤ 62 from h)]
    rw [e]
    cases hv : (parseV t.data.toList q.toNat).2 with
    | true => exact .inl ⟨if_pos ⟨h, rfl⟩, rfl⟩
    | false => exact .inr ⟨if_neg (fun c => by cases c.2), rfl⟩
  · have e : parseQ t.data.toList q = (0, false) := parseQ_no h
    rw [e]
    exact .inr ⟨if_neg (fun c => h c.1), rfl⟩
set_option maxHeartbeats 1000000 in
theorem fread_2 {g cb bk n c : Nat} {a : Option Addr} {f : Cf} (t : ByteArray) (w : World) (hne : bk ≠ cb) (hbox : Boxed w bk 66 (.func (.func g) #[] #[])) (heg : ∀ args w, (callFunc g args).run Tryz.prog w = .ok (.enter g args) w)
    (hof : ∀ cb w, Calls Tryz.prog g #[.pointer (some ⟨cb, 0, none⟩)] w fun e w' => e = .returned (.pointer (some ⟨cb, 2, none⟩)) ∧ w = w') (hm : CfM w cb a n c f) (ht : t.size ≤ 1000000) (hT : Lib.TabIs Tryz.prog w "internal/strconv.uint64pow10" .u64 Lib.pow10Tab) :
    Calls Tryz.prog 67 #[.pointer (some ⟨cb, 0, none⟩), .string t, .pointer (some ⟨bk, 0, none⟩)] w fun e w' => ((∃ x, pO f.sh t.data.toList = some x ∧ e = .returned (.bool true) ∧ CfM w' cb a n c { f with ra := x }) ∨ (pO f.sh t.data.toList = none ∧ e = .returned (.bool false))) ∧ w.grownBy w' (some cb) := by
  have HM := Lib.hid hm
  have hq := hm.c1
  have HB := Lib.hid hbox
  go_enter Tryz.func67, Tryz.ntmps67
  go_upto_region 1 with fail
  have HTD := Lib.hid (tab_below hT (Nat.le_refl _) (Grew.drew' (Grew.refl w)))
  have HC := Lib.hid (parse_pO' t f.sh)
  obtain ⟨y, ok, hy⟩ : ∃ y ok, parseQ t.data.toList f.sh = (y, ok) := ⟨_, _, rfl⟩
  have HPA : Hid (Calls Tryz.prog 68 #[.string t, .int .i64 f.sh] w.drew fun e w' => e = .returned (.tuple #[.int .i64 y, .bool ok]) ∧ Grew w.drew w') := Lib.hid (by
    have h := parse_any t f.sh w.drew (by omega) HTD.out
    rw [hy] at h
    exact h)
  rw [hy] at HC
  clear hm hy
  refine wp_region_held_drew (S := (fun W' => w.grownBy W' (some cb) ∧ W'.cell? ⟨bk, 0, none⟩ = some (.func (.func g) #[] #[]) ∧ W'.cell? ⟨cb, 1, none⟩ = some (.int .i64 f.sh))) (by kernel_rfl) ⟨Grew.by' (Grew.drew' (Grew.refl _)) _, hbox.cell, hq⟩ (fun hHeld => ?_)
  refine wpAnyH_take (i := 0) (oi := { dst := some 7, op := Go.Op.load 66 (Go.Operand.tmp 2), type := 66, pos := _, after := #[], guard := none }) (v := ?v42) rfl (by kernel_rfl) (by kernel_rfl) (by kernel_rfl) (fun _ _ _ h => h) (Or.inl ⟨by kernel_rfl, ?hy42⟩) (by assumption) ?_
  case hy42 => intro w hSw; (try dsimp only at hSw); first | (go_simp; done) | (go_simp; with_reducible rfl)
  (try simp only [Act.put, List.setIfInBounds_toArray, List.set_cons_zero, List.set_cons_succ])
  refine wpAnyH_take (i := 1) (oi := { dst := some 8, op := Go.Op.move (Go.Operand.tmp 0), type := 43, pos := _, after := #[], guard := none }) (v := ?v43) rfl (by kernel_rfl) (by kernel_rfl) (by kernel_rfl) (fun _ _ _ h => h) (Or.inl ⟨by kernel_rfl, ?hy43⟩) (by assumption) ?_
  case hy43 => intro w hSw; (try dsimp only at hSw); first | (go_simp; done) | (go_simp; with_reducible rfl)
  (try simp only [Act.put, List.setIfInBounds_toArray, List.set_cons_zero, List.set_cons_succ])
  refine wpAnyH_take (i := 3) (oi := { dst := some 10, op := Go.Op.move (Go.Operand.tmp 1), type := 9, pos := _, after := #[], guard := none }) (v := ?v44) rfl (by kernel_rfl) (by kernel_rfl) (by kernel_rfl) (fun _ _ _ h => h) (Or.inl ⟨by kernel_rfl, ?hy44⟩) (by assumption) ?_
  case hy44 => intro w hSw; (try dsimp only at hSw); first | (go_simp; done) | (go_simp; with_reducible rfl)
  (try simp only [Act.put, List.setIfInBounds_toArray, List.set_cons_zero, List.set_cons_succ])
  refine wpAnyH_take (i := 4) (oi := { dst := some 11, op := Go.Op.move (Go.Operand.tmp 0), type := 43, pos := _, after := #[], guard := none }) (v := ?v45) rfl (by kernel_rfl) (by kernel_rfl) (by kernel_rfl) (fun _ _ _ h => h) (Or.inl ⟨by kernel_rfl, ?hy45⟩) (by assumption) ?_
  case hy45 => intro w hSw; (try dsimp only at hSw); first | (go_simp; done) | (go_simp; with_reducible rfl)
  (try simp only [Act.put, List.setIfInBounds_toArray, List.set_cons_zero, List.set_cons_succ])
  refine wpAnyH_take (i := 5) (oi := { dst := some 12, op := Go.Op.nilCheck (Go.Operand.tmp 11), type := 0, pos := _, after := #[{ on := 4, ground := Go.Ground.data }], guard := none }) (v := ?v46) rfl (by kernel_rfl) (by kernel_rfl) (by kernel_rfl) (fun _ _ _ h => h) (Or.inl ⟨by kernel_rfl, ?hy46⟩) (by assumption) ?_
  case hy46 => intro w hSw; (try dsimp only at hSw); first | (go_simp; done) | (go_simp; with_reducible rfl)
  (try simp only [Act.put, List.setIfInBounds_toArray, List.set_cons_zero, List.set_cons_succ])
  refine wpAnyH_take (i := 6) (oi := { dst := some 13, op := Go.Op.fieldAddr 24 (Go.Operand.tmp 12) 1, type := 0, pos := _, after := #[{ on := 5, ground := Go.Ground.data }], guard := none }) (v := ?v47) rfl (by kernel_rfl) (by kernel_rfl) (by kernel_rfl) (fun _ _ _ h => h) (Or.inl ⟨by kernel_rfl, ?hy47⟩) (by assumption) ?_
  case hy47 => intro w hSw; (try dsimp only at hSw); first | (go_simp; done) | (go_simp; with_reducible rfl)
  (try simp only [Act.put, List.setIfInBounds_toArray, List.set_cons_zero, List.set_cons_succ])
  refine wpAnyH_take (i := 7) (oi := { dst := some 14, op := Go.Op.load 3 (Go.Operand.tmp 13), type := 3, pos := _, after := #[{ on := 6, ground := Go.Ground.data }], guard := none }) (v := ?v48) rfl (by kernel_rfl) (by kernel_rfl) (by kernel_rfl) (fun _ _ _ h => h) (Or.inl ⟨by kernel_rfl, ?hy48⟩) (by assumption) ?_
  case hy48 => intro w hSw; (try dsimp only at hSw); first | (go_simp; done) | (go_simp; with_reducible rfl)
  (try simp only [Act.put, List.setIfInBounds_toArray, List.set_cons_zero, List.set_cons_succ])
  refine wpAnyH_ready (rs := [2]) (by kernel_rfl) (by simp) ?_
  refine AllReadyH.cons (o := { dst := some 9, op := Go.Op.call { callee := Go.Callee.value (Go.Operand.tmp 7), args := #[Go.Operand.tmp 8], argTypes := #[43] }, type := 65, pos := _, after := #[{ on := 0, ground := Go.Ground.data }, { on := 1, ground := Go.Ground.data }], guard := none }) rfl (fun K hK => ?_) AllReadyH.nil
  go_simp
  (refine (hof _ _).mono ?_; rintro e wX ⟨rfl, rfl⟩)
  (try go_wp2_with fail)
  refine hK.out _ _ ?hS50 (fun hHeld => ?_)
  case hS50 => (try dsimp only); assumption
  clear hK K
  (try simp only [Act.put, List.setIfInBounds_toArray, List.set_cons_zero, List.set_cons_succ])
  refine wpAnyH_ready (rs := [8]) (by kernel_rfl) (by simp) ?_
  refine AllReadyH.cons (o := { dst := some 15, op := Go.Op.call { callee := Go.Callee.value (Go.Operand.func 68), args := #[Go.Operand.tmp 10, Go.Operand.tmp 14], argTypes := #[9, 3] }, type := 54, pos := _, after := #[{ on := 3, ground := Go.Ground.data }, { on := 7, ground := Go.Ground.data }, { on := 2, ground := Go.Ground.chain }], guard := none }) rfl (fun K hK => ?_) AllReadyH.nil
  go_simp
  (go_at_call 68; refine HPA.out.mono ?_; rintro e w1 ⟨rfl, g1⟩; have hm1 := HM.out.grow ((Grew.drew' (Grew.refl w)).trans g1); have q0 := hm1.c2; have q1 := hm1.fz 2; have q2 := hm1.lt; have HS := Lib.hid (hm1.set2 y); have HS1 := (hm1.set2 y).c1; have hg := grownBy_trans (((Grew.drew' (Grew.refl w)).trans g1).by' (some cb)) (setCell_grown w1 cb 2 (.int .i64 y)); have HB2 := Lib.hid (HB.out.kept hg (by simp; exact hne)); have HG := Lib.hid hg; clear hm1)
  (try go_wp2_with fail)
  refine hK.out _ _ ?hS52 (fun hHeld => ?_)
  case hS52 => (try dsimp only); exact ⟨((Grew.drew' (Grew.refl w)).trans g1).by' _, (HB.out.kept (((Grew.drew' (Grew.refl w)).trans g1).by' none) (by simp)).cell, (HM.out.grow ((Grew.drew' (Grew.refl w)).trans g1)).c1⟩
  clear hK K
  (try simp only [Act.put, List.setIfInBounds_toArray, List.set_cons_zero, List.set_cons_succ])
  refine wpAnyH_take (i := 9) (oi := { dst := some 6, op := Go.Op.move (Go.Operand.tmp 15), type := 54, pos := _, after := #[{ on := 8, ground := Go.Ground.data }], guard := none }) (v := ?v53) rfl (by kernel_rfl) (by kernel_rfl) (by kernel_rfl) (fun _ _ _ h => h) (Or.inl ⟨by kernel_rfl, ?hy53⟩) (by assumption) ?_
  case hy53 => intro w hSw; (try dsimp only at hSw); first | (go_simp; done) | (go_simp; with_reducible rfl)
  (try simp only [Act.put, List.setIfInBounds_toArray, List.set_cons_zero, List.set_cons_succ])
  refine wpAnyH_take (i := 10) (oi := { dst := some 16, op := Go.Op.extract (Go.Operand.tmp 6) 0, type := 2, pos := _, after := #[{ on := 9, ground := Go.Ground.data }], guard := none }) (v := ?v54) rfl (by kernel_rfl) (by kernel_rfl) (by kernel_rfl) (fun _ _ _ h => h) (Or.inl ⟨by kernel_rfl, ?hy54⟩) (by assumption) ?_
  case hy54 => intro w hSw; (try dsimp only at hSw); first | (go_simp; done) | (go_simp; with_reducible rfl)
  (try simp only [Act.put, List.setIfInBounds_toArray, List.set_cons_zero, List.set_cons_succ])
  refine wpAnyH_take (i := 11) (oi := { dst := some 17, op := Go.Op.extract (Go.Operand.tmp 6) 1, type := 4, pos := _, after := #[{ on := 9, ground := Go.Ground.data }, { on := 13, ground := Go.Ground.gcOnly Go.Departure.lateStores }], guard := none }) (v := ?v55) rfl (by kernel_rfl) (by kernel_rfl) (by kernel_rfl) (fun _ _ _ h => h) (Or.inl ⟨by kernel_rfl, ?hy55⟩) (by assumption) ?_
  case hy55 => intro w hSw; (try dsimp only at hSw); first | (go_simp; done) | (go_simp; with_reducible rfl)
  (try simp only [Act.put, List.setIfInBounds_toArray, List.set_cons_zero, List.set_cons_succ])
  refine wpAnyH_take (i := 12) (oi := { dst := some 18, op := Go.Op.nilCheck (Go.Operand.tmp 9), type := 0, pos := _, after := #[{ on := 2, ground := Go.Ground.data }, { on := 0, ground := Go.Ground.phase }, { on := 1, ground := Go.Ground.phase }, { on := 2, ground := Go.Ground.phase }, { on := 3, ground := Go.Ground.phase }, { on := 4, ground := Go.Ground.phase }, { on := 5, ground := Go.Ground.phase }, { on := 6, ground := Go.Ground.phase }, { on := 7, ground := Go.Ground.phase }, { on := 8, ground := Go.Ground.phase }, { on := 9, ground := Go.Ground.phase }, { on := 10, ground := Go.Ground.phase }, { on := 11, ground := Go.Ground.textOnly Go.Departure.lateStores }], guard := none }) (v := ?v56) rfl (by kernel_rfl) (by kernel_rfl) (by kernel_rfl) (fun _ _ _ h => h) (Or.inl ⟨by kernel_rfl, ?hy56⟩) (by assumption) ?_
  case hy56 => intro w hSw; (try dsimp only at hSw); first | (go_simp; done) | (go_simp; with_reducible rfl)
  (try simp only [Act.put, List.setIfInBounds_toArray, List.set_cons_zero, List.set_cons_succ])
  refine wpAnyH_ready (rs := [13]) (by kernel_rfl) (by simp) ?_
  refine AllReadyH.cons (o := { dst := none, op := Go.Op.store 2 (Go.Operand.tmp 18) (Go.Operand.tmp 16), type := 0, pos := _, after := #[{ on := 12, ground := Go.Ground.data }, { on := 10, ground := Go.Ground.data }, { on := 8, ground := Go.Ground.chain }, { on := 0, ground := Go.Ground.phase }, { on := 1, ground := Go.Ground.phase }, { on := 2, ground := Go.Ground.phase }, { on := 3, ground := Go.Ground.phase }, { on := 4, ground := Go.Ground.phase }, { on := 5, ground := Go.Ground.phase }, { on := 6, ground := Go.Ground.phase }, { on := 7, ground := Go.Ground.phase }, { on := 8, ground := Go.Ground.phase }, { on := 9, ground := Go.Ground.phase }, { on := 10, ground := Go.Ground.phase }, { on := 11, ground := Go.Ground.textOnly Go.Departure.lateStores }], guard := none }) rfl (fun K hK => ?_) AllReadyH.nil
  go_simp
  skip
  (try go_wp2_with fail)
  refine hK.out _ _ ?hS58 (fun hHeld => ?_)
  case hS58 => (try dsimp only); exact ⟨HG.out, HB2.out.cell, HS1⟩
  clear hK K
  (try simp only [Act.put, List.setIfInBounds_toArray, List.set_cons_zero, List.set_cons_succ])
  refine wpAnyH_take (i := 14) (oi := { dst := some 5, op := Go.Op.assign (Go.Operand.tmp 17), type := 4, pos := _, after := #[{ on := 11, ground := Go.Ground.data }, { on := 13, ground := Go.Ground.chain }, { on := 0, ground := Go.Ground.phase }, { on := 1, ground := Go.Ground.phase }, { on := 2, ground := Go.Ground.phase }, { on := 3, ground := Go.Ground.phase }, { on := 4, ground := Go.Ground.phase }, { on := 5, ground := Go.Ground.phase }, { on := 6, ground := Go.Ground.phase }, { on := 7, ground := Go.Ground.phase }, { on := 8, ground := Go.Ground.phase }, { on := 9, ground := Go.Ground.phase }, { on := 10, ground := Go.Ground.phase }, { on := 11, ground := Go.Ground.phase }, { on := 12, ground := Go.Ground.phase }, { on := 13, ground := Go.Ground.phase }], guard := none }) (v := ?v59) rfl (by kernel_rfl) (by kernel_rfl) (by kernel_rfl) (fun _ _ _ h => h) (Or.inl ⟨by kernel_rfl, ?hy59⟩) (by assumption) ?_
  case hy59 => intro w hSw; (try dsimp only at hSw); first | (go_simp; done) | (go_simp; with_reducible rfl)
  (try simp only [Act.put, List.setIfInBounds_toArray, List.set_cons_zero, List.set_cons_succ])
  refine wpAnyH_done (by kernel_rfl) ?_ _
  rcases HC.out with ⟨h1, h2⟩ | ⟨h1, h2⟩
  · have H1 := Lib.hid h1
    subst h2
    clear h1 HC
    go_wp2
    go_ret
    exact ⟨.inl ⟨y, H1.out, rfl, HS.out⟩, HG.out⟩
  · have H1 := Lib.hid h1
    subst h2
    clear h1 HC
    go_wp2
    go_ret
    exact ⟨.inr ⟨H1.out, rfl⟩, HG.out⟩
set_option maxHeartbeats 1000000 in
theorem fread_3 {g cb bk n c : Nat} {a : Option Addr} {f : Cf} (t : ByteArray) (w : World) (hne : bk ≠ cb) (hbox : Boxed w bk 66 (.func (.func g) #[] #[])) (heg : ∀ args w, (callFunc g args).run Tryz.prog w = .ok (.enter g args) w)
    (hof : ∀ cb w, Calls Tryz.prog g #[.pointer (some ⟨cb, 0, none⟩)] w fun e w' => e = .returned (.pointer (some ⟨cb, 3, none⟩)) ∧ w = w') (hm : CfM w cb a n c f) (ht : t.size ≤ 1000000) (hT : Lib.TabIs Tryz.prog w "internal/strconv.uint64pow10" .u64 Lib.pow10Tab) :
    Calls Tryz.prog 67 #[.pointer (some ⟨cb, 0, none⟩), .string t, .pointer (some ⟨bk, 0, none⟩)] w fun e w' => ((∃ x, pO f.sh t.data.toList = some x ∧ e = .returned (.bool true) ∧ CfM w' cb a n c { f with mo := x }) ∨ (pO f.sh t.data.toList = none ∧ e = .returned (.bool false))) ∧ w.grownBy w' (some cb) := by
  have HM := Lib.hid hm
  have hq := hm.c1
  have HB := Lib.hid hbox
  go_enter Tryz.func67, Tryz.ntmps67
  go_upto_region 1 with fail
  have HTD := Lib.hid (tab_below hT (Nat.le_refl _) (Grew.drew' (Grew.refl w)))
  have HC := Lib.hid (parse_pO' t f.sh)
  obtain ⟨y, ok, hy⟩ : ∃ y ok, parseQ t.data.toList f.sh = (y, ok) := ⟨_, _, rfl⟩
  have HPA : Hid (Calls Tryz.prog 68 #[.string t, .int .i64 f.sh] w.drew fun e w' => e = .returned (.tuple #[.int .i64 y, .bool ok]) ∧ Grew w.drew w') := Lib.hid (by
    have h := parse_any t f.sh w.drew (by omega) HTD.out
    rw [hy] at h
    exact h)
  rw [hy] at HC
  clear hm hy
  refine wp_region_held_drew (S := (fun W' => w.grownBy W' (some cb) ∧ W'.cell? ⟨bk, 0, none⟩ = some (.func (.func g) #[] #[]) ∧ W'.cell? ⟨cb, 1, none⟩ = some (.int .i64 f.sh))) (by kernel_rfl) ⟨Grew.by' (Grew.drew' (Grew.refl _)) _, hbox.cell, hq⟩ (fun hHeld => ?_)
  refine wpAnyH_take (i := 0) (oi := { dst := some 7, op := Go.Op.load 66 (Go.Operand.tmp 2), type := 66, pos := _, after := #[], guard := none }) (v := ?v60) rfl (by kernel_rfl) (by kernel_rfl) (by kernel_rfl) (fun _ _ _ h => h) (Or.inl ⟨by kernel_rfl, ?hy60⟩) (by assumption) ?_
  case hy60 => intro w hSw; (try dsimp only at hSw); first | (go_simp; done) | (go_simp; with_reducible rfl)
  (try simp only [Act.put, List.setIfInBounds_toArray, List.set_cons_zero, List.set_cons_succ])
  refine wpAnyH_take (i := 1) (oi := { dst := some 8, op := Go.Op.move (Go.Operand.tmp 0), type := 43, pos := _, after := #[], guard := none }) (v := ?v61) rfl (by kernel_rfl) (by kernel_rfl) (by kernel_rfl) (fun _ _ _ h => h) (Or.inl ⟨by kernel_rfl, ?hy61⟩) (by assumption) ?_
  case hy61 => intro w hSw; (try dsimp only at hSw); first | (go_simp; done) | (go_simp; with_reducible rfl)
  (try simp only [Act.put, List.setIfInBounds_toArray, List.set_cons_zero, List.set_cons_succ])
  refine wpAnyH_take (i := 3) (oi := { dst := some 10, op := Go.Op.move (Go.Operand.tmp 1), type := 9, pos := _, after := #[], guard := none }) (v := ?v62) rfl (by kernel_rfl) (by kernel_rfl) (by kernel_rfl) (fun _ _ _ h => h) (Or.inl ⟨by kernel_rfl, ?hy62⟩) (by assumption) ?_
  case hy62 => intro w hSw; (try dsimp only at hSw); first | (go_simp; done) | (go_simp; with_reducible rfl)
  (try simp only [Act.put, List.setIfInBounds_toArray, List.set_cons_zero, List.set_cons_succ])
  refine wpAnyH_take (i := 4) (oi := { dst := some 11, op := Go.Op.move (Go.Operand.tmp 0), type := 43, pos := _, after := #[], guard := none }) (v := ?v63) rfl (by kernel_rfl) (by kernel_rfl) (by kernel_rfl) (fun _ _ _ h => h) (Or.inl ⟨by kernel_rfl, ?hy63⟩) (by assumption) ?_
  case hy63 => intro w hSw; (try dsimp only at hSw); first | (go_simp; done) | (go_simp; with_reducible rfl)
  (try simp only [Act.put, List.setIfInBounds_toArray, List.set_cons_zero, List.set_cons_succ])
  refine wpAnyH_take (i := 5) (oi := { dst := some 12, op := Go.Op.nilCheck (Go.Operand.tmp 11), type := 0, pos := _, after := #[{ on := 4, ground := Go.Ground.data }], guard := none }) (v := ?v64) rfl (by kernel_rfl) (by kernel_rfl) (by kernel_rfl) (fun _ _ _ h => h) (Or.inl ⟨by kernel_rfl, ?hy64⟩) (by assumption) ?_
  case hy64 => intro w hSw; (try dsimp only at hSw); first | (go_simp; done) | (go_simp; with_reducible rfl)
  (try simp only [Act.put, List.setIfInBounds_toArray, List.set_cons_zero, List.set_cons_succ])
  refine wpAnyH_take (i := 6) (oi := { dst := some 13, op := Go.Op.fieldAddr 24 (Go.Operand.tmp 12) 1, type := 0, pos := _, after := #[{ on := 5, ground := Go.Ground.data }], guard := none }) (v := ?v65) rfl (by kernel_rfl) (by kernel_rfl) (by kernel_rfl) (fun _ _ _ h => h) (Or.inl ⟨by kernel_rfl, ?hy65⟩) (by assumption) ?_
  case hy65 => intro w hSw; (try dsimp only at hSw); first | (go_simp; done) | (go_simp; with_reducible rfl)
  (try simp only [Act.put, List.setIfInBounds_toArray, List.set_cons_zero, List.set_cons_succ])
  refine wpAnyH_take (i := 7) (oi := { dst := some 14, op := Go.Op.load 3 (Go.Operand.tmp 13), type := 3, pos := _, after := #[{ on := 6, ground := Go.Ground.data }], guard := none }) (v := ?v66) rfl (by kernel_rfl) (by kernel_rfl) (by kernel_rfl) (fun _ _ _ h => h) (Or.inl ⟨by kernel_rfl, ?hy66⟩) (by assumption) ?_
  case hy66 => intro w hSw; (try dsimp only at hSw); first | (go_simp; done) | (go_simp; with_reducible rfl)
  (try simp only [Act.put, List.setIfInBounds_toArray, List.set_cons_zero, List.set_cons_succ])
  refine wpAnyH_ready (rs := [2]) (by kernel_rfl) (by simp) ?_
  refine AllReadyH.cons (o := { dst := some 9, op := Go.Op.call { callee := Go.Callee.value (Go.Operand.tmp 7), args := #[Go.Operand.tmp 8], argTypes := #[43] }, type := 65, pos := _, after := #[{ on := 0, ground := Go.Ground.data }, { on := 1, ground := Go.Ground.data }], guard := none }) rfl (fun K hK => ?_) AllReadyH.nil
  go_simp
  (refine (hof _ _).mono ?_; rintro e wX ⟨rfl, rfl⟩)
  (try go_wp2_with fail)
  refine hK.out _ _ ?hS68 (fun hHeld => ?_)
  case hS68 => (try dsimp only); assumption
  clear hK K
  (try simp only [Act.put, List.setIfInBounds_toArray, List.set_cons_zero, List.set_cons_succ])
  refine wpAnyH_ready (rs := [8]) (by kernel_rfl) (by simp) ?_
  refine AllReadyH.cons (o := { dst := some 15, op := Go.Op.call { callee := Go.Callee.value (Go.Operand.func 68), args := #[Go.Operand.tmp 10, Go.Operand.tmp 14], argTypes := #[9, 3] }, type := 54, pos := _, after := #[{ on := 3, ground := Go.Ground.data }, { on := 7, ground := Go.Ground.data }, { on := 2, ground := Go.Ground.chain }], guard := none }) rfl (fun K hK => ?_) AllReadyH.nil
  go_simp
  (go_at_call 68; refine HPA.out.mono ?_; rintro e w1 ⟨rfl, g1⟩; have hm1 := HM.out.grow ((Grew.drew' (Grew.refl w)).trans g1); have q0 := hm1.c3; have q1 := hm1.fz 3; have q2 := hm1.lt; have HS := Lib.hid (hm1.set3 y); have HS1 := (hm1.set3 y).c1; have hg := grownBy_trans (((Grew.drew' (Grew.refl w)).trans g1).by' (some cb)) (setCell_grown w1 cb 3 (.int .i64 y)); have HB2 := Lib.hid (HB.out.kept hg (by simp; exact hne)); have HG := Lib.hid hg; clear hm1)
  (try go_wp2_with fail)
  refine hK.out _ _ ?hS70 (fun hHeld => ?_)
  case hS70 => (try dsimp only); exact ⟨((Grew.drew' (Grew.refl w)).trans g1).by' _, (HB.out.kept (((Grew.drew' (Grew.refl w)).trans g1).by' none) (by simp)).cell, (HM.out.grow ((Grew.drew' (Grew.refl w)).trans g1)).c1⟩
  clear hK K
  (try simp only [Act.put, List.setIfInBounds_toArray, List.set_cons_zero, List.set_cons_succ])
  refine wpAnyH_take (i := 9) (oi := { dst := some 6, op := Go.Op.move (Go.Operand.tmp 15), type := 54, pos := _, after := #[{ on := 8, ground := Go.Ground.data }], guard := none }) (v := ?v71) rfl (by kernel_rfl) (by kernel_rfl) (by kernel_rfl) (fun _ _ _ h => h) (Or.inl ⟨by kernel_rfl, ?hy71⟩) (by assumption) ?_
  case hy71 => intro w hSw; (try dsimp only at hSw); first | (go_simp; done) | (go_simp; with_reducible rfl)
  (try simp only [Act.put, List.setIfInBounds_toArray, List.set_cons_zero, List.set_cons_succ])
  refine wpAnyH_take (i := 10) (oi := { dst := some 16, op := Go.Op.extract (Go.Operand.tmp 6) 0, type := 2, pos := _, after := #[{ on := 9, ground := Go.Ground.data }], guard := none }) (v := ?v72) rfl (by kernel_rfl) (by kernel_rfl) (by kernel_rfl) (fun _ _ _ h => h) (Or.inl ⟨by kernel_rfl, ?hy72⟩) (by assumption) ?_
  case hy72 => intro w hSw; (try dsimp only at hSw); first | (go_simp; done) | (go_simp; with_reducible rfl)
  (try simp only [Act.put, List.setIfInBounds_toArray, List.set_cons_zero, List.set_cons_succ])
  refine wpAnyH_take (i := 11) (oi := { dst := some 17, op := Go.Op.extract (Go.Operand.tmp 6) 1, type := 4, pos := _, after := #[{ on := 9, ground := Go.Ground.data }, { on := 13, ground := Go.Ground.gcOnly Go.Departure.lateStores }], guard := none }) (v := ?v73) rfl (by kernel_rfl) (by kernel_rfl) (by kernel_rfl) (fun _ _ _ h => h) (Or.inl ⟨by kernel_rfl, ?hy73⟩) (by assumption) ?_
  case hy73 => intro w hSw; (try dsimp only at hSw); first | (go_simp; done) | (go_simp; with_reducible rfl)
  (try simp only [Act.put, List.setIfInBounds_toArray, List.set_cons_zero, List.set_cons_succ])
  refine wpAnyH_take (i := 12) (oi := { dst := some 18, op := Go.Op.nilCheck (Go.Operand.tmp 9), type := 0, pos := _, after := #[{ on := 2, ground := Go.Ground.data }, { on := 0, ground := Go.Ground.phase }, { on := 1, ground := Go.Ground.phase }, { on := 2, ground := Go.Ground.phase }, { on := 3, ground := Go.Ground.phase }, { on := 4, ground := Go.Ground.phase }, { on := 5, ground := Go.Ground.phase }, { on := 6, ground := Go.Ground.phase }, { on := 7, ground := Go.Ground.phase }, { on := 8, ground := Go.Ground.phase }, { on := 9, ground := Go.Ground.phase }, { on := 10, ground := Go.Ground.phase }, { on := 11, ground := Go.Ground.textOnly Go.Departure.lateStores }], guard := none }) (v := ?v74) rfl (by kernel_rfl) (by kernel_rfl) (by kernel_rfl) (fun _ _ _ h => h) (Or.inl ⟨by kernel_rfl, ?hy74⟩) (by assumption) ?_
  case hy74 => intro w hSw; (try dsimp only at hSw); first | (go_simp; done) | (go_simp; with_reducible rfl)
  (try simp only [Act.put, List.setIfInBounds_toArray, List.set_cons_zero, List.set_cons_succ])
  refine wpAnyH_ready (rs := [13]) (by kernel_rfl) (by simp) ?_
  refine AllReadyH.cons (o := { dst := none, op := Go.Op.store 2 (Go.Operand.tmp 18) (Go.Operand.tmp 16), type := 0, pos := _, after := #[{ on := 12, ground := Go.Ground.data }, { on := 10, ground := Go.Ground.data }, { on := 8, ground := Go.Ground.chain }, { on := 0, ground := Go.Ground.phase }, { on := 1, ground := Go.Ground.phase }, { on := 2, ground := Go.Ground.phase }, { on := 3, ground := Go.Ground.phase }, { on := 4, ground := Go.Ground.phase }, { on := 5, ground := Go.Ground.phase }, { on := 6, ground := Go.Ground.phase }, { on := 7, ground := Go.Ground.phase }, { on := 8, ground := Go.Ground.phase }, { on := 9, ground := Go.Ground.phase }, { on := 10, ground := Go.Ground.phase }, { on := 11, ground := Go.Ground.textOnly Go.Departure.lateStores }], guard := none }) rfl (fun K hK => ?_) AllReadyH.nil
  go_simp
  skip
  (try go_wp2_with fail)
  refine hK.out _ _ ?hS76 (fun hHeld => ?_)
  case hS76 => (try dsimp only); exact ⟨HG.out, HB2.out.cell, HS1⟩
  clear hK K
  (try simp only [Act.put, List.setIfInBounds_toArray, List.set_cons_zero, List.set_cons_succ])
  refine wpAnyH_take (i := 14) (oi := { dst := some 5, op := Go.Op.assign (Go.Operand.tmp 17), type := 4, pos := _, after := #[{ on := 11, ground := Go.Ground.data }, { on := 13, ground := Go.Ground.chain }, { on := 0, ground := Go.Ground.phase }, { on := 1, ground := Go.Ground.phase }, { on := 2, ground := Go.Ground.phase }, { on := 3, ground := Go.Ground.phase }, { on := 4, ground := Go.Ground.phase }, { on := 5, ground := Go.Ground.phase }, { on := 6, ground := Go.Ground.phase }, { on := 7, ground := Go.Ground.phase }, { on := 8, ground := Go.Ground.phase }, { on := 9, ground := Go.Ground.phase }, { on := 10, ground := Go.Ground.phase }, { on := 11, ground := Go.Ground.phase }, { on := 12, ground := Go.Ground.phase }, { on := 13, ground := Go.Ground.phase }], guard := none }) (v := ?v77) rfl (by kernel_rfl) (by kernel_rfl) (by kernel_rfl) (fun _ _ _ h => h) (Or.inl ⟨by kernel_rfl, ?hy77⟩) (by assumption) ?_
  case hy77 => intro w hSw; (try dsimp only at hSw); first | (go_simp; done) | (go_simp; with_reducible rfl)
  (try simp only [Act.put, List.setIfInBounds_toArray, List.set_cons_zero, List.set_cons_succ])
  refine wpAnyH_done (by kernel_rfl) ?_ _
  rcases HC.out with ⟨h1, h2⟩ | ⟨h1, h2⟩
  · have H1 := Lib.hid h1
    subst h2
    clear h1 HC
    go_wp2
    go_ret
    exact ⟨.inl ⟨y, H1.out, rfl, HS.out⟩, HG.out⟩
  · have H1 := Lib.hid h1
    subst h2
    clear h1 HC
    go_wp2
    go_ret
    exact ⟨.inr ⟨H1.out, rfl⟩, HG.out⟩
end Go.Proofs.YthcahpgandappaaGreatDoor
