/- Each value of a configuration by its number; Text of package conf: the text of a configuration, or none. Conditions: at most 2000 sizes, all numbers within the bounds of int64; the table of powers of ten holds its numbers. -/
import Derived.Test.YthcahpgandappaaGreatDoorCq
namespace Go.Proofs.YthcahpgandappaaGreatDoor
open Go.RowKit Go.Shelf

def gW : Nat → Nat
  | 2 => 65
  | 3 => 65
  | _ => 60
theorem gW_enters (k : Nat) : ∀ args w, (callFunc (gW k) args).run Tryz.prog w = .ok (.enter (gW k) args) w := by
  unfold gW
  split
  · exact enters_of Tryz.func65 (by kernel_rfl) rfl
  · exact enters_of Tryz.func65 (by kernel_rfl) rfl
  · exact enters_of Tryz.func60 (by kernel_rfl) rfl
def gR : Nat → Nat
  | 2 => 67
  | 3 => 67
  | _ => 62
theorem gR_enters (k : Nat) : ∀ args w, (callFunc (gR k) args).run Tryz.prog w = .ok (.enter (gR k) args) w := by
  unfold gR
  split
  · exact enters_of Tryz.func67 (by kernel_rfl) rfl
  · exact enters_of Tryz.func67 (by kernel_rfl) rfl
  · exact enters_of Tryz.func62 (by kernel_rfl) rfl
def gS : Nat → Nat
  | 2 => 69
  | 3 => 69
  | _ => 64
theorem gS_enters (k : Nat) : ∀ args w, (callFunc (gS k) args).run Tryz.prog w = .ok (.enter (gS k) args) w := by
  unfold gS
  split
  · exact enters_of Tryz.func69 (by kernel_rfl) rfl
  · exact enters_of Tryz.func69 (by kernel_rfl) rfl
  · exact enters_of Tryz.func64 (by kernel_rfl) rfl
theorem idx_0 (bx : Nat → Nat) (W : World) : (Instr.index 41 (.agg (valsA bx)) (.int .i64 0)).run Tryz.prog W = .ok (.agg #[.string ⟨(nm 0).toArray⟩, .func (.func 54) #[] #[], .func (.func 56) #[] #[], .func (.func 58) #[] #[]]) W := by kernel_rfl
theorem idx_1 (bx : Nat → Nat) (W : World) : (Instr.index 41 (.agg (valsA bx)) (.int .i64 ((1 : Nat) : Int))).run Tryz.prog W = .ok (.agg #[.string ⟨(nm 1).toArray⟩, .func (.func (gW 1)) #[] #[.pointer (some ⟨bx 1, 0, none⟩)], .func (.func (gR 1)) #[] #[.pointer (some ⟨bx 1, 0, none⟩)], .func (.func (gS 1)) #[] #[.pointer (some ⟨bx 1, 0, none⟩)]]) W := by kernel_rfl
theorem idx_2 (bx : Nat → Nat) (W : World) : (Instr.index 41 (.agg (valsA bx)) (.int .i64 ((2 : Nat) : Int))).run Tryz.prog W = .ok (.agg #[.string ⟨(nm 2).toArray⟩, .func (.func (gW 2)) #[] #[.pointer (some ⟨bx 2, 0, none⟩)], .func (.func (gR 2)) #[] #[.pointer (some ⟨bx 2, 0, none⟩)], .func (.func (gS 2)) #[] #[.pointer (some ⟨bx 2, 0, none⟩)]]) W := by kernel_rfl
theorem idx_3 (bx : Nat → Nat) (W : World) : (Instr.index 41 (.agg (valsA bx)) (.int .i64 ((3 : Nat) : Int))).run Tryz.prog W = .ok (.agg #[.string ⟨(nm 3).toArray⟩, .func (.func (gW 3)) #[] #[.pointer (some ⟨bx 3, 0, none⟩)], .func (.func (gR 3)) #[] #[.pointer (some ⟨bx 3, 0, none⟩)], .func (.func (gS 3)) #[] #[.pointer (some ⟨bx 3, 0, none⟩)]]) W := by kernel_rfl
theorem idx_4 (bx : Nat → Nat) (W : World) : (Instr.index 41 (.agg (valsA bx)) (.int .i64 ((4 : Nat) : Int))).run Tryz.prog W = .ok (.agg #[.string ⟨(nm 4).toArray⟩, .func (.func (gW 4)) #[] #[.pointer (some ⟨bx 4, 0, none⟩)], .func (.func (gR 4)) #[] #[.pointer (some ⟨bx 4, 0, none⟩)], .func (.func (gS 4)) #[] #[.pointer (some ⟨bx 4, 0, none⟩)]]) W := by kernel_rfl
theorem idx_5 (bx : Nat → Nat) (W : World) : (Instr.index 41 (.agg (valsA bx)) (.int .i64 ((5 : Nat) : Int))).run Tryz.prog W = .ok (.agg #[.string ⟨(nm 5).toArray⟩, .func (.func (gW 5)) #[] #[.pointer (some ⟨bx 5, 0, none⟩)], .func (.func (gR 5)) #[] #[.pointer (some ⟨bx 5, 0, none⟩)], .func (.func (gS 5)) #[] #[.pointer (some ⟨bx 5, 0, none⟩)]]) W := by kernel_rfl
theorem idx_6 (bx : Nat → Nat) (W : World) : (Instr.index 41 (.agg (valsA bx)) (.int .i64 ((6 : Nat) : Int))).run Tryz.prog W = .ok (.agg #[.string ⟨(nm 6).toArray⟩, .func (.func (gW 6)) #[] #[.pointer (some ⟨bx 6, 0, none⟩)], .func (.func (gR 6)) #[] #[.pointer (some ⟨bx 6, 0, none⟩)], .func (.func (gS 6)) #[] #[.pointer (some ⟨bx 6, 0, none⟩)]]) W := by kernel_rfl
theorem idx_7 (bx : Nat → Nat) (W : World) : (Instr.index 41 (.agg (valsA bx)) (.int .i64 ((7 : Nat) : Int))).run Tryz.prog W = .ok (.agg #[.string ⟨(nm 7).toArray⟩, .func (.func (gW 7)) #[] #[.pointer (some ⟨bx 7, 0, none⟩)], .func (.func (gR 7)) #[] #[.pointer (some ⟨bx 7, 0, none⟩)], .func (.func (gS 7)) #[] #[.pointer (some ⟨bx 7, 0, none⟩)]]) W := by kernel_rfl
theorem idx_8 (bx : Nat → Nat) (W : World) : (Instr.index 41 (.agg (valsA bx)) (.int .i64 ((8 : Nat) : Int))).run Tryz.prog W = .ok (.agg #[.string ⟨(nm 8).toArray⟩, .func (.func (gW 8)) #[] #[.pointer (some ⟨bx 8, 0, none⟩)], .func (.func (gR 8)) #[] #[.pointer (some ⟨bx 8, 0, none⟩)], .func (.func (gS 8)) #[] #[.pointer (some ⟨bx 8, 0, none⟩)]]) W := by kernel_rfl
theorem idx_9 (bx : Nat → Nat) (W : World) : (Instr.index 41 (.agg (valsA bx)) (.int .i64 ((9 : Nat) : Int))).run Tryz.prog W = .ok (.agg #[.string ⟨(nm 9).toArray⟩, .func (.func (gW 9)) #[] #[.pointer (some ⟨bx 9, 0, none⟩)], .func (.func (gR 9)) #[] #[.pointer (some ⟨bx 9, 0, none⟩)], .func (.func (gS 9)) #[] #[.pointer (some ⟨bx 9, 0, none⟩)]]) W := by kernel_rfl
theorem idx_10 (bx : Nat → Nat) (W : World) : (Instr.index 41 (.agg (valsA bx)) (.int .i64 ((10 : Nat) : Int))).run Tryz.prog W = .ok (.agg #[.string ⟨(nm 10).toArray⟩, .func (.func (gW 10)) #[] #[.pointer (some ⟨bx 10, 0, none⟩)], .func (.func (gR 10)) #[] #[.pointer (some ⟨bx 10, 0, none⟩)], .func (.func (gS 10)) #[] #[.pointer (some ⟨bx 10, 0, none⟩)]]) W := by kernel_rfl
theorem idx_11 (bx : Nat → Nat) (W : World) : (Instr.index 41 (.agg (valsA bx)) (.int .i64 ((11 : Nat) : Int))).run Tryz.prog W = .ok (.agg #[.string ⟨(nm 11).toArray⟩, .func (.func (gW 11)) #[] #[.pointer (some ⟨bx 11, 0, none⟩)], .func (.func (gR 11)) #[] #[.pointer (some ⟨bx 11, 0, none⟩)], .func (.func (gS 11)) #[] #[.pointer (some ⟨bx 11, 0, none⟩)]]) W := by kernel_rfl
theorem idx_k (bx : Nat → Nat) {k : Nat} (h1 : 1 ≤ k) (h2 : k < 12) (W : World) : (Instr.index 41 (.agg (valsA bx)) (.int .i64 ((k : Nat) : Int))).run Tryz.prog W = .ok (.agg #[.string ⟨(nm k).toArray⟩, .func (.func (gW k)) #[] #[.pointer (some ⟨bx k, 0, none⟩)], .func (.func (gR k)) #[] #[.pointer (some ⟨bx k, 0, none⟩)], .func (.func (gS k)) #[] #[.pointer (some ⟨bx k, 0, none⟩)]]) W := by
  match k, h1, h2 with
  | 1, _, _ => exact idx_1 bx W
  | 2, _, _ => exact idx_2 bx W
  | 3, _, _ => exact idx_3 bx W
  | 4, _, _ => exact idx_4 bx W
  | 5, _, _ => exact idx_5 bx W
  | 6, _, _ => exact idx_6 bx W
  | 7, _, _ => exact idx_7 bx W
  | 8, _, _ => exact idx_8 bx W
  | 9, _, _ => exact idx_9 bx W
  | 10, _, _ => exact idx_10 bx W
  | 11, _, _ => exact idx_11 bx W

/-- All numbers are within the bounds of int64. -/
def AllIn (f : Cf) : Prop := (∀ x ∈ f.z, i64 x) ∧ ∀ k, 1 ≤ k → k < 12 → i64 (xk f k)
theorem kwrite_any {cb n c k : Nat} {a : Option Addr} {f : Cf} {bx : Nat → Nat} (w : World) (h1 : 1 ≤ k) (h2 : k < 12) (hm : CfM w cb a n c f) (hb : Bx bx w) (hi : AllIn f) (hT : Lib.TabIs Tryz.prog w "internal/strconv.uint64pow10" .u64 Lib.pow10Tab) :
    Calls Tryz.prog (gW k) #[.pointer (some ⟨cb, 0, none⟩), .pointer (some ⟨bx k, 0, none⟩)] w fun e w' => e = .returned (.string ⟨(wrV f k).toArray⟩) ∧ Grew w w' := by
  match k, h1, h2 with
  | 1, _, _ => exact cwrite_any (g := gOf 1) (k := 1) w (hb 1 (by decide) (by decide)) (of_enters (by decide) (by decide)) (fun cb w => of_any (by decide) (by decide) cb w) hm.c1 (hi.2 1 (by decide) (by decide)) hT
  | 2, _, _ => exact fwrite_any (g := gOf 2) (k := 2) w (hb 2 (by decide) (by decide)) (of_enters (by decide) (by decide)) (fun cb w => of_any (by decide) (by decide) cb w) hm.c2 hm.c1 (hi.2 2 (by decide) (by decide)) hT
  | 3, _, _ => exact fwrite_any (g := gOf 3) (k := 3) w (hb 3 (by decide) (by decide)) (of_enters (by decide) (by decide)) (fun cb w => of_any (by decide) (by decide) cb w) hm.c3 hm.c1 (hi.2 3 (by decide) (by decide)) hT
  | 4, _, _ => exact cwrite_any (g := gOf 4) (k := 4) w (hb 4 (by decide) (by decide)) (of_enters (by decide) (by decide)) (fun cb w => of_any (by decide) (by decide) cb w) hm.c4 (hi.2 4 (by decide) (by decide)) hT
  | 5, _, _ => exact cwrite_any (g := gOf 5) (k := 5) w (hb 5 (by decide) (by decide)) (of_enters (by decide) (by decide)) (fun cb w => of_any (by decide) (by decide) cb w) hm.c5 (hi.2 5 (by decide) (by decide)) hT
  | 6, _, _ => exact cwrite_any (g := gOf 6) (k := 6) w (hb 6 (by decide) (by decide)) (of_enters (by decide) (by decide)) (fun cb w => of_any (by decide) (by decide) cb w) hm.c6 (hi.2 6 (by decide) (by decide)) hT
  | 7, _, _ => exact cwrite_any (g := gOf 7) (k := 7) w (hb 7 (by decide) (by decide)) (of_enters (by decide) (by decide)) (fun cb w => of_any (by decide) (by decide) cb w) hm.c7 (hi.2 7 (by decide) (by decide)) hT
  | 8, _, _ => exact cwrite_any (g := gOf 8) (k := 8) w (hb 8 (by decide) (by decide)) (of_enters (by decide) (by decide)) (fun cb w => of_any (by decide) (by decide) cb w) hm.c8 (hi.2 8 (by decide) (by decide)) hT
  | 9, _, _ => exact cwrite_any (g := gOf 9) (k := 9) w (hb 9 (by decide) (by decide)) (of_enters (by decide) (by decide)) (fun cb w => of_any (by decide) (by decide) cb w) hm.c9 (hi.2 9 (by decide) (by decide)) hT
  | 10, _, _ => exact cwrite_any (g := gOf 10) (k := 10) w (hb 10 (by decide) (by decide)) (of_enters (by decide) (by decide)) (fun cb w => of_any (by decide) (by decide) cb w) hm.c10 (hi.2 10 (by decide) (by decide)) hT
  | 11, _, _ => exact cwrite_any (g := gOf 11) (k := 11) w (hb 11 (by decide) (by decide)) (of_enters (by decide) (by decide)) (fun cb w => of_any (by decide) (by decide) cb w) hm.c11 (hi.2 11 (by decide) (by decide)) hT
/-- A value is read: what read makes of a text is in the configuration then. -/
theorem kread_any {cb n c k : Nat} {a : Option Addr} {f : Cf} {bx : Nat → Nat} (t : ByteArray) (w : World) (h1 : 1 ≤ k) (h2 : k < 12) (hne : bx k ≠ cb) (hm : CfM w cb a n c f) (hb : Bx bx w) (ht : t.size ≤ 1000000) (hT : Lib.TabIs Tryz.prog w "internal/strconv.uint64pow10" .u64 Lib.pow10Tab) :
    Calls Tryz.prog (gR k) #[.pointer (some ⟨cb, 0, none⟩), .string t, .pointer (some ⟨bx k, 0, none⟩)] w fun e w' => ((∃ g, rdk k t.data.toList f = some g ∧ e = .returned (.bool true) ∧ CfM w' cb a n c g) ∨ (rdk k t.data.toList f = none ∧ e = .returned (.bool false))) ∧ w.grownBy w' (some cb) := by
  match k, h1, h2 with
  | 1, _, _ =>
    refine (cread_any (g := gOf 1) (k := 1) t w (hb 1 (by decide) (by decide)) (of_enters (by decide) (by decide)) (fun cb w => of_any (by decide) (by decide) cb w) hm (by decide) (by decide) ht hT).mono ?_
    rintro e w' ⟨⟨x, hx, rfl, hc⟩ | ⟨hx, rfl⟩, g⟩
    · exact ⟨.inl ⟨_, rd_nat_mk (by decide) hx, rfl, hc⟩, g⟩
    · exact ⟨.inr ⟨by show (match natO t.data.toList with | some x => some (setX f 1 x) | none => none) = _; rw [hx], rfl⟩, g⟩
  | 2, _, _ =>
    refine (fread_2 (g := gOf 2) t w hne (hb 2 (by decide) (by decide)) (of_enters (by decide) (by decide)) (fun cb w => of_any (by decide) (by decide) cb w) hm ht hT).mono ?_
    rintro e w' ⟨⟨x, hx, rfl, hc⟩ | ⟨hx, rfl⟩, g⟩
    · exact ⟨.inl ⟨_, by show (match pO f.sh t.data.toList with | some x => some { f with ra := x } | none => none) = _; rw [hx], rfl, hc⟩, g⟩
    · exact ⟨.inr ⟨by show (match pO f.sh t.data.toList with | some x => some { f with ra := x } | none => none) = _; rw [hx], rfl⟩, g⟩
  | 3, _, _ =>
    refine (fread_3 (g := gOf 3) t w hne (hb 3 (by decide) (by decide)) (of_enters (by decide) (by decide)) (fun cb w => of_any (by decide) (by decide) cb w) hm ht hT).mono ?_
    rintro e w' ⟨⟨x, hx, rfl, hc⟩ | ⟨hx, rfl⟩, g⟩
    · exact ⟨.inl ⟨_, by show (match pO f.sh t.data.toList with | some x => some { f with mo := x } | none => none) = _; rw [hx], rfl, hc⟩, g⟩
    · exact ⟨.inr ⟨by show (match pO f.sh t.data.toList with | some x => some { f with mo := x } | none => none) = _; rw [hx], rfl⟩, g⟩
  | 4, _, _ =>
    refine (cread_any (g := gOf 4) (k := 4) t w (hb 4 (by decide) (by decide)) (of_enters (by decide) (by decide)) (fun cb w => of_any (by decide) (by decide) cb w) hm (by decide) (by decide) ht hT).mono ?_
    rintro e w' ⟨⟨x, hx, rfl, hc⟩ | ⟨hx, rfl⟩, g⟩
    · exact ⟨.inl ⟨_, rd_nat_mk (by decide) hx, rfl, hc⟩, g⟩
    · exact ⟨.inr ⟨by show (match natO t.data.toList with | some x => some (setX f 4 x) | none => none) = _; rw [hx], rfl⟩, g⟩
  | 5, _, _ =>
    refine (cread_any (g := gOf 5) (k := 5) t w (hb 5 (by decide) (by decide)) (of_enters (by decide) (by decide)) (fun cb w => of_any (by decide) (by decide) cb w) hm (by decide) (by decide) ht hT).mono ?_
    rintro e w' ⟨⟨x, hx, rfl, hc⟩ | ⟨hx, rfl⟩, g⟩
    · exact ⟨.inl ⟨_, rd_nat_mk (by decide) hx, rfl, hc⟩, g⟩
    · exact ⟨.inr ⟨by show (match natO t.data.toList with | some x => some (setX f 5 x) | none => none) = _; rw [hx], rfl⟩, g⟩
  | 6, _, _ =>
    refine (cread_any (g := gOf 6) (k := 6) t w (hb 6 (by decide) (by decide)) (of_enters (by decide) (by decide)) (fun cb w => of_any (by decide) (by decide) cb w) hm (by decide) (by decide) ht hT).mono ?_
    rintro e w' ⟨⟨x, hx, rfl, hc⟩ | ⟨hx, rfl⟩, g⟩
    · exact ⟨.inl ⟨_, rd_nat_mk (by decide) hx, rfl, hc⟩, g⟩
    · exact ⟨.inr ⟨by show (match natO t.data.toList with | some x => some (setX f 6 x) | none => none) = _; rw [hx], rfl⟩, g⟩
  | 7, _, _ =>
    refine (cread_any (g := gOf 7) (k := 7) t w (hb 7 (by decide) (by decide)) (of_enters (by decide) (by decide)) (fun cb w => of_any (by decide) (by decide) cb w) hm (by decide) (by decide) ht hT).mono ?_
    rintro e w' ⟨⟨x, hx, rfl, hc⟩ | ⟨hx, rfl⟩, g⟩
    · exact ⟨.inl ⟨_, rd_nat_mk (by decide) hx, rfl, hc⟩, g⟩
    · exact ⟨.inr ⟨by show (match natO t.data.toList with | some x => some (setX f 7 x) | none => none) = _; rw [hx], rfl⟩, g⟩
  | 8, _, _ =>
    refine (cread_any (g := gOf 8) (k := 8) t w (hb 8 (by decide) (by decide)) (of_enters (by decide) (by decide)) (fun cb w => of_any (by decide) (by decide) cb w) hm (by decide) (by decide) ht hT).mono ?_
    rintro e w' ⟨⟨x, hx, rfl, hc⟩ | ⟨hx, rfl⟩, g⟩
    · exact ⟨.inl ⟨_, rd_nat_mk (by decide) hx, rfl, hc⟩, g⟩
    · exact ⟨.inr ⟨by show (match natO t.data.toList with | some x => some (setX f 8 x) | none => none) = _; rw [hx], rfl⟩, g⟩
  | 9, _, _ =>
    refine (cread_any (g := gOf 9) (k := 9) t w (hb 9 (by decide) (by decide)) (of_enters (by decide) (by decide)) (fun cb w => of_any (by decide) (by decide) cb w) hm (by decide) (by decide) ht hT).mono ?_
    rintro e w' ⟨⟨x, hx, rfl, hc⟩ | ⟨hx, rfl⟩, g⟩
    · exact ⟨.inl ⟨_, rd_nat_mk (by decide) hx, rfl, hc⟩, g⟩
    · exact ⟨.inr ⟨by show (match natO t.data.toList with | some x => some (setX f 9 x) | none => none) = _; rw [hx], rfl⟩, g⟩
  | 10, _, _ =>
    refine (cread_any (g := gOf 10) (k := 10) t w (hb 10 (by decide) (by decide)) (of_enters (by decide) (by decide)) (fun cb w => of_any (by decide) (by decide) cb w) hm (by decide) (by decide) ht hT).mono ?_
    rintro e w' ⟨⟨x, hx, rfl, hc⟩ | ⟨hx, rfl⟩, g⟩
    · exact ⟨.inl ⟨_, rd_nat_mk (by decide) hx, rfl, hc⟩, g⟩
    · exact ⟨.inr ⟨by show (match natO t.data.toList with | some x => some (setX f 10 x) | none => none) = _; rw [hx], rfl⟩, g⟩
  | 11, _, _ =>
    refine (cread_any (g := gOf 11) (k := 11) t w (hb 11 (by decide) (by decide)) (of_enters (by decide) (by decide)) (fun cb w => of_any (by decide) (by decide) cb w) hm (by decide) (by decide) ht hT).mono ?_
    rintro e w' ⟨⟨x, hx, rfl, hc⟩ | ⟨hx, rfl⟩, g⟩
    · exact ⟨.inl ⟨_, rd_nat_mk (by decide) hx, rfl, hc⟩, g⟩
    · exact ⟨.inr ⟨by show (match natO t.data.toList with | some x => some (setX f 11 x) | none => none) = _; rw [hx], rfl⟩, g⟩
theorem ksame_any {cb cc n c n' c' k : Nat} {a a' : Option Addr} {f g : Cf} {bx : Nat → Nat} (w : World) (h1 : 1 ≤ k) (h2 : k < 12) (hm : CfM w cb a n c f) (hm' : CfM w cc a' n' c' g) (hb : Bx bx w) :
    Calls Tryz.prog (gS k) #[.pointer (some ⟨cb, 0, none⟩), .pointer (some ⟨cc, 0, none⟩), .pointer (some ⟨bx k, 0, none⟩)] w fun e w' => e = .returned (.bool (xk f k == xk g k)) ∧ Grew w w' := by
  match k, h1, h2 with
  | 1, _, _ => exact csame_any (g := gOf 1) (k := 1) w (hb 1 (by decide) (by decide)) (of_enters (by decide) (by decide)) (fun cb w => of_any (by decide) (by decide) cb w) hm.c1 hm'.c1
  | 2, _, _ => exact fsame_any (g := gOf 2) (k := 2) w (hb 2 (by decide) (by decide)) (of_enters (by decide) (by decide)) (fun cb w => of_any (by decide) (by decide) cb w) hm.c2 hm'.c2
  | 3, _, _ => exact fsame_any (g := gOf 3) (k := 3) w (hb 3 (by decide) (by decide)) (of_enters (by decide) (by decide)) (fun cb w => of_any (by decide) (by decide) cb w) hm.c3 hm'.c3
  | 4, _, _ => exact csame_any (g := gOf 4) (k := 4) w (hb 4 (by decide) (by decide)) (of_enters (by decide) (by decide)) (fun cb w => of_any (by decide) (by decide) cb w) hm.c4 hm'.c4
  | 5, _, _ => exact csame_any (g := gOf 5) (k := 5) w (hb 5 (by decide) (by decide)) (of_enters (by decide) (by decide)) (fun cb w => of_any (by decide) (by decide) cb w) hm.c5 hm'.c5
  | 6, _, _ => exact csame_any (g := gOf 6) (k := 6) w (hb 6 (by decide) (by decide)) (of_enters (by decide) (by decide)) (fun cb w => of_any (by decide) (by decide) cb w) hm.c6 hm'.c6
  | 7, _, _ => exact csame_any (g := gOf 7) (k := 7) w (hb 7 (by decide) (by decide)) (of_enters (by decide) (by decide)) (fun cb w => of_any (by decide) (by decide) cb w) hm.c7 hm'.c7
  | 8, _, _ => exact csame_any (g := gOf 8) (k := 8) w (hb 8 (by decide) (by decide)) (of_enters (by decide) (by decide)) (fun cb w => of_any (by decide) (by decide) cb w) hm.c8 hm'.c8
  | 9, _, _ => exact csame_any (g := gOf 9) (k := 9) w (hb 9 (by decide) (by decide)) (of_enters (by decide) (by decide)) (fun cb w => of_any (by decide) (by decide) cb w) hm.c9 hm'.c9
  | 10, _, _ => exact csame_any (g := gOf 10) (k := 10) w (hb 10 (by decide) (by decide)) (of_enters (by decide) (by decide)) (fun cb w => of_any (by decide) (by decide) cb w) hm.c10 hm'.c10
  | 11, _, _ => exact csame_any (g := gOf 11) (k := 11) w (hb 11 (by decide) (by decide)) (of_enters (by decide) (by decide)) (fun cb w => of_any (by decide) (by decide) cb w) hm.c11 hm'.c11

theorem cell_two_newC (W : World) (u v : Value) (t : TypeId) (j : Nat) (x : Value) (h : [u, v][j]? = some x) : (W.alloc (.cells #[u, v] t)).cell? (Addr.add ⟨W.heap.size, 0, none⟩ j) = some x := by
  rw [Addr.add_lit, World.cell?_alloc_new, Nat.zero_add]
  match j, h with
  | 0, h => exact h
  | 1, h => exact h
  | j + 2, h => simp at h
def sV (l : List UInt8) : Value := .string ⟨l.toArray⟩
theorem words_two (f : Cf) (k : Nat) : (wordsN f (k + 1)).map sV = (wordsN f k).map sV ++ [sV (nm k), sV (wrV f k)] := by rw [wordsN_succ, List.map_append]; rfl
theorem words_len (f : Cf) : ∀ k, (wordsN f k).length = 2 * k
  | 0 => rfl
  | k + 1 => by rw [wordsN_succ, List.length_append, words_len f k]; simp; omega
theorem nm_len : ∀ k, (nm k).length ≤ 8 := by
  intro k
  unfold nm
  split <;> decide
theorem wrV_len {f : Cf} {k : Nat} (hz : f.z.length ≤ 2000) (hi : AllIn f) (hk : k < 12) : (wrV f k).length ≤ 168000 := by
  have hc : ∀ n, (cntT n).length ≤ 168000 := fun n => by
    cases h : inR n 0 1048576 with
    | true => rw [cntT_yes h]; have := nat_len h; omega
    | false => rw [cntT_no h]; simp
  have ht : ∀ x, i64 x → (textV x f.sh).length ≤ 168000 := fun x hx => by
    unfold textV
    split
    · rename_i h
      have := text_len (q := f.sh.toNat) (toNat_le h) hx.1 hx.2
      omega
    · simp
  match k, hk with
  | 0, _ =>
    show (sizesT f.z).length ≤ _
    unfold sizesT
    split
    · rename_i h
      have := sizesL_len h.2
      omega
    · simp
  | 2, _ => exact ht _ (hi.2 2 (by decide) (by decide))
  | 3, _ => exact ht _ (hi.2 3 (by decide) (by decide))
  | 1, _ => exact hc _
  | 4, _ => exact hc _
  | 5, _ => exact hc _
  | 6, _ => exact hc _
  | 7, _ => exact hc _
  | 8, _ => exact hc _
  | 9, _ => exact hc _
  | 10, _ => exact hc _
  | 11, _ => exact hc _
theorem conf_len {f : Cf} (hz : f.z.length ≤ 2000) (hi : AllIn f) : (confL f).length ≤ 24 * 168001 := by
  have h := jlensC [32] 168000 (wordsN f 12) (fun p hp => by
    unfold wordsN at hp
    obtain ⟨k, hk, hp⟩ := List.mem_flatMap.1 hp
    have hk' := List.mem_range.1 hk
    simp at hp
    rcases hp with rfl | rfl
    · have := nm_len k; omega
    · exact wrV_len hz hi hk')
  rw [words_len] at h
  exact h
set_option maxRecDepth 100000 in
set_option maxHeartbeats 4000000 in
theorem ctext_any {n : Nat} (a : Option Addr) (c : Nat) (f : Cf) (w : World) (hn : f.z.length = n) (hl : n ≤ 2000) (hi : AllIn f) (hr : RdK .i64 w.heap.size w a f.z) (hT : Lib.TabIs Tryz.prog w "internal/strconv.uint64pow10" .u64 Lib.pow10Tab) :
    Calls Tryz.prog 7 #[.agg #[.slice a n c, .int .i64 f.sh, .int .i64 f.ra, .int .i64 f.mo, .int .i64 f.wo, .int .i64 f.ba, .int .i64 f.mi, .int .i64 f.st, .int .i64 f.bu, .int .i64 f.ch, .int .i64 f.wi, .int .i64 f.ca]] w fun e w' => e = .returned (.tuple #[.string ⟨(textC f).1.toArray⟩, .bool (textC f).2]) ∧ Grew w w' := by
  obtain ⟨i0, hi0, hz0, hz1, hz2⟩ := info_parts info_str24
  have g0 : Grew w (w.alloc (.cells #[.slice a n c, .int .i64 f.sh, .int .i64 f.ra, .int .i64 f.mo, .int .i64 f.wo, .int .i64 f.ba, .int .i64 f.mi, .int .i64 f.st, .int .i64 f.bu, .int .i64 f.ch, .int .i64 f.wi, .int .i64 f.ca] 24)) := (Grew.refl w).alloc _
  have HM := Lib.hid (CfM.new w a n c f)
  have HX := Lib.hid (hr.grow g0)
  have HP := Lib.hid (tab_below hT (Nat.le_refl _) g0)
  have HG := Lib.hid g0
  have HN := Lib.hid hn
  have HI := Lib.hid hi
  clear g0 hr hT hn hi
  go_enter Tryz.func7, Tryz.ntmps7
  go_wp2_with fail
  generalize hW0 : w.alloc (.cells #[.slice a n c, .int .i64 f.sh, .int .i64 f.ra, .int .i64 f.mo, .int .i64 f.wo, .int .i64 f.ba, .int .i64 f.mi, .int .i64 f.st, .int .i64 f.bu, .int .i64 f.ch, .int .i64 f.wi, .int .i64 f.ca] 24) = W0 at *
  generalize hb0 : w.heap.size = cb at *
  have HCB := Lib.hid hb0
  clear hW0 hb0
  refine (values_any W0).mono ?_
  rintro e w1 ⟨⟨bx, rfl, hbx, hbl⟩, g1⟩
  have HM1 := Lib.hid (HM.out.grow g1)
  have HX1 := Lib.hid (HX.out.grow g1)
  have HP1 := Lib.hid (tab_below HP.out (Nat.le_refl _) g1)
  have HG1 := Lib.hid (HG.out.trans g1)
  have HBX := Lib.hid hbx
  clear HM HX HP HG g1 hbx hbl
  go_wp2
  go_loopw [4, 9] (fun v i W' => ∃ k : Nat, k ≤ 12 ∧ i = .int .i64 k ∧ Hid (∀ j, j < k → wrV f j ≠ []) ∧ Hid (W'.ownsRow w1.heap.size 9 1 v (2 * k) ((wordsN f k).map sV)) ∧ Hid (Grew w1 W')) (fun _ i _ => 12 - (intOf i).toNat)
  case atStart => exact ⟨0, Nat.zero_le _, rfl, Lib.hid (fun j hj => absurd hj (Nat.not_lt_zero _)), Lib.hid (World.ownsRow_nil _ _ _ _), Lib.hid (Grew.refl _)⟩
  case round =>
    obtain ⟨k, hk, rfl, HO, HB, HG⟩ := hrel
    have hcbs : w1.heap.size ≤ wr.heap.size := HG.out.size
    by_cases hlt : k < 12
    · have HWL := Lib.hid (wrV_len (k := k) (by rw [HN.out]; exact hl) HI.out hlt)
      have HM2 := HM1.out.grow HG.out
      have HGG : Hid (∀ o : Obj, Grew w1 (wr.alloc o)) := Lib.hid (fun o => HG.out.alloc o)
      have HNW : Hid (∀ o : Obj, Grew wr (wr.alloc o)) := Lib.hid (fun o => (Grew.refl wr).alloc o)
      by_cases h0 : k = 0
      · subst h0
        have hix := fun W => idx_0 bx W
        have HC : Hid (∀ o : Obj, Calls Tryz.prog 54 #[.pointer (some ⟨cb, 0, none⟩)] (wr.alloc o) fun e w' => e = .returned (sV (wrV f 0)) ∧ Grew (wr.alloc o) w') := Lib.hid (fun o =>
          zwrite_any (wr.alloc o) (HM2.alloc o) HN.out hl HI.out.1 (HX1.out.grow (HGG.out o)) (tab_below HP1.out (Nat.le_refl _) (HGG.out o)))
        cases hL : wrV f 0 with
        | nil =>
          have HNO := Lib.hid (textC_no (ok_of_no hlt hL))
          rw [hL] at HC
          have hb0 : (([] : List UInt8) == []) = true := rfl
          clear hL
          unfold sV at HC
          generalize nm 0 = NL at *
          go_wp2_with fail
          refine (HC.out _).mono ?_
          rintro e w2 ⟨rfl, g2⟩
          have HGE := Lib.hid (HG.out.trans ((HNW.out _).trans g2))
          go_wp2
          go_ret2
          exact ⟨by simp [HNO.out], HG1.out.trans HGE.out⟩
        | cons c0 cs =>
          have HO' : Hid (∀ j, j < 0 + 1 → wrV f j ≠ []) := Lib.hid (fun j hj => by
            by_cases e : j = 0
            · subst e; rw [hL]; simp
            · exact HO.out j (by omega))
          have hWW := words_two f 0
          rw [hL] at HC hWW HWL
          have hb0 : ((c0 :: cs) == []) = false := rfl
          generalize c0 :: cs = L at *
          clear hL
          have HWW := Lib.hid hWW
          clear hWW
          generalize nm 0 = NL at *
          generalize (wordsN f 0).map sV = xs at *
          unfold sV at HC
          replace HWW : Hid (List.map sV (wordsN f (0 + 1)) = xs ++ [.string ⟨NL.toArray⟩, .string ⟨L.toArray⟩]) := HWW
          go_wp2_with fail
          refine (HC.out _).mono ?_
          rintro e w2 ⟨rfl, g2⟩
          have hg2 := (HNW.out _).trans g2
          have HB1 := Lib.hid (own_grow HB.out hg2)
          have HGE := Lib.hid (HG.out.trans hg2)
          have hcb2 : w1.heap.size ≤ w2.heap.size := Nat.le_trans hcbs hg2.size
          have q0 : w2.cell? ⟨wr.heap.size, 0, none⟩ = some (.string ⟨NL.toArray⟩) := stay g2 (by rw [World.cell?_alloc_new]; rfl)
          have q1 : wr.heap.size < w2.heap.size := Nat.lt_of_lt_of_le (by simp) g2.size
          clear g2 hg2 HB HC
          go_wp2_with (at_builtin; refine wpList_append_own _ rfl _ _ 35 rfl w1.heap.size 9 i0 (.string ⟨#[]⟩) 1 16 Tryz.underlying35 hi0 hz0 hz1 hz2 rfl (by decide) _ _ _ rfl (HB1.out.alloc _) ⟨w2.heap.size, 0, none⟩ 2 2 [.string ⟨NL.toArray⟩, .string ⟨L.toArray⟩] rfl rfl (cell_two_newC _ _ _ _) ?qc3 ?qc4 ?qc5 ?qc6 ?_)
          case qc3 => intro u hu; simp at hu; rcases hu with rfl | rfl <;> rfl
          case qc4 => unfold maxLen; omega
          case qc5 => omega
          case qc6 => simp; omega
          intro v' w3 hown hgrow hnil
          have HB2 : Hid (w3.ownsRow w1.heap.size 9 1 v' (2 * (0 + 1)) ((wordsN f (0 + 1)).map sV)) := Lib.hid (by rw [HWW.out]; exact hown)
          have HG2 := Lib.hid (Below.grown (HGE.out.alloc (.cells #[.string ⟨NL.toArray⟩, .string ⟨L.toArray⟩] 9)) hgrow (by simp; omega) (fun x hx => (World.ownsRow.lt HB1.out x hx).1))
          clear hown hgrow hnil
          go_wp2
          go_roundw
          case rel => exact ⟨0 + 1, by omega, by go_num, HO', HB2, HG2⟩
          case measure => first | (simp [intOf]; done) | (simp [intOf]; omega)
      · have h1 : 1 ≤ k := by omega
        have hix := fun W => idx_k bx h1 hlt W
        have heg := gW_enters k
        have HC : Hid (∀ o : Obj, Calls Tryz.prog (gW k) #[.pointer (some ⟨cb, 0, none⟩), .pointer (some ⟨bx k, 0, none⟩)] (wr.alloc o) fun e w' => e = .returned (sV (wrV f k)) ∧ Grew (wr.alloc o) w') := Lib.hid (fun o =>
          kwrite_any (wr.alloc o) h1 hlt (HM2.alloc o) (HBX.out.grow (HGG.out o)) HI.out (tab_below HP1.out (Nat.le_refl _) (HGG.out o)))
        cases hL : wrV f k with
        | nil =>
          have HNO := Lib.hid (textC_no (ok_of_no hlt hL))
          rw [hL] at HC
          have hb0 : (([] : List UInt8) == []) = true := rfl
          clear hL
          unfold sV at HC
          generalize nm k = NL at *
          generalize gW k = g1 at *
          generalize gR k = g2' at *
          generalize gS k = g3' at *
          generalize bx k = bk at *
          go_wp2_with fail
          refine (HC.out _).mono ?_
          rintro e w2 ⟨rfl, g2⟩
          have HGE := Lib.hid (HG.out.trans ((HNW.out _).trans g2))
          go_wp2
          go_ret2
          exact ⟨by simp [HNO.out], HG1.out.trans HGE.out⟩
        | cons c0 cs =>
          have HO' : Hid (∀ j, j < k + 1 → wrV f j ≠ []) := Lib.hid (fun j hj => by
            by_cases e : j = k
            · subst e; rw [hL]; simp
            · exact HO.out j (by omega))
          have hWW := words_two f k
          rw [hL] at HC hWW HWL
          have hb0 : ((c0 :: cs) == []) = false := rfl
          generalize c0 :: cs = L at *
          clear hL
          have HWW := Lib.hid hWW
          clear hWW
          generalize nm k = NL at *
          generalize gW k = g1 at *
          generalize gR k = g2' at *
          generalize gS k = g3' at *
          generalize bx k = bk at *
          generalize (wordsN f k).map sV = xs at *
          unfold sV at HC
          replace HWW : Hid (List.map sV (wordsN f (k + 1)) = xs ++ [.string ⟨NL.toArray⟩, .string ⟨L.toArray⟩]) := HWW
          go_wp2_with fail
          refine (HC.out _).mono ?_
          rintro e w2 ⟨rfl, g2⟩
          have hg2 := (HNW.out _).trans g2
          have HB1 := Lib.hid (own_grow HB.out hg2)
          have HGE := Lib.hid (HG.out.trans hg2)
          have hcb2 : w1.heap.size ≤ w2.heap.size := Nat.le_trans hcbs hg2.size
          have q0 : w2.cell? ⟨wr.heap.size, 0, none⟩ = some (.string ⟨NL.toArray⟩) := stay g2 (by rw [World.cell?_alloc_new]; rfl)
          have q1 : wr.heap.size < w2.heap.size := Nat.lt_of_lt_of_le (by simp) g2.size
          clear g2 hg2 HB HC
          go_wp2_with (at_builtin; refine wpList_append_own _ rfl _ _ 35 rfl w1.heap.size 9 i0 (.string ⟨#[]⟩) 1 16 Tryz.underlying35 hi0 hz0 hz1 hz2 rfl (by decide) _ _ _ rfl (HB1.out.alloc _) ⟨w2.heap.size, 0, none⟩ 2 2 [.string ⟨NL.toArray⟩, .string ⟨L.toArray⟩] rfl rfl (cell_two_newC _ _ _ _) ?qc3 ?qc4 ?qc5 ?qc6 ?_)
          case qc3 => intro u hu; simp at hu; rcases hu with rfl | rfl <;> rfl
          case qc4 => unfold maxLen; omega
          case qc5 => omega
          case qc6 => simp; omega
          intro v' w3 hown hgrow hnil
          have HB2 : Hid (w3.ownsRow w1.heap.size 9 1 v' (2 * (k + 1)) ((wordsN f (k + 1)).map sV)) := Lib.hid (by rw [HWW.out]; exact hown)
          have HG2 := Lib.hid (Below.grown (HGE.out.alloc (.cells #[.string ⟨NL.toArray⟩, .string ⟨L.toArray⟩] 9)) hgrow (by simp; omega) (fun x hx => (World.ownsRow.lt HB1.out x hx).1))
          clear hown hgrow hnil
          go_wp2
          go_roundw
          case rel => exact ⟨k + 1, by omega, by go_num, HO', HB2, HG2⟩
          case measure => first | (simp [intOf]; done) | (simp [intOf]; omega)
    · obtain rfl : k = 12 := by omega
      have HOK := Lib.hid (textC_yes (f := f) HO.out)
      obtain ⟨a', cap, rfl⟩ := own_formC HB.out
      obtain ⟨g, rfl, _, hlg, hcap⟩ := own_addr HB.out (by decide)
      have hrow := HB.out
      have hml : ((wordsN f 12).map (fun l => (⟨l.toArray⟩ : ByteArray))).length = 24 := by rw [List.length_map, words_len]
      have hmd : ((wordsN f 12).map (fun l => (⟨l.toArray⟩ : ByteArray))).map (·.data.toList) = wordsN f 12 := by rw [List.map_map]; exact List.map_id' _
      have hjl := conf_len (f := f) (by rw [HN.out]; exact hl) HI.out
      have hjn := Tryz.strings_Join g 0 cap ((wordsN f 12).map (fun l => (⟨l.toArray⟩ : ByteArray))) ⟨#[32]⟩ wr (fun j x hx => by
        have hj : j < ((wordsN f 12).map (fun l => (⟨l.toArray⟩ : ByteArray))).length := (List.getElem?_eq_some_iff.1 hx).1
        rw [Nat.zero_add, World.ownsRow.cellAt hrow j (by omega)]
        rw [List.getElem?_map] at hx ⊢
        cases hw : (wordsN f 12)[j]? with
        | none => rw [hw] at hx; cases hx
        | some l => rw [hw] at hx; obtain rfl := Option.some.inj hx; rfl) hlg (by omega) (by omega) (by
        show (Lib.join (((wordsN f 12).map (fun l => (⟨l.toArray⟩ : ByteArray))).map (·.data.toList)) [32]).length ≤ _
        rw [hmd]
        show (confL f).length ≤ _
        omega)
      rw [hml] at hjn
      rw [show Lib.join (((wordsN f 12).map (fun l => (⟨l.toArray⟩ : ByteArray))).map (·.data.toList)) (⟨#[32]⟩ : ByteArray).data.toList = confL f from by rw [hmd]; rfl] at hjn
      have HJ := Lib.hid hjn
      clear hjn hrow hml hmd HB hjl
      go_wp2_with fail
      refine HJ.out.mono ?_
      rintro e w3 ⟨rfl, g3⟩
      go_wp2
      go_ret2
      exact ⟨by simp [HOK.out], HG1.out.trans (HG.out.trans g3)⟩
end Go.Proofs.YthcahpgandappaaGreatDoor
