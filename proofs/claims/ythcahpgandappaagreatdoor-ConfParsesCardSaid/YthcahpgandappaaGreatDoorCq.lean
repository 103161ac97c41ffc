/- values of package conf: an array of what writes, reads and compares each value; all by the value's number. Conditions: as for the single ones. -/
import Derived.Test.YthcahpgandappaaGreatDoorCp
import Derived.Laws.Rows
import Derived.Laws.EntriesVeiled
import Derived.Laws.Tables
import Derived.Deep.WholeRow
import Derived.Deep.RegionHeld
import Derived.OrdersHeld
namespace Go.Proofs.YthcahpgandappaaGreatDoor
open Go.RowKit Go.Shelf

/-! ### Sizes -/
set_option maxHeartbeats 1000000 in
theorem zwrite_any {cb n c : Nat} {a : Option Addr} {f : Cf} (w : World) (hm : CfM w cb a n c f) (hn : f.z.length = n) (hl : n ≤ 2000) (hz : ∀ x ∈ f.z, i64 x) (hr : RdK .i64 w.heap.size w a f.z) (hT : Lib.TabIs Tryz.prog w "internal/strconv.uint64pow10" .u64 Lib.pow10Tab) :
    Calls Tryz.prog 54 #[.pointer (some ⟨cb, 0, none⟩)] w fun e w' => e = .returned (.string ⟨(sizesT f.z).toArray⟩) ∧ Grew w w' := by
  have c0 := hm.c0
  go_enter Tryz.func54, Tryz.ntmps54
  go_wp2_with fail
  refine (writeSizes_any a c f.z _ hn hl hz hr hT).mono ?_
  rintro e w1 ⟨rfl, g1⟩
  go_wp2
  go_ret
  exact ⟨rfl, g1⟩
set_option maxHeartbeats 1000000 in
theorem zread_any {cb n c : Nat} {a : Option Addr} {f : Cf} (t : ByteArray) (w : World) (hm : CfM w cb a n c f) (ht : t.size ≤ 1000000) (hT : Lib.TabIs Tryz.prog w "internal/strconv.uint64pow10" .u64 Lib.pow10Tab) :
    Calls Tryz.prog 56 #[.pointer (some ⟨cb, 0, none⟩), .string t] w fun e w' => ((∃ x a' c', readZ t.data.toList = some x ∧ e = .returned (.bool true) ∧ CfM w' cb a' x.length c' { f with z := x } ∧ BufK .i64 3 w.heap.size w' a' x.length c' x) ∨ (readZ t.data.toList = none ∧ e = .returned (.bool false))) ∧ w.grownBy w' (some cb) := by
  have HM := Lib.hid hm
  go_enter Tryz.func56, Tryz.ntmps56
  go_wp2_with fail
  refine (readSizes_any t _ ht hT).mono ?_
  rintro e w1 ⟨⟨x, a', c', hx, rfl, hb⟩ | ⟨hx, rfl⟩, g1⟩
  · have HX := Lib.hid hx
    have hm1 := HM.out.grow g1
    have q0 := hm1.c0
    have q1 := hm1.fz 0
    have q2 := hm1.lt
    have HS := Lib.hid (hm1.set0 a' x.length c' x)
    have HB := Lib.hid (own_aside hb (setCell_grown w1 cb 0 (.slice a' x.length c')) HM.out.lt)
    have HG := Lib.hid (grownBy_trans (g1.by' (some cb)) (setCell_grown w1 cb 0 (.slice a' x.length c')))
    clear hx hm1 g1 hb
    go_wp2
    go_ret
    exact ⟨.inl ⟨x, a', c', HX.out, rfl, HS.out, HB.out⟩, HG.out⟩
  · have HX := Lib.hid hx
    have hm1 := HM.out.grow g1
    have q0 := hm1.c0
    have q1 := hm1.fz 0
    have q2 := hm1.lt
    have HG := Lib.hid (grownBy_trans (g1.by' (some cb)) (setCell_grown w1 cb 0 (.slice none 0 0)))
    clear hx hm1 g1
    go_wp2
    go_ret
    exact ⟨.inr ⟨HX.out, rfl⟩, HG.out⟩
theorem keep2 {V W W' : World} {a0 a1 : Addr} {x0 x1 : Value} (k : Grew W W') (h : Grew V W ∧ W.cell? a0 = some x0 ∧ W.cell? a1 = some x1) : Grew V W' ∧ W'.cell? a0 = some x0 ∧ W'.cell? a1 = some x1 := ⟨h.1.trans k, stay k h.2.1, stay k h.2.2⟩
set_option maxHeartbeats 1000000 in
theorem zsame_any {cb cc n c n' c' : Nat} {a a' : Option Addr} {f g : Cf} (w : World) (hm : CfM w cb a n c f) (hm' : CfM w cc a' n' c' g) (hn : f.z.length = n) (hn' : g.z.length = n') (hl : n ≤ 17592186044416) (hl' : n' ≤ 17592186044416) (hr : RdK .i64 w.heap.size w a f.z) (hr' : RdK .i64 w.heap.size w a' g.z) :
    Calls Tryz.prog 58 #[.pointer (some ⟨cb, 0, none⟩), .pointer (some ⟨cc, 0, none⟩)] w fun e w' => e = .returned (.bool (decide (f.z = g.z))) ∧ Grew w w' := by
  go_enter Tryz.func58, Tryz.ntmps58
  go_upto_region 1 with fail
  have HRD := Lib.hid (hr.grow (Grew.drew' (Grew.refl w)))
  have HRD' := Lib.hid (hr'.grow (Grew.drew' (Grew.refl w)))
  refine wp_region_held_drew (S := (fun W' => Grew w W' ∧ W'.cell? ⟨cb, 0, none⟩ = some (.slice a n c) ∧ W'.cell? ⟨cc, 0, none⟩ = some (.slice a' n' c'))) (by kernel_rfl) ⟨Grew.drew' (Grew.refl _), hm.c0, hm'.c0⟩ (fun hHeld => ?_)
  refine wpAnyH_take (i := 0) (oi := { dst := some 5, op := Go.Op.move (Go.Operand.tmp 0), type := 43, pos := _, after := #[], guard := none }) (v := ?v78) rfl (by kernel_rfl) (by kernel_rfl) (by kernel_rfl) (fun _ _ _ h => h) (Or.inl ⟨by kernel_rfl, ?hy78⟩) (by assumption) ?_
  case hy78 => intro w hSw; (try dsimp only at hSw); first | (go_simp; done) | (go_simp; with_reducible rfl)
  (try simp only [Act.put, List.setIfInBounds_toArray, List.set_cons_zero, List.set_cons_succ])
  refine wpAnyH_take (i := 1) (oi := { dst := some 6, op := Go.Op.nilCheck (Go.Operand.tmp 5), type := 0, pos := _, after := #[{ on := 0, ground := Go.Ground.data }], guard := none }) (v := ?v79) rfl (by kernel_rfl) (by kernel_rfl) (by kernel_rfl) (fun _ _ _ h => h) (Or.inl ⟨by kernel_rfl, ?hy79⟩) (by assumption) ?_
  case hy79 => intro w hSw; (try dsimp only at hSw); first | (go_simp; done) | (go_simp; with_reducible rfl)
  (try simp only [Act.put, List.setIfInBounds_toArray, List.set_cons_zero, List.set_cons_succ])
  refine wpAnyH_take (i := 2) (oi := { dst := some 7, op := Go.Op.fieldAddr 24 (Go.Operand.tmp 6) 0, type := 0, pos := _, after := #[{ on := 1, ground := Go.Ground.data }], guard := none }) (v := ?v80) rfl (by kernel_rfl) (by kernel_rfl) (by kernel_rfl) (fun _ _ _ h => h) (Or.inl ⟨by kernel_rfl, ?hy80⟩) (by assumption) ?_
  case hy80 => intro w hSw; (try dsimp only at hSw); first | (go_simp; done) | (go_simp; with_reducible rfl)
  (try simp only [Act.put, List.setIfInBounds_toArray, List.set_cons_zero, List.set_cons_succ])
  refine wpAnyH_take (i := 3) (oi := { dst := some 8, op := Go.Op.load 22 (Go.Operand.tmp 7), type := 22, pos := _, after := #[{ on := 2, ground := Go.Ground.data }], guard := none }) (v := ?v81) rfl (by kernel_rfl) (by kernel_rfl) (by kernel_rfl) (fun _ _ _ h => h) (Or.inl ⟨by kernel_rfl, ?hy81⟩) (by assumption) ?_
  case hy81 => intro w hSw; (try dsimp only at hSw); first | (go_simp; done) | (go_simp; with_reducible rfl)
  (try simp only [Act.put, List.setIfInBounds_toArray, List.set_cons_zero, List.set_cons_succ])
  refine wpAnyH_take (i := 4) (oi := { dst := some 9, op := Go.Op.move (Go.Operand.tmp 1), type := 43, pos := _, after := #[], guard := none }) (v := ?v82) rfl (by kernel_rfl) (by kernel_rfl) (by kernel_rfl) (fun _ _ _ h => h) (Or.inl ⟨by kernel_rfl, ?hy82⟩) (by assumption) ?_
  case hy82 => intro w hSw; (try dsimp only at hSw); first | (go_simp; done) | (go_simp; with_reducible rfl)
  (try simp only [Act.put, List.setIfInBounds_toArray, List.set_cons_zero, List.set_cons_succ])
  refine wpAnyH_take (i := 5) (oi := { dst := some 10, op := Go.Op.nilCheck (Go.Operand.tmp 9), type := 0, pos := _, after := #[{ on := 4, ground := Go.Ground.data }], guard := none }) (v := ?v83) rfl (by kernel_rfl) (by kernel_rfl) (by kernel_rfl) (fun _ _ _ h => h) (Or.inl ⟨by kernel_rfl, ?hy83⟩) (by assumption) ?_
  case hy83 => intro w hSw; (try dsimp only at hSw); first | (go_simp; done) | (go_simp; with_reducible rfl)
  (try simp only [Act.put, List.setIfInBounds_toArray, List.set_cons_zero, List.set_cons_succ])
  refine wpAnyH_take (i := 6) (oi := { dst := some 11, op := Go.Op.fieldAddr 24 (Go.Operand.tmp 10) 0, type := 0, pos := _, after := #[{ on := 5, ground := Go.Ground.data }], guard := none }) (v := ?v84) rfl (by kernel_rfl) (by kernel_rfl) (by kernel_rfl) (fun _ _ _ h => h) (Or.inl ⟨by kernel_rfl, ?hy84⟩) (by assumption) ?_
  case hy84 => intro w hSw; (try dsimp only at hSw); first | (go_simp; done) | (go_simp; with_reducible rfl)
  (try simp only [Act.put, List.setIfInBounds_toArray, List.set_cons_zero, List.set_cons_succ])
  refine wpAnyH_take (i := 7) (oi := { dst := some 12, op := Go.Op.load 22 (Go.Operand.tmp 11), type := 22, pos := _, after := #[{ on := 6, ground := Go.Ground.data }], guard := none }) (v := ?v85) rfl (by kernel_rfl) (by kernel_rfl) (by kernel_rfl) (fun _ _ _ h => h) (Or.inl ⟨by kernel_rfl, ?hy85⟩) (by assumption) ?_
  case hy85 => intro w hSw; (try dsimp only at hSw); first | (go_simp; done) | (go_simp; with_reducible rfl)
  (try simp only [Act.put, List.setIfInBounds_toArray, List.set_cons_zero, List.set_cons_succ])
  refine wpAnyH_ready (rs := [8]) (by kernel_rfl) (by simp) ?_
  refine AllReadyH.cons (o := { dst := some 13, op := Go.Op.call { callee := Go.Callee.value (Go.Operand.func 59), args := #[Go.Operand.tmp 8, Go.Operand.tmp 12], argTypes := #[22, 22] }, type := 4, pos := _, after := #[{ on := 3, ground := Go.Ground.data }, { on := 7, ground := Go.Ground.data }], guard := none }) rfl (fun K hK => ?_) AllReadyH.nil
  go_simp
  (go_at_call 59; refine (iequal_n a a' c c' f.z g.z _ hn hn' hl hl' HRD.out HRD'.out).mono ?_; rintro e w1 ⟨rfl, g1⟩)
  (try go_wp2_with fail)
  refine hK.out _ _ ?hS87 (fun hHeld => ?_)
  case hS87 => (try dsimp only); exact keep2 g1 (by assumption)
  clear hK K
  (try simp only [Act.put, List.setIfInBounds_toArray, List.set_cons_zero, List.set_cons_succ])
  refine wpAnyH_take (i := 9) (oi := { dst := some 4, op := Go.Op.assign (Go.Operand.tmp 13), type := 4, pos := _, after := #[{ on := 8, ground := Go.Ground.data }, { on := 8, ground := Go.Ground.chain }, { on := 0, ground := Go.Ground.phase }, { on := 1, ground := Go.Ground.phase }, { on := 2, ground := Go.Ground.phase }, { on := 3, ground := Go.Ground.phase }, { on := 4, ground := Go.Ground.phase }, { on := 5, ground := Go.Ground.phase }, { on := 6, ground := Go.Ground.phase }, { on := 7, ground := Go.Ground.phase }, { on := 8, ground := Go.Ground.phase }], guard := none }) (v := ?v88) rfl (by kernel_rfl) (by kernel_rfl) (by kernel_rfl) (fun _ _ _ h => h) (Or.inl ⟨by kernel_rfl, ?hy88⟩) (by assumption) ?_
  case hy88 => intro w hSw; (try dsimp only at hSw); first | (go_simp; done) | (go_simp; with_reducible rfl)
  (try simp only [Act.put, List.setIfInBounds_toArray, List.set_cons_zero, List.set_cons_succ])
  refine wpAnyH_done (by kernel_rfl) ?_ _
  go_wp2
  go_ret
  exact ⟨rfl, (Grew.drew' (Grew.refl _)).trans g1⟩

/-! ### The array -/
theorem vsizes_any (s : ByteArray) (w : World) : Calls Tryz.prog 27 #[.string s] w fun e w' => e = .returned (.agg #[.string s, .func (.func 54) #[] #[], .func (.func 56) #[] #[], .func (.func 58) #[] #[]]) ∧ Grew w w' := by
  have HG : Hid (∀ o, Grew w (w.alloc o)) := Lib.hid (fun o => (Grew.refl w).alloc o)
  go_enter Tryz.func27, Tryz.ntmps27
  go_wp2
  refine bodyPost_ret (v := .agg #[.string s, .func (.func 54) #[] #[], .func (.func 56) #[] #[], .func (.func 58) #[] #[]]) ?hv rfl ?hp
  case hv => simp [results, Tryz.results27, go_sem]
  case hp => exact ⟨rfl, HG.out _⟩
theorem vcount_any (s : ByteArray) (g : Nat) (w : World) : Calls Tryz.prog 28 #[.string s, .func (.func g) #[] #[]] w fun e w' => (e = .returned (.agg #[.string s, .func (.func 60) #[] #[.pointer (some ⟨w.heap.size, 0, none⟩)], .func (.func 62) #[] #[.pointer (some ⟨w.heap.size, 0, none⟩)], .func (.func 64) #[] #[.pointer (some ⟨w.heap.size, 0, none⟩)]]) ∧ Boxed w' w.heap.size 63 (.func (.func g) #[] #[])) ∧ Grew w w' := by
  have HG : Hid (∀ o, Grew w ((w.alloc (.cells #[.func (.func g) #[] #[]] 63)).alloc o)) := Lib.hid (fun o => ((Grew.refl w).alloc _).alloc o)
  have HB : Hid (∀ o, Boxed ((w.alloc (.cells #[.func (.func g) #[] #[]] 63)).alloc o) w.heap.size 63 (.func (.func g) #[] #[])) := Lib.hid (fun o => (Boxed.new w 63 (.func (.func g) #[] #[])).alloc o)
  go_enter Tryz.func28, Tryz.ntmps28
  go_wp2
  refine bodyPost_ret (v := .agg #[.string s, .func (.func 60) #[] #[.pointer (some ⟨w.heap.size, 0, none⟩)], .func (.func 62) #[] #[.pointer (some ⟨w.heap.size, 0, none⟩)], .func (.func 64) #[] #[.pointer (some ⟨w.heap.size, 0, none⟩)]]) ?hv rfl ?hp
  case hv => simp [results, Tryz.results28, go_sem]
  case hp => exact ⟨⟨rfl, HB.out _⟩, HG.out _⟩
theorem vfixed_any (s : ByteArray) (g : Nat) (w : World) : Calls Tryz.prog 30 #[.string s, .func (.func g) #[] #[]] w fun e w' => (e = .returned (.agg #[.string s, .func (.func 65) #[] #[.pointer (some ⟨w.heap.size, 0, none⟩)], .func (.func 67) #[] #[.pointer (some ⟨w.heap.size, 0, none⟩)], .func (.func 69) #[] #[.pointer (some ⟨w.heap.size, 0, none⟩)]]) ∧ Boxed w' w.heap.size 66 (.func (.func g) #[] #[])) ∧ Grew w w' := by
  have HG : Hid (∀ o, Grew w ((w.alloc (.cells #[.func (.func g) #[] #[]] 66)).alloc o)) := Lib.hid (fun o => ((Grew.refl w).alloc _).alloc o)
  have HB : Hid (∀ o, Boxed ((w.alloc (.cells #[.func (.func g) #[] #[]] 66)).alloc o) w.heap.size 66 (.func (.func g) #[] #[])) := Lib.hid (fun o => (Boxed.new w 66 (.func (.func g) #[] #[])).alloc o)
  go_enter Tryz.func30, Tryz.ntmps30
  go_wp2
  refine bodyPost_ret (v := .agg #[.string s, .func (.func 65) #[] #[.pointer (some ⟨w.heap.size, 0, none⟩)], .func (.func 67) #[] #[.pointer (some ⟨w.heap.size, 0, none⟩)], .func (.func 69) #[] #[.pointer (some ⟨w.heap.size, 0, none⟩)]]) ?hv rfl ?hp
  case hv => simp [results, Tryz.results30, go_sem]
  case hp => exact ⟨⟨rfl, HB.out _⟩, HG.out _⟩

def tyB : Nat → TypeId
  | 2 => 66
  | 3 => 66
  | _ => 63
/-- The boxes that the functions have captured. -/
def Bx (bx : Nat → Nat) (W : World) : Prop := ∀ k, 1 ≤ k → k < 12 → Boxed W (bx k) (tyB k) (.func (.func (gOf k)) #[] #[])
theorem Bx.grow {bx : Nat → Nat} {W W' : World} (h : Bx bx W) (g : Grew W W') : Bx bx W' := fun k h1 h2 => (Below.block g (bx k) (h k h1 h2).lt).trans (h k h1 h2)
def valsA (bx : Nat → Nat) : Array Value := #[.string ⟨#[115, 105, 122, 101, 115]⟩, .func (.func 54) #[] #[], .func (.func 56) #[] #[], .func (.func 58) #[] #[], .string ⟨#[115, 104, 105, 102, 116]⟩, .func (.func 60) #[] #[.pointer (some ⟨bx 1, 0, none⟩)], .func (.func 62) #[] #[.pointer (some ⟨bx 1, 0, none⟩)], .func (.func 64) #[] #[.pointer (some ⟨bx 1, 0, none⟩)], .string ⟨#[114, 97, 116, 101]⟩, .func (.func 65) #[] #[.pointer (some ⟨bx 2, 0, none⟩)], .func (.func 67) #[] #[.pointer (some ⟨bx 2, 0, none⟩)], .func (.func 69) #[] #[.pointer (some ⟨bx 2, 0, none⟩)], .string ⟨#[109, 111, 109, 101, 110, 116, 117, 109]⟩, .func (.func 65) #[] #[.pointer (some ⟨bx 3, 0, none⟩)], .func (.func 67) #[] #[.pointer (some ⟨bx 3, 0, none⟩)], .func (.func 69) #[] #[.pointer (some ⟨bx 3, 0, none⟩)], .string ⟨#[119, 111, 114, 107, 101, 114, 115]⟩, .func (.func 60) #[] #[.pointer (some ⟨bx 4, 0, none⟩)], .func (.func 62) #[] #[.pointer (some ⟨bx 4, 0, none⟩)], .func (.func 64) #[] #[.pointer (some ⟨bx 4, 0, none⟩)], .string ⟨#[98, 97, 116, 99, 104]⟩, .func (.func 60) #[] #[.pointer (some ⟨bx 5, 0, none⟩)], .func (.func 62) #[] #[.pointer (some ⟨bx 5, 0, none⟩)], .func (.func 64) #[] #[.pointer (some ⟨bx 5, 0, none⟩)], .string ⟨#[109, 105, 99, 114, 111, 115]⟩, .func (.func 60) #[] #[.pointer (some ⟨bx 6, 0, none⟩)], .func (.func 62) #[] #[.pointer (some ⟨bx 6, 0, none⟩)], .func (.func 64) #[] #[.pointer (some ⟨bx 6, 0, none⟩)], .string ⟨#[115, 116, 101, 112, 115]⟩, .func (.func 60) #[] #[.pointer (some ⟨bx 7, 0, none⟩)], .func (.func 62) #[] #[.pointer (some ⟨bx 7, 0, none⟩)], .func (.func 64) #[] #[.pointer (some ⟨bx 7, 0, none⟩)], .string ⟨#[98, 117, 99, 107, 101, 116]⟩, .func (.func 60) #[] #[.pointer (some ⟨bx 8, 0, none⟩)], .func (.func 62) #[] #[.pointer (some ⟨bx 8, 0, none⟩)], .func (.func 64) #[] #[.pointer (some ⟨bx 8, 0, none⟩)], .string ⟨#[99, 104, 117, 110, 107]⟩, .func (.func 60) #[] #[.pointer (some ⟨bx 9, 0, none⟩)], .func (.func 62) #[] #[.pointer (some ⟨bx 9, 0, none⟩)], .func (.func 64) #[] #[.pointer (some ⟨bx 9, 0, none⟩)], .string ⟨#[119, 105, 110, 100, 111, 119]⟩, .func (.func 60) #[] #[.pointer (some ⟨bx 10, 0, none⟩)], .func (.func 62) #[] #[.pointer (some ⟨bx 10, 0, none⟩)], .func (.func 64) #[] #[.pointer (some ⟨bx 10, 0, none⟩)], .string ⟨#[99, 97, 112, 97, 99, 105, 116, 121]⟩, .func (.func 60) #[] #[.pointer (some ⟨bx 11, 0, none⟩)], .func (.func 62) #[] #[.pointer (some ⟨bx 11, 0, none⟩)], .func (.func 64) #[] #[.pointer (some ⟨bx 11, 0, none⟩)]]
def bxOf (b1 b2 b3 b4 b5 b6 b7 b8 b9 b10 b11 : Nat) : Nat → Nat
  | 1 => b1
  | 2 => b2
  | 3 => b3
  | 4 => b4
  | 5 => b5
  | 6 => b6
  | 7 => b7
  | 8 => b8
  | 9 => b9
  | 10 => b10
  | _ => b11
theorem results_cell {P : Program} {fn : Func} {tmps : Array Value} {x : Tmp} {t : TypeId} {b : Addr} {v : Value} {W : World} (hr : fn.results = #[.cell x t]) (hx : tmps.getD x undef = .pointer (some b)) (hl : (loadVar t b).run P W = .ok v W) : (results fn tmps).run P W = .ok v W := by
  have hx' : tmps[x]?.getD undef = .pointer (some b) := by simpa using hx
  simp [results, hr, hx', asAddr, hl]
theorem boxed_grow {W W' : World} {B : Nat} {t : TypeId} {v : Value} (h : Boxed W B t v) (g : Grew W W') : Boxed W' B t v := (Below.block g B h.lt).trans h
set_option maxRecDepth 100000 in
set_option maxHeartbeats 4000000 in
theorem values_any (w : World) : Calls Tryz.prog 14 #[] w fun e w' => (∃ bx, e = .returned (.agg (valsA bx)) ∧ Bx bx w' ∧ ∀ k, 1 ≤ k → k < 12 → w.heap.size ≤ bx k) ∧ Grew w w' := by
  have g0 : Grew w (w.alloc (.cells #[.string ⟨#[]⟩, .nilFunc, .nilFunc, .nilFunc, .string ⟨#[]⟩, .nilFunc, .nilFunc, .nilFunc, .string ⟨#[]⟩, .nilFunc, .nilFunc, .nilFunc, .string ⟨#[]⟩, .nilFunc, .nilFunc, .nilFunc, .string ⟨#[]⟩, .nilFunc, .nilFunc, .nilFunc, .string ⟨#[]⟩, .nilFunc, .nilFunc, .nilFunc, .string ⟨#[]⟩, .nilFunc, .nilFunc, .nilFunc, .string ⟨#[]⟩, .nilFunc, .nilFunc, .nilFunc, .string ⟨#[]⟩, .nilFunc, .nilFunc, .nilFunc, .string ⟨#[]⟩, .nilFunc, .nilFunc, .nilFunc, .string ⟨#[]⟩, .nilFunc, .nilFunc, .nilFunc, .string ⟨#[]⟩, .nilFunc, .nilFunc, .nilFunc] 41)) := (Grew.refl w).alloc _
  have HG0 := Lib.hid g0
  have HB0 : Hid ((w.alloc (.cells #[.string ⟨#[]⟩, .nilFunc, .nilFunc, .nilFunc, .string ⟨#[]⟩, .nilFunc, .nilFunc, .nilFunc, .string ⟨#[]⟩, .nilFunc, .nilFunc, .nilFunc, .string ⟨#[]⟩, .nilFunc, .nilFunc, .nilFunc, .string ⟨#[]⟩, .nilFunc, .nilFunc, .nilFunc, .string ⟨#[]⟩, .nilFunc, .nilFunc, .nilFunc, .string ⟨#[]⟩, .nilFunc, .nilFunc, .nilFunc, .string ⟨#[]⟩, .nilFunc, .nilFunc, .nilFunc, .string ⟨#[]⟩, .nilFunc, .nilFunc, .nilFunc, .string ⟨#[]⟩, .nilFunc, .nilFunc, .nilFunc, .string ⟨#[]⟩, .nilFunc, .nilFunc, .nilFunc, .string ⟨#[]⟩, .nilFunc, .nilFunc, .nilFunc] 41)).heap[w.heap.size]? = some (.cells #[.string ⟨#[]⟩, .nilFunc, .nilFunc, .nilFunc, .string ⟨#[]⟩, .nilFunc, .nilFunc, .nilFunc, .string ⟨#[]⟩, .nilFunc, .nilFunc, .nilFunc, .string ⟨#[]⟩, .nilFunc, .nilFunc, .nilFunc, .string ⟨#[]⟩, .nilFunc, .nilFunc, .nilFunc, .string ⟨#[]⟩, .nilFunc, .nilFunc, .nilFunc, .string ⟨#[]⟩, .nilFunc, .nilFunc, .nilFunc, .string ⟨#[]⟩, .nilFunc, .nilFunc, .nilFunc, .string ⟨#[]⟩, .nilFunc, .nilFunc, .nilFunc, .string ⟨#[]⟩, .nilFunc, .nilFunc, .nilFunc, .string ⟨#[]⟩, .nilFunc, .nilFunc, .nilFunc, .string ⟨#[]⟩, .nilFunc, .nilFunc, .nilFunc] 41 (0, 0))) := Lib.hid (World.alloc_heap_new w _)
  have hlt0 : w.heap.size < (w.alloc (.cells #[.string ⟨#[]⟩, .nilFunc, .nilFunc, .nilFunc, .string ⟨#[]⟩, .nilFunc, .nilFunc, .nilFunc, .string ⟨#[]⟩, .nilFunc, .nilFunc, .nilFunc, .string ⟨#[]⟩, .nilFunc, .nilFunc, .nilFunc, .string ⟨#[]⟩, .nilFunc, .nilFunc, .nilFunc, .string ⟨#[]⟩, .nilFunc, .nilFunc, .nilFunc, .string ⟨#[]⟩, .nilFunc, .nilFunc, .nilFunc, .string ⟨#[]⟩, .nilFunc, .nilFunc, .nilFunc, .string ⟨#[]⟩, .nilFunc, .nilFunc, .nilFunc, .string ⟨#[]⟩, .nilFunc, .nilFunc, .nilFunc, .string ⟨#[]⟩, .nilFunc, .nilFunc, .nilFunc, .string ⟨#[]⟩, .nilFunc, .nilFunc, .nilFunc] 41)).heap.size := by simp
  have HSW : Hid (w.heap.size ≤ (w.alloc (.cells #[.string ⟨#[]⟩, .nilFunc, .nilFunc, .nilFunc, .string ⟨#[]⟩, .nilFunc, .nilFunc, .nilFunc, .string ⟨#[]⟩, .nilFunc, .nilFunc, .nilFunc, .string ⟨#[]⟩, .nilFunc, .nilFunc, .nilFunc, .string ⟨#[]⟩, .nilFunc, .nilFunc, .nilFunc, .string ⟨#[]⟩, .nilFunc, .nilFunc, .nilFunc, .string ⟨#[]⟩, .nilFunc, .nilFunc, .nilFunc, .string ⟨#[]⟩, .nilFunc, .nilFunc, .nilFunc, .string ⟨#[]⟩, .nilFunc, .nilFunc, .nilFunc, .string ⟨#[]⟩, .nilFunc, .nilFunc, .nilFunc, .string ⟨#[]⟩, .nilFunc, .nilFunc, .nilFunc, .string ⟨#[]⟩, .nilFunc, .nilFunc, .nilFunc] 41)).heap.size) := Lib.hid (by simp)
  go_enter Tryz.func14, Tryz.ntmps14
  go_wp2_with fail
  generalize w.alloc (.cells #[.string ⟨#[]⟩, .nilFunc, .nilFunc, .nilFunc, .string ⟨#[]⟩, .nilFunc, .nilFunc, .nilFunc, .string ⟨#[]⟩, .nilFunc, .nilFunc, .nilFunc, .string ⟨#[]⟩, .nilFunc, .nilFunc, .nilFunc, .string ⟨#[]⟩, .nilFunc, .nilFunc, .nilFunc, .string ⟨#[]⟩, .nilFunc, .nilFunc, .nilFunc, .string ⟨#[]⟩, .nilFunc, .nilFunc, .nilFunc, .string ⟨#[]⟩, .nilFunc, .nilFunc, .nilFunc, .string ⟨#[]⟩, .nilFunc, .nilFunc, .nilFunc, .string ⟨#[]⟩, .nilFunc, .nilFunc, .nilFunc, .string ⟨#[]⟩, .nilFunc, .nilFunc, .nilFunc, .string ⟨#[]⟩, .nilFunc, .nilFunc, .nilFunc] 41) = W0 at *
  generalize hwb : w.heap.size = wb at *
  have HWB := Lib.hid hwb
  clear hwb
  refine (vsizes_any _ W0).mono ?_
  rintro e w0 ⟨rfl, g1⟩
  have HB0_0 : Hid (w0.heap[wb]? = some (.cells #[.string ⟨#[]⟩, .nilFunc, .nilFunc, .nilFunc, .string ⟨#[]⟩, .nilFunc, .nilFunc, .nilFunc, .string ⟨#[]⟩, .nilFunc, .nilFunc, .nilFunc, .string ⟨#[]⟩, .nilFunc, .nilFunc, .nilFunc, .string ⟨#[]⟩, .nilFunc, .nilFunc, .nilFunc, .string ⟨#[]⟩, .nilFunc, .nilFunc, .nilFunc, .string ⟨#[]⟩, .nilFunc, .nilFunc, .nilFunc, .string ⟨#[]⟩, .nilFunc, .nilFunc, .nilFunc, .string ⟨#[]⟩, .nilFunc, .nilFunc, .nilFunc, .string ⟨#[]⟩, .nilFunc, .nilFunc, .nilFunc, .string ⟨#[]⟩, .nilFunc, .nilFunc, .nilFunc, .string ⟨#[]⟩, .nilFunc, .nilFunc, .nilFunc] 41 (0, 0))) := Lib.hid ((Below.block g1 wb hlt0).trans HB0.out)
  have HG_0 := Lib.hid (HG0.out.trans g1)
  have HS_0 : Hid (wb < w0.heap.size) := Lib.hid (Nat.lt_of_lt_of_le hlt0 g1.size)
  clear g1 HB0 HG0 g0 hlt0 HSW
  go_wp2_with fail
  refine (vcount_any _ _ w0).mono ?_
  rintro e w1 ⟨⟨rfl, hx1⟩, g1⟩
  have HX1_1 := Lib.hid hx1
  have HB0_1 : Hid (w1.heap[wb]? = some (.cells #[.string ⟨#[]⟩, .nilFunc, .nilFunc, .nilFunc, .string ⟨#[]⟩, .nilFunc, .nilFunc, .nilFunc, .string ⟨#[]⟩, .nilFunc, .nilFunc, .nilFunc, .string ⟨#[]⟩, .nilFunc, .nilFunc, .nilFunc, .string ⟨#[]⟩, .nilFunc, .nilFunc, .nilFunc, .string ⟨#[]⟩, .nilFunc, .nilFunc, .nilFunc, .string ⟨#[]⟩, .nilFunc, .nilFunc, .nilFunc, .string ⟨#[]⟩, .nilFunc, .nilFunc, .nilFunc, .string ⟨#[]⟩, .nilFunc, .nilFunc, .nilFunc, .string ⟨#[]⟩, .nilFunc, .nilFunc, .nilFunc, .string ⟨#[]⟩, .nilFunc, .nilFunc, .nilFunc, .string ⟨#[]⟩, .nilFunc, .nilFunc, .nilFunc] 41 (0, 0))) := Lib.hid ((Below.block g1 wb HS_0.out).trans HB0_0.out)
  have HG_1 := Lib.hid (HG_0.out.trans g1)
  have HS_1 : Hid (wb < w1.heap.size) := Lib.hid (Nat.lt_of_lt_of_le HS_0.out g1.size)
  have HL1 : Hid (wb < w0.heap.size) := Lib.hid HS_0.out
  clear g1 hx1 HB0_0 HG_0 HS_0
  generalize w0.heap.size = b1 at *
  go_wp2_with fail
  refine (vfixed_any _ _ w1).mono ?_
  rintro e w2 ⟨⟨rfl, hx2⟩, g1⟩
  have HX2_2 := Lib.hid hx2
  have HB0_2 : Hid (w2.heap[wb]? = some (.cells #[.string ⟨#[]⟩, .nilFunc, .nilFunc, .nilFunc, .string ⟨#[]⟩, .nilFunc, .nilFunc, .nilFunc, .string ⟨#[]⟩, .nilFunc, .nilFunc, .nilFunc, .string ⟨#[]⟩, .nilFunc, .nilFunc, .nilFunc, .string ⟨#[]⟩, .nilFunc, .nilFunc, .nilFunc, .string ⟨#[]⟩, .nilFunc, .nilFunc, .nilFunc, .string ⟨#[]⟩, .nilFunc, .nilFunc, .nilFunc, .string ⟨#[]⟩, .nilFunc, .nilFunc, .nilFunc, .string ⟨#[]⟩, .nilFunc, .nilFunc, .nilFunc, .string ⟨#[]⟩, .nilFunc, .nilFunc, .nilFunc, .string ⟨#[]⟩, .nilFunc, .nilFunc, .nilFunc, .string ⟨#[]⟩, .nilFunc, .nilFunc, .nilFunc] 41 (0, 0))) := Lib.hid ((Below.block g1 wb HS_1.out).trans HB0_1.out)
  have HG_2 := Lib.hid (HG_1.out.trans g1)
  have HS_2 : Hid (wb < w2.heap.size) := Lib.hid (Nat.lt_of_lt_of_le HS_1.out g1.size)
  have HX1_2 := Lib.hid (boxed_grow HX1_1.out g1)
  have HL2 : Hid (wb < w1.heap.size) := Lib.hid HS_1.out
  clear g1 hx2 HB0_1 HG_1 HS_1 HX1_1
  generalize w1.heap.size = b2 at *
  go_wp2_with fail
  refine (vfixed_any _ _ w2).mono ?_
  rintro e w3 ⟨⟨rfl, hx3⟩, g1⟩
  have HX3_3 := Lib.hid hx3
  have HB0_3 : Hid (w3.heap[wb]? = some (.cells #[.string ⟨#[]⟩, .nilFunc, .nilFunc, .nilFunc, .string ⟨#[]⟩, .nilFunc, .nilFunc, .nilFunc, .string ⟨#[]⟩, .nilFunc, .nilFunc, .nilFunc, .string ⟨#[]⟩, .nilFunc, .nilFunc, .nilFunc, .string ⟨#[]⟩, .nilFunc, .nilFunc, .nilFunc, .string ⟨#[]⟩, .nilFunc, .nilFunc, .nilFunc, .string ⟨#[]⟩, .nilFunc, .nilFunc, .nilFunc, .string ⟨#[]⟩, .nilFunc, .nilFunc, .nilFunc, .string ⟨#[]⟩, .nilFunc, .nilFunc, .nilFunc, .string ⟨#[]⟩, .nilFunc, .nilFunc, .nilFunc, .string ⟨#[]⟩, .nilFunc, .nilFunc, .nilFunc, .string ⟨#[]⟩, .nilFunc, .nilFunc, .nilFunc] 41 (0, 0))) := Lib.hid ((Below.block g1 wb HS_2.out).trans HB0_2.out)
  have HG_3 := Lib.hid (HG_2.out.trans g1)
  have HS_3 : Hid (wb < w3.heap.size) := Lib.hid (Nat.lt_of_lt_of_le HS_2.out g1.size)
  have HX1_3 := Lib.hid (boxed_grow HX1_2.out g1)
  have HX2_3 := Lib.hid (boxed_grow HX2_2.out g1)
  have HL3 : Hid (wb < w2.heap.size) := Lib.hid HS_2.out
  clear g1 hx3 HB0_2 HG_2 HS_2 HX1_2 HX2_2
  generalize w2.heap.size = b3 at *
  go_wp2_with fail
  refine (vcount_any _ _ w3).mono ?_
  rintro e w4 ⟨⟨rfl, hx4⟩, g1⟩
  have HX4_4 := Lib.hid hx4
  have HB0_4 : Hid (w4.heap[wb]? = some (.cells #[.string ⟨#[]⟩, .nilFunc, .nilFunc, .nilFunc, .string ⟨#[]⟩, .nilFunc, .nilFunc, .nilFunc, .string ⟨#[]⟩, .nilFunc, .nilFunc, .nilFunc, .string ⟨#[]⟩, .nilFunc, .nilFunc, .nilFunc, .string ⟨#[]⟩, .nilFunc, .nilFunc, .nilFunc, .string ⟨#[]⟩, .nilFunc, .nilFunc, .nilFunc, .string ⟨#[]⟩, .nilFunc, .nilFunc, .nilFunc, .string ⟨#[]⟩, .nilFunc, .nilFunc, .nilFunc, .string ⟨#[]⟩, .nilFunc, .nilFunc, .nilFunc, .string ⟨#[]⟩, .nilFunc, .nilFunc, .nilFunc, .string ⟨#[]⟩, .nilFunc, .nilFunc, .nilFunc, .string ⟨#[]⟩, .nilFunc, .nilFunc, .nilFunc] 41 (0, 0))) := Lib.hid ((Below.block g1 wb HS_3.out).trans HB0_3.out)
  have HG_4 := Lib.hid (HG_3.out.trans g1)
  have HS_4 : Hid (wb < w4.heap.size) := Lib.hid (Nat.lt_of_lt_of_le HS_3.out g1.size)
  have HX1_4 := Lib.hid (boxed_grow HX1_3.out g1)
  have HX2_4 := Lib.hid (boxed_grow HX2_3.out g1)
  have HX3_4 := Lib.hid (boxed_grow HX3_3.out g1)
  have HL4 : Hid (wb < w3.heap.size) := Lib.hid HS_3.out
  clear g1 hx4 HB0_3 HG_3 HS_3 HX1_3 HX2_3 HX3_3
  generalize w3.heap.size = b4 at *
  go_wp2_with fail
  refine (vcount_any _ _ w4).mono ?_
  rintro e w5 ⟨⟨rfl, hx5⟩, g1⟩
  have HX5_5 := Lib.hid hx5
  have HB0_5 : Hid (w5.heap[wb]? = some (.cells #[.string ⟨#[]⟩, .nilFunc, .nilFunc, .nilFunc, .string ⟨#[]⟩, .nilFunc, .nilFunc, .nilFunc, .string ⟨#[]⟩, .nilFunc, .nilFunc, .nilFunc, .string ⟨#[]⟩, .nilFunc, .nilFunc, .nilFunc, .string ⟨#[]⟩, .nilFunc, .nilFunc, .nilFunc, .string ⟨#[]⟩, .nilFunc, .nilFunc, .nilFunc, .string ⟨#[]⟩, .nilFunc, .nilFunc, .nilFunc, .string ⟨#[]⟩, .nilFunc, .nilFunc, .nilFunc, .string ⟨#[]⟩, .nilFunc, .nilFunc, .nilFunc, .string ⟨#[]⟩, .nilFunc, .nilFunc, .nilFunc, .string ⟨#[]⟩, .nilFunc, .nilFunc, .nilFunc, .string ⟨#[]⟩, .nilFunc, .nilFunc, .nilFunc] 41 (0, 0))) := Lib.hid ((Below.block g1 wb HS_4.out).trans HB0_4.out)
  have HG_5 := Lib.hid (HG_4.out.trans g1)
  have HS_5 : Hid (wb < w5.heap.size) := Lib.hid (Nat.lt_of_lt_of_le HS_4.out g1.size)
  have HX1_5 := Lib.hid (boxed_grow HX1_4.out g1)
  have HX2_5 := Lib.hid (boxed_grow HX2_4.out g1)
  have HX3_5 := Lib.hid (boxed_grow HX3_4.out g1)
  have HX4_5 := Lib.hid (boxed_grow HX4_4.out g1)
  have HL5 : Hid (wb < w4.heap.size) := Lib.hid HS_4.out
  clear g1 hx5 HB0_4 HG_4 HS_4 HX1_4 HX2_4 HX3_4 HX4_4
  generalize w4.heap.size = b5 at *
  go_wp2_with fail
  refine (vcount_any _ _ w5).mono ?_
  rintro e w6 ⟨⟨rfl, hx6⟩, g1⟩
  have HX6_6 := Lib.hid hx6
  have HB0_6 : Hid (w6.heap[wb]? = some (.cells #[.string ⟨#[]⟩, .nilFunc, .nilFunc, .nilFunc, .string ⟨#[]⟩, .nilFunc, .nilFunc, .nilFunc, .string ⟨#[]⟩, .nilFunc, .nilFunc, .nilFunc, .string ⟨#[]⟩, .nilFunc, .nilFunc, .nilFunc, .string ⟨#[]⟩, .nilFunc, .nilFunc, .nilFunc, .string ⟨#[]⟩, .nilFunc, .nilFunc, .nilFunc, .string ⟨#[]⟩, .nilFunc, .nilFunc, .nilFunc, .string ⟨#[]⟩, .nilFunc, .nilFunc, .nilFunc, .string ⟨#[]⟩, .nilFunc, .nilFunc, .nilFunc, .string ⟨#[]⟩, .nilFunc, .nilFunc, .nilFunc, .string ⟨#[]⟩, .nilFunc, .nilFunc, .nilFunc, .string ⟨#[]⟩, .nilFunc, .nilFunc, .nilFunc] 41 (0, 0))) := Lib.hid ((Below.block g1 wb HS_5.out).trans HB0_5.out)
  have HG_6 := Lib.hid (HG_5.out.trans g1)
  have HS_6 : Hid (wb < w6.heap.size) := Lib.hid (Nat.lt_of_lt_of_le HS_5.out g1.size)
  have HX1_6 := Lib.hid (boxed_grow HX1_5.out g1)
  have HX2_6 := Lib.hid (boxed_grow HX2_5.out g1)
  have HX3_6 := Lib.hid (boxed_grow HX3_5.out g1)
  have HX4_6 := Lib.hid (boxed_grow HX4_5.out g1)
  have HX5_6 := Lib.hid (boxed_grow HX5_5.out g1)
  have HL6 : Hid (wb < w5.heap.size) := Lib.hid HS_5.out
  clear g1 hx6 HB0_5 HG_5 HS_5 HX1_5 HX2_5 HX3_5 HX4_5 HX5_5
  generalize w5.heap.size = b6 at *
  go_wp2_with fail
  refine (vcount_any _ _ w6).mono ?_
  rintro e w7 ⟨⟨rfl, hx7⟩, g1⟩
  have HX7_7 := Lib.hid hx7
  have HB0_7 : Hid (w7.heap[wb]? = some (.cells #[.string ⟨#[]⟩, .nilFunc, .nilFunc, .nilFunc, .string ⟨#[]⟩, .nilFunc, .nilFunc, .nilFunc, .string ⟨#[]⟩, .nilFunc, .nilFunc, .nilFunc, .string ⟨#[]⟩, .nilFunc, .nilFunc, .nilFunc, .string ⟨#[]⟩, .nilFunc, .nilFunc, .nilFunc, .string ⟨#[]⟩, .nilFunc, .nilFunc, .nilFunc, .string ⟨#[]⟩, .nilFunc, .nilFunc, .nilFunc, .string ⟨#[]⟩, .nilFunc, .nilFunc, .nilFunc, .string ⟨#[]⟩, .nilFunc, .nilFunc, .nilFunc, .string ⟨#[]⟩, .nilFunc, .nilFunc, .nilFunc, .string ⟨#[]⟩, .nilFunc, .nilFunc, .nilFunc, .string ⟨#[]⟩, .nilFunc, .nilFunc, .nilFunc] 41 (0, 0))) := Lib.hid ((Below.block g1 wb HS_6.out).trans HB0_6.out)
  have HG_7 := Lib.hid (HG_6.out.trans g1)
  have HS_7 : Hid (wb < w7.heap.size) := Lib.hid (Nat.lt_of_lt_of_le HS_6.out g1.size)
  have HX1_7 := Lib.hid (boxed_grow HX1_6.out g1)
  have HX2_7 := Lib.hid (boxed_grow HX2_6.out g1)
  have HX3_7 := Lib.hid (boxed_grow HX3_6.out g1)
  have HX4_7 := Lib.hid (boxed_grow HX4_6.out g1)
  have HX5_7 := Lib.hid (boxed_grow HX5_6.out g1)
  have HX6_7 := Lib.hid (boxed_grow HX6_6.out g1)
  have HL7 : Hid (wb < w6.heap.size) := Lib.hid HS_6.out
  clear g1 hx7 HB0_6 HG_6 HS_6 HX1_6 HX2_6 HX3_6 HX4_6 HX5_6 HX6_6
  generalize w6.heap.size = b7 at *
  go_wp2_with fail
  refine (vcount_any _ _ w7).mono ?_
  rintro e w8 ⟨⟨rfl, hx8⟩, g1⟩
  have HX8_8 := Lib.hid hx8
  have HB0_8 : Hid (w8.heap[wb]? = some (.cells #[.string ⟨#[]⟩, .nilFunc, .nilFunc, .nilFunc, .string ⟨#[]⟩, .nilFunc, .nilFunc, .nilFunc, .string ⟨#[]⟩, .nilFunc, .nilFunc, .nilFunc, .string ⟨#[]⟩, .nilFunc, .nilFunc, .nilFunc, .string ⟨#[]⟩, .nilFunc, .nilFunc, .nilFunc, .string ⟨#[]⟩, .nilFunc, .nilFunc, .nilFunc, .string ⟨#[]⟩, .nilFunc, .nilFunc, .nilFunc, .string ⟨#[]⟩, .nilFunc, .nilFunc, .nilFunc, .string ⟨#[]⟩, .nilFunc, .nilFunc, .nilFunc, .string ⟨#[]⟩, .nilFunc, .nilFunc, .nilFunc, .string ⟨#[]⟩, .nilFunc, .nilFunc, .nilFunc, .string ⟨#[]⟩, .nilFunc, .nilFunc, .nilFunc] 41 (0, 0))) := Lib.hid ((Below.block g1 wb HS_7.out).trans HB0_7.out)
  have HG_8 := Lib.hid (HG_7.out.trans g1)
  have HS_8 : Hid (wb < w8.heap.size) := Lib.hid (Nat.lt_of_lt_of_le HS_7.out g1.size)
  have HX1_8 := Lib.hid (boxed_grow HX1_7.out g1)
  have HX2_8 := Lib.hid (boxed_grow HX2_7.out g1)
  have HX3_8 := Lib.hid (boxed_grow HX3_7.out g1)
  have HX4_8 := Lib.hid (boxed_grow HX4_7.out g1)
  have HX5_8 := Lib.hid (boxed_grow HX5_7.out g1)
  have HX6_8 := Lib.hid (boxed_grow HX6_7.out g1)
  have HX7_8 := Lib.hid (boxed_grow HX7_7.out g1)
  have HL8 : Hid (wb < w7.heap.size) := Lib.hid HS_7.out
  clear g1 hx8 HB0_7 HG_7 HS_7 HX1_7 HX2_7 HX3_7 HX4_7 HX5_7 HX6_7 HX7_7
  generalize w7.heap.size = b8 at *
  go_wp2_with fail
  refine (vcount_any _ _ w8).mono ?_
  rintro e w9 ⟨⟨rfl, hx9⟩, g1⟩
  have HX9_9 := Lib.hid hx9
  have HB0_9 : Hid (w9.heap[wb]? = some (.cells #[.string ⟨#[]⟩, .nilFunc, .nilFunc, .nilFunc, .string ⟨#[]⟩, .nilFunc, .nilFunc, .nilFunc, .string ⟨#[]⟩, .nilFunc, .nilFunc, .nilFunc, .string ⟨#[]⟩, .nilFunc, .nilFunc, .nilFunc, .string ⟨#[]⟩, .nilFunc, .nilFunc, .nilFunc, .string ⟨#[]⟩, .nilFunc, .nilFunc, .nilFunc, .string ⟨#[]⟩, .nilFunc, .nilFunc, .nilFunc, .string ⟨#[]⟩, .nilFunc, .nilFunc, .nilFunc, .string ⟨#[]⟩, .nilFunc, .nilFunc, .nilFunc, .string ⟨#[]⟩, .nilFunc, .nilFunc, .nilFunc, .string ⟨#[]⟩, .nilFunc, .nilFunc, .nilFunc, .string ⟨#[]⟩, .nilFunc, .nilFunc, .nilFunc] 41 (0, 0))) := Lib.hid ((Below.block g1 wb HS_8.out).trans HB0_8.out)
  have HG_9 := Lib.hid (HG_8.out.trans g1)
  have HS_9 : Hid (wb < w9.heap.size) := Lib.hid (Nat.lt_of_lt_of_le HS_8.out g1.size)
  have HX1_9 := Lib.hid (boxed_grow HX1_8.out g1)
  have HX2_9 := Lib.hid (boxed_grow HX2_8.out g1)
  have HX3_9 := Lib.hid (boxed_grow HX3_8.out g1)
  have HX4_9 := Lib.hid (boxed_grow HX4_8.out g1)
  have HX5_9 := Lib.hid (boxed_grow HX5_8.out g1)
  have HX6_9 := Lib.hid (boxed_grow HX6_8.out g1)
  have HX7_9 := Lib.hid (boxed_grow HX7_8.out g1)
  have HX8_9 := Lib.hid (boxed_grow HX8_8.out g1)
  have HL9 : Hid (wb < w8.heap.size) := Lib.hid HS_8.out
  clear g1 hx9 HB0_8 HG_8 HS_8 HX1_8 HX2_8 HX3_8 HX4_8 HX5_8 HX6_8 HX7_8 HX8_8
  generalize w8.heap.size = b9 at *
  go_wp2_with fail
  refine (vcount_any _ _ w9).mono ?_
  rintro e w10 ⟨⟨rfl, hx10⟩, g1⟩
  have HX10_10 := Lib.hid hx10
  have HB0_10 : Hid (w10.heap[wb]? = some (.cells #[.string ⟨#[]⟩, .nilFunc, .nilFunc, .nilFunc, .string ⟨#[]⟩, .nilFunc, .nilFunc, .nilFunc, .string ⟨#[]⟩, .nilFunc, .nilFunc, .nilFunc, .string ⟨#[]⟩, .nilFunc, .nilFunc, .nilFunc, .string ⟨#[]⟩, .nilFunc, .nilFunc, .nilFunc, .string ⟨#[]⟩, .nilFunc, .nilFunc, .nilFunc, .string ⟨#[]⟩, .nilFunc, .nilFunc, .nilFunc, .string ⟨#[]⟩, .nilFunc, .nilFunc, .nilFunc, .string ⟨#[]⟩, .nilFunc, .nilFunc, .nilFunc, .string ⟨#[]⟩, .nilFunc, .nilFunc, .nilFunc, .string ⟨#[]⟩, .nilFunc, .nilFunc, .nilFunc, .string ⟨#[]⟩, .nilFunc, .nilFunc, .nilFunc] 41 (0, 0))) := Lib.hid ((Below.block g1 wb HS_9.out).trans HB0_9.out)
  have HG_10 := Lib.hid (HG_9.out.trans g1)
  have HS_10 : Hid (wb < w10.heap.size) := Lib.hid (Nat.lt_of_lt_of_le HS_9.out g1.size)
  have HX1_10 := Lib.hid (boxed_grow HX1_9.out g1)
  have HX2_10 := Lib.hid (boxed_grow HX2_9.out g1)
  have HX3_10 := Lib.hid (boxed_grow HX3_9.out g1)
  have HX4_10 := Lib.hid (boxed_grow HX4_9.out g1)
  have HX5_10 := Lib.hid (boxed_grow HX5_9.out g1)
  have HX6_10 := Lib.hid (boxed_grow HX6_9.out g1)
  have HX7_10 := Lib.hid (boxed_grow HX7_9.out g1)
  have HX8_10 := Lib.hid (boxed_grow HX8_9.out g1)
  have HX9_10 := Lib.hid (boxed_grow HX9_9.out g1)
  have HL10 : Hid (wb < w9.heap.size) := Lib.hid HS_9.out
  clear g1 hx10 HB0_9 HG_9 HS_9 HX1_9 HX2_9 HX3_9 HX4_9 HX5_9 HX6_9 HX7_9 HX8_9 HX9_9
  generalize w9.heap.size = b10 at *
  go_wp2_with fail
  refine (vcount_any _ _ w10).mono ?_
  rintro e w11 ⟨⟨rfl, hx11⟩, g1⟩
  have HX11_11 := Lib.hid hx11
  have HB0_11 : Hid (w11.heap[wb]? = some (.cells #[.string ⟨#[]⟩, .nilFunc, .nilFunc, .nilFunc, .string ⟨#[]⟩, .nilFunc, .nilFunc, .nilFunc, .string ⟨#[]⟩, .nilFunc, .nilFunc, .nilFunc, .string ⟨#[]⟩, .nilFunc, .nilFunc, .nilFunc, .string ⟨#[]⟩, .nilFunc, .nilFunc, .nilFunc, .string ⟨#[]⟩, .nilFunc, .nilFunc, .nilFunc, .string ⟨#[]⟩, .nilFunc, .nilFunc, .nilFunc, .string ⟨#[]⟩, .nilFunc, .nilFunc, .nilFunc, .string ⟨#[]⟩, .nilFunc, .nilFunc, .nilFunc, .string ⟨#[]⟩, .nilFunc, .nilFunc, .nilFunc, .string ⟨#[]⟩, .nilFunc, .nilFunc, .nilFunc, .string ⟨#[]⟩, .nilFunc, .nilFunc, .nilFunc] 41 (0, 0))) := Lib.hid ((Below.block g1 wb HS_10.out).trans HB0_10.out)
  have HG_11 := Lib.hid (HG_10.out.trans g1)
  have HS_11 : Hid (wb < w11.heap.size) := Lib.hid (Nat.lt_of_lt_of_le HS_10.out g1.size)
  have HX1_11 := Lib.hid (boxed_grow HX1_10.out g1)
  have HX2_11 := Lib.hid (boxed_grow HX2_10.out g1)
  have HX3_11 := Lib.hid (boxed_grow HX3_10.out g1)
  have HX4_11 := Lib.hid (boxed_grow HX4_10.out g1)
  have HX5_11 := Lib.hid (boxed_grow HX5_10.out g1)
  have HX6_11 := Lib.hid (boxed_grow HX6_10.out g1)
  have HX7_11 := Lib.hid (boxed_grow HX7_10.out g1)
  have HX8_11 := Lib.hid (boxed_grow HX8_10.out g1)
  have HX9_11 := Lib.hid (boxed_grow HX9_10.out g1)
  have HX10_11 := Lib.hid (boxed_grow HX10_10.out g1)
  have HL11 : Hid (wb < w10.heap.size) := Lib.hid HS_10.out
  clear g1 hx11 HB0_10 HG_10 HS_10 HX1_10 HX2_10 HX3_10 HX4_10 HX5_10 HX6_10 HX7_10 HX8_10 HX9_10 HX10_10
  generalize w10.heap.size = b11 at *
  go_wp2_with (refine wpList_store_row rfl 41 (.tmp 0) (.tmp 13) rfl wb #[.string ⟨#[115, 105, 122, 101, 115]⟩, .func (.func 54) #[] #[], .func (.func 56) #[] #[], .func (.func 58) #[] #[], .string ⟨#[115, 104, 105, 102, 116]⟩, .func (.func 60) #[] #[.pointer (some ⟨b1, 0, none⟩)], .func (.func 62) #[] #[.pointer (some ⟨b1, 0, none⟩)], .func (.func 64) #[] #[.pointer (some ⟨b1, 0, none⟩)], .string ⟨#[114, 97, 116, 101]⟩, .func (.func 65) #[] #[.pointer (some ⟨b2, 0, none⟩)], .func (.func 67) #[] #[.pointer (some ⟨b2, 0, none⟩)], .func (.func 69) #[] #[.pointer (some ⟨b2, 0, none⟩)], .string ⟨#[109, 111, 109, 101, 110, 116, 117, 109]⟩, .func (.func 65) #[] #[.pointer (some ⟨b3, 0, none⟩)], .func (.func 67) #[] #[.pointer (some ⟨b3, 0, none⟩)], .func (.func 69) #[] #[.pointer (some ⟨b3, 0, none⟩)], .string ⟨#[119, 111, 114, 107, 101, 114, 115]⟩, .func (.func 60) #[] #[.pointer (some ⟨b4, 0, none⟩)], .func (.func 62) #[] #[.pointer (some ⟨b4, 0, none⟩)], .func (.func 64) #[] #[.pointer (some ⟨b4, 0, none⟩)], .string ⟨#[98, 97, 116, 99, 104]⟩, .func (.func 60) #[] #[.pointer (some ⟨b5, 0, none⟩)], .func (.func 62) #[] #[.pointer (some ⟨b5, 0, none⟩)], .func (.func 64) #[] #[.pointer (some ⟨b5, 0, none⟩)], .string ⟨#[109, 105, 99, 114, 111, 115]⟩, .func (.func 60) #[] #[.pointer (some ⟨b6, 0, none⟩)], .func (.func 62) #[] #[.pointer (some ⟨b6, 0, none⟩)], .func (.func 64) #[] #[.pointer (some ⟨b6, 0, none⟩)], .string ⟨#[115, 116, 101, 112, 115]⟩, .func (.func 60) #[] #[.pointer (some ⟨b7, 0, none⟩)], .func (.func 62) #[] #[.pointer (some ⟨b7, 0, none⟩)], .func (.func 64) #[] #[.pointer (some ⟨b7, 0, none⟩)], .string ⟨#[98, 117, 99, 107, 101, 116]⟩, .func (.func 60) #[] #[.pointer (some ⟨b8, 0, none⟩)], .func (.func 62) #[] #[.pointer (some ⟨b8, 0, none⟩)], .func (.func 64) #[] #[.pointer (some ⟨b8, 0, none⟩)], .string ⟨#[99, 104, 117, 110, 107]⟩, .func (.func 60) #[] #[.pointer (some ⟨b9, 0, none⟩)], .func (.func 62) #[] #[.pointer (some ⟨b9, 0, none⟩)], .func (.func 64) #[] #[.pointer (some ⟨b9, 0, none⟩)], .string ⟨#[119, 105, 110, 100, 111, 119]⟩, .func (.func 60) #[] #[.pointer (some ⟨b10, 0, none⟩)], .func (.func 62) #[] #[.pointer (some ⟨b10, 0, none⟩)], .func (.func 64) #[] #[.pointer (some ⟨b10, 0, none⟩)], .string ⟨#[99, 97, 112, 97, 99, 105, 116, 121]⟩, .func (.func 60) #[] #[.pointer (some ⟨b11, 0, none⟩)], .func (.func 62) #[] #[.pointer (some ⟨b11, 0, none⟩)], .func (.func 64) #[] #[.pointer (some ⟨b11, 0, none⟩)]] rfl rfl 41 _ HB0_11.out (by kernel_rfl) rfl (by kernel_rfl) ?_)
  have HR : Hid ((w11.setRow wb #[.string ⟨#[115, 105, 122, 101, 115]⟩, .func (.func 54) #[] #[], .func (.func 56) #[] #[], .func (.func 58) #[] #[], .string ⟨#[115, 104, 105, 102, 116]⟩, .func (.func 60) #[] #[.pointer (some ⟨b1, 0, none⟩)], .func (.func 62) #[] #[.pointer (some ⟨b1, 0, none⟩)], .func (.func 64) #[] #[.pointer (some ⟨b1, 0, none⟩)], .string ⟨#[114, 97, 116, 101]⟩, .func (.func 65) #[] #[.pointer (some ⟨b2, 0, none⟩)], .func (.func 67) #[] #[.pointer (some ⟨b2, 0, none⟩)], .func (.func 69) #[] #[.pointer (some ⟨b2, 0, none⟩)], .string ⟨#[109, 111, 109, 101, 110, 116, 117, 109]⟩, .func (.func 65) #[] #[.pointer (some ⟨b3, 0, none⟩)], .func (.func 67) #[] #[.pointer (some ⟨b3, 0, none⟩)], .func (.func 69) #[] #[.pointer (some ⟨b3, 0, none⟩)], .string ⟨#[119, 111, 114, 107, 101, 114, 115]⟩, .func (.func 60) #[] #[.pointer (some ⟨b4, 0, none⟩)], .func (.func 62) #[] #[.pointer (some ⟨b4, 0, none⟩)], .func (.func 64) #[] #[.pointer (some ⟨b4, 0, none⟩)], .string ⟨#[98, 97, 116, 99, 104]⟩, .func (.func 60) #[] #[.pointer (some ⟨b5, 0, none⟩)], .func (.func 62) #[] #[.pointer (some ⟨b5, 0, none⟩)], .func (.func 64) #[] #[.pointer (some ⟨b5, 0, none⟩)], .string ⟨#[109, 105, 99, 114, 111, 115]⟩, .func (.func 60) #[] #[.pointer (some ⟨b6, 0, none⟩)], .func (.func 62) #[] #[.pointer (some ⟨b6, 0, none⟩)], .func (.func 64) #[] #[.pointer (some ⟨b6, 0, none⟩)], .string ⟨#[115, 116, 101, 112, 115]⟩, .func (.func 60) #[] #[.pointer (some ⟨b7, 0, none⟩)], .func (.func 62) #[] #[.pointer (some ⟨b7, 0, none⟩)], .func (.func 64) #[] #[.pointer (some ⟨b7, 0, none⟩)], .string ⟨#[98, 117, 99, 107, 101, 116]⟩, .func (.func 60) #[] #[.pointer (some ⟨b8, 0, none⟩)], .func (.func 62) #[] #[.pointer (some ⟨b8, 0, none⟩)], .func (.func 64) #[] #[.pointer (some ⟨b8, 0, none⟩)], .string ⟨#[99, 104, 117, 110, 107]⟩, .func (.func 60) #[] #[.pointer (some ⟨b9, 0, none⟩)], .func (.func 62) #[] #[.pointer (some ⟨b9, 0, none⟩)], .func (.func 64) #[] #[.pointer (some ⟨b9, 0, none⟩)], .string ⟨#[119, 105, 110, 100, 111, 119]⟩, .func (.func 60) #[] #[.pointer (some ⟨b10, 0, none⟩)], .func (.func 62) #[] #[.pointer (some ⟨b10, 0, none⟩)], .func (.func 64) #[] #[.pointer (some ⟨b10, 0, none⟩)], .string ⟨#[99, 97, 112, 97, 99, 105, 116, 121]⟩, .func (.func 60) #[] #[.pointer (some ⟨b11, 0, none⟩)], .func (.func 62) #[] #[.pointer (some ⟨b11, 0, none⟩)], .func (.func 64) #[] #[.pointer (some ⟨b11, 0, none⟩)]]).heap[wb]? = some (.cells #[.string ⟨#[115, 105, 122, 101, 115]⟩, .func (.func 54) #[] #[], .func (.func 56) #[] #[], .func (.func 58) #[] #[], .string ⟨#[115, 104, 105, 102, 116]⟩, .func (.func 60) #[] #[.pointer (some ⟨b1, 0, none⟩)], .func (.func 62) #[] #[.pointer (some ⟨b1, 0, none⟩)], .func (.func 64) #[] #[.pointer (some ⟨b1, 0, none⟩)], .string ⟨#[114, 97, 116, 101]⟩, .func (.func 65) #[] #[.pointer (some ⟨b2, 0, none⟩)], .func (.func 67) #[] #[.pointer (some ⟨b2, 0, none⟩)], .func (.func 69) #[] #[.pointer (some ⟨b2, 0, none⟩)], .string ⟨#[109, 111, 109, 101, 110, 116, 117, 109]⟩, .func (.func 65) #[] #[.pointer (some ⟨b3, 0, none⟩)], .func (.func 67) #[] #[.pointer (some ⟨b3, 0, none⟩)], .func (.func 69) #[] #[.pointer (some ⟨b3, 0, none⟩)], .string ⟨#[119, 111, 114, 107, 101, 114, 115]⟩, .func (.func 60) #[] #[.pointer (some ⟨b4, 0, none⟩)], .func (.func 62) #[] #[.pointer (some ⟨b4, 0, none⟩)], .func (.func 64) #[] #[.pointer (some ⟨b4, 0, none⟩)], .string ⟨#[98, 97, 116, 99, 104]⟩, .func (.func 60) #[] #[.pointer (some ⟨b5, 0, none⟩)], .func (.func 62) #[] #[.pointer (some ⟨b5, 0, none⟩)], .func (.func 64) #[] #[.pointer (some ⟨b5, 0, none⟩)], .string ⟨#[109, 105, 99, 114, 111, 115]⟩, .func (.func 60) #[] #[.pointer (some ⟨b6, 0, none⟩)], .func (.func 62) #[] #[.pointer (some ⟨b6, 0, none⟩)], .func (.func 64) #[] #[.pointer (some ⟨b6, 0, none⟩)], .string ⟨#[115, 116, 101, 112, 115]⟩, .func (.func 60) #[] #[.pointer (some ⟨b7, 0, none⟩)], .func (.func 62) #[] #[.pointer (some ⟨b7, 0, none⟩)], .func (.func 64) #[] #[.pointer (some ⟨b7, 0, none⟩)], .string ⟨#[98, 117, 99, 107, 101, 116]⟩, .func (.func 60) #[] #[.pointer (some ⟨b8, 0, none⟩)], .func (.func 62) #[] #[.pointer (some ⟨b8, 0, none⟩)], .func (.func 64) #[] #[.pointer (some ⟨b8, 0, none⟩)], .string ⟨#[99, 104, 117, 110, 107]⟩, .func (.func 60) #[] #[.pointer (some ⟨b9, 0, none⟩)], .func (.func 62) #[] #[.pointer (some ⟨b9, 0, none⟩)], .func (.func 64) #[] #[.pointer (some ⟨b9, 0, none⟩)], .string ⟨#[119, 105, 110, 100, 111, 119]⟩, .func (.func 60) #[] #[.pointer (some ⟨b10, 0, none⟩)], .func (.func 62) #[] #[.pointer (some ⟨b10, 0, none⟩)], .func (.func 64) #[] #[.pointer (some ⟨b10, 0, none⟩)], .string ⟨#[99, 97, 112, 97, 99, 105, 116, 121]⟩, .func (.func 60) #[] #[.pointer (some ⟨b11, 0, none⟩)], .func (.func 62) #[] #[.pointer (some ⟨b11, 0, none⟩)], .func (.func 64) #[] #[.pointer (some ⟨b11, 0, none⟩)]] 41 (0, 0))) := Lib.hid (setRow_heap _ _ _ _ _ _ HB0_11.out)
  have HGE : Hid (Grew w (w11.setRow wb #[.string ⟨#[115, 105, 122, 101, 115]⟩, .func (.func 54) #[] #[], .func (.func 56) #[] #[], .func (.func 58) #[] #[], .string ⟨#[115, 104, 105, 102, 116]⟩, .func (.func 60) #[] #[.pointer (some ⟨b1, 0, none⟩)], .func (.func 62) #[] #[.pointer (some ⟨b1, 0, none⟩)], .func (.func 64) #[] #[.pointer (some ⟨b1, 0, none⟩)], .string ⟨#[114, 97, 116, 101]⟩, .func (.func 65) #[] #[.pointer (some ⟨b2, 0, none⟩)], .func (.func 67) #[] #[.pointer (some ⟨b2, 0, none⟩)], .func (.func 69) #[] #[.pointer (some ⟨b2, 0, none⟩)], .string ⟨#[109, 111, 109, 101, 110, 116, 117, 109]⟩, .func (.func 65) #[] #[.pointer (some ⟨b3, 0, none⟩)], .func (.func 67) #[] #[.pointer (some ⟨b3, 0, none⟩)], .func (.func 69) #[] #[.pointer (some ⟨b3, 0, none⟩)], .string ⟨#[119, 111, 114, 107, 101, 114, 115]⟩, .func (.func 60) #[] #[.pointer (some ⟨b4, 0, none⟩)], .func (.func 62) #[] #[.pointer (some ⟨b4, 0, none⟩)], .func (.func 64) #[] #[.pointer (some ⟨b4, 0, none⟩)], .string ⟨#[98, 97, 116, 99, 104]⟩, .func (.func 60) #[] #[.pointer (some ⟨b5, 0, none⟩)], .func (.func 62) #[] #[.pointer (some ⟨b5, 0, none⟩)], .func (.func 64) #[] #[.pointer (some ⟨b5, 0, none⟩)], .string ⟨#[109, 105, 99, 114, 111, 115]⟩, .func (.func 60) #[] #[.pointer (some ⟨b6, 0, none⟩)], .func (.func 62) #[] #[.pointer (some ⟨b6, 0, none⟩)], .func (.func 64) #[] #[.pointer (some ⟨b6, 0, none⟩)], .string ⟨#[115, 116, 101, 112, 115]⟩, .func (.func 60) #[] #[.pointer (some ⟨b7, 0, none⟩)], .func (.func 62) #[] #[.pointer (some ⟨b7, 0, none⟩)], .func (.func 64) #[] #[.pointer (some ⟨b7, 0, none⟩)], .string ⟨#[98, 117, 99, 107, 101, 116]⟩, .func (.func 60) #[] #[.pointer (some ⟨b8, 0, none⟩)], .func (.func 62) #[] #[.pointer (some ⟨b8, 0, none⟩)], .func (.func 64) #[] #[.pointer (some ⟨b8, 0, none⟩)], .string ⟨#[99, 104, 117, 110, 107]⟩, .func (.func 60) #[] #[.pointer (some ⟨b9, 0, none⟩)], .func (.func 62) #[] #[.pointer (some ⟨b9, 0, none⟩)], .func (.func 64) #[] #[.pointer (some ⟨b9, 0, none⟩)], .string ⟨#[119, 105, 110, 100, 111, 119]⟩, .func (.func 60) #[] #[.pointer (some ⟨b10, 0, none⟩)], .func (.func 62) #[] #[.pointer (some ⟨b10, 0, none⟩)], .func (.func 64) #[] #[.pointer (some ⟨b10, 0, none⟩)], .string ⟨#[99, 97, 112, 97, 99, 105, 116, 121]⟩, .func (.func 60) #[] #[.pointer (some ⟨b11, 0, none⟩)], .func (.func 62) #[] #[.pointer (some ⟨b11, 0, none⟩)], .func (.func 64) #[] #[.pointer (some ⟨b11, 0, none⟩)]])) := Lib.hid (below_setRow HG_11.out (by rw [HWB.out]; exact Nat.le_refl _) _)
  have hld := run_loadVar_row (P := Tryz.prog) _ wb 41 41 _ (0, 0) _ HR.out Tryz.underlying41 rfl (by kernel_rfl)
  refine bodyPost_ret (v := .agg #[.string ⟨#[115, 105, 122, 101, 115]⟩, .func (.func 54) #[] #[], .func (.func 56) #[] #[], .func (.func 58) #[] #[], .string ⟨#[115, 104, 105, 102, 116]⟩, .func (.func 60) #[] #[.pointer (some ⟨b1, 0, none⟩)], .func (.func 62) #[] #[.pointer (some ⟨b1, 0, none⟩)], .func (.func 64) #[] #[.pointer (some ⟨b1, 0, none⟩)], .string ⟨#[114, 97, 116, 101]⟩, .func (.func 65) #[] #[.pointer (some ⟨b2, 0, none⟩)], .func (.func 67) #[] #[.pointer (some ⟨b2, 0, none⟩)], .func (.func 69) #[] #[.pointer (some ⟨b2, 0, none⟩)], .string ⟨#[109, 111, 109, 101, 110, 116, 117, 109]⟩, .func (.func 65) #[] #[.pointer (some ⟨b3, 0, none⟩)], .func (.func 67) #[] #[.pointer (some ⟨b3, 0, none⟩)], .func (.func 69) #[] #[.pointer (some ⟨b3, 0, none⟩)], .string ⟨#[119, 111, 114, 107, 101, 114, 115]⟩, .func (.func 60) #[] #[.pointer (some ⟨b4, 0, none⟩)], .func (.func 62) #[] #[.pointer (some ⟨b4, 0, none⟩)], .func (.func 64) #[] #[.pointer (some ⟨b4, 0, none⟩)], .string ⟨#[98, 97, 116, 99, 104]⟩, .func (.func 60) #[] #[.pointer (some ⟨b5, 0, none⟩)], .func (.func 62) #[] #[.pointer (some ⟨b5, 0, none⟩)], .func (.func 64) #[] #[.pointer (some ⟨b5, 0, none⟩)], .string ⟨#[109, 105, 99, 114, 111, 115]⟩, .func (.func 60) #[] #[.pointer (some ⟨b6, 0, none⟩)], .func (.func 62) #[] #[.pointer (some ⟨b6, 0, none⟩)], .func (.func 64) #[] #[.pointer (some ⟨b6, 0, none⟩)], .string ⟨#[115, 116, 101, 112, 115]⟩, .func (.func 60) #[] #[.pointer (some ⟨b7, 0, none⟩)], .func (.func 62) #[] #[.pointer (some ⟨b7, 0, none⟩)], .func (.func 64) #[] #[.pointer (some ⟨b7, 0, none⟩)], .string ⟨#[98, 117, 99, 107, 101, 116]⟩, .func (.func 60) #[] #[.pointer (some ⟨b8, 0, none⟩)], .func (.func 62) #[] #[.pointer (some ⟨b8, 0, none⟩)], .func (.func 64) #[] #[.pointer (some ⟨b8, 0, none⟩)], .string ⟨#[99, 104, 117, 110, 107]⟩, .func (.func 60) #[] #[.pointer (some ⟨b9, 0, none⟩)], .func (.func 62) #[] #[.pointer (some ⟨b9, 0, none⟩)], .func (.func 64) #[] #[.pointer (some ⟨b9, 0, none⟩)], .string ⟨#[119, 105, 110, 100, 111, 119]⟩, .func (.func 60) #[] #[.pointer (some ⟨b10, 0, none⟩)], .func (.func 62) #[] #[.pointer (some ⟨b10, 0, none⟩)], .func (.func 64) #[] #[.pointer (some ⟨b10, 0, none⟩)], .string ⟨#[99, 97, 112, 97, 99, 105, 116, 121]⟩, .func (.func 60) #[] #[.pointer (some ⟨b11, 0, none⟩)], .func (.func 62) #[] #[.pointer (some ⟨b11, 0, none⟩)], .func (.func 64) #[] #[.pointer (some ⟨b11, 0, none⟩)]]) ?hv rfl ?hp
  case hv => exact results_cell Tryz.results14 rfl hld
  case hp =>
    refine ⟨⟨bxOf b1 b2 b3 b4 b5 b6 b7 b8 b9 b10 b11, rfl, fun k h1 h2 => ?_, fun k h1 h2 => ?_⟩, HGE.out⟩
    · have key : ∀ {j : Nat} {ty : TypeId} {v : Value}, wb < j → Boxed w11 j ty v → Boxed (w11.setRow wb #[.string ⟨#[115, 105, 122, 101, 115]⟩, .func (.func 54) #[] #[], .func (.func 56) #[] #[], .func (.func 58) #[] #[], .string ⟨#[115, 104, 105, 102, 116]⟩, .func (.func 60) #[] #[.pointer (some ⟨b1, 0, none⟩)], .func (.func 62) #[] #[.pointer (some ⟨b1, 0, none⟩)], .func (.func 64) #[] #[.pointer (some ⟨b1, 0, none⟩)], .string ⟨#[114, 97, 116, 101]⟩, .func (.func 65) #[] #[.pointer (some ⟨b2, 0, none⟩)], .func (.func 67) #[] #[.pointer (some ⟨b2, 0, none⟩)], .func (.func 69) #[] #[.pointer (some ⟨b2, 0, none⟩)], .string ⟨#[109, 111, 109, 101, 110, 116, 117, 109]⟩, .func (.func 65) #[] #[.pointer (some ⟨b3, 0, none⟩)], .func (.func 67) #[] #[.pointer (some ⟨b3, 0, none⟩)], .func (.func 69) #[] #[.pointer (some ⟨b3, 0, none⟩)], .string ⟨#[119, 111, 114, 107, 101, 114, 115]⟩, .func (.func 60) #[] #[.pointer (some ⟨b4, 0, none⟩)], .func (.func 62) #[] #[.pointer (some ⟨b4, 0, none⟩)], .func (.func 64) #[] #[.pointer (some ⟨b4, 0, none⟩)], .string ⟨#[98, 97, 116, 99, 104]⟩, .func (.func 60) #[] #[.pointer (some ⟨b5, 0, none⟩)], .func (.func 62) #[] #[.pointer (some ⟨b5, 0, none⟩)], .func (.func 64) #[] #[.pointer (some ⟨b5, 0, none⟩)], .string ⟨#[109, 105, 99, 114, 111, 115]⟩, .func (.func 60) #[] #[.pointer (some ⟨b6, 0, none⟩)], .func (.func 62) #[] #[.pointer (some ⟨b6, 0, none⟩)], .func (.func 64) #[] #[.pointer (some ⟨b6, 0, none⟩)], .string ⟨#[115, 116, 101, 112, 115]⟩, .func (.func 60) #[] #[.pointer (some ⟨b7, 0, none⟩)], .func (.func 62) #[] #[.pointer (some ⟨b7, 0, none⟩)], .func (.func 64) #[] #[.pointer (some ⟨b7, 0, none⟩)], .string ⟨#[98, 117, 99, 107, 101, 116]⟩, .func (.func 60) #[] #[.pointer (some ⟨b8, 0, none⟩)], .func (.func 62) #[] #[.pointer (some ⟨b8, 0, none⟩)], .func (.func 64) #[] #[.pointer (some ⟨b8, 0, none⟩)], .string ⟨#[99, 104, 117, 110, 107]⟩, .func (.func 60) #[] #[.pointer (some ⟨b9, 0, none⟩)], .func (.func 62) #[] #[.pointer (some ⟨b9, 0, none⟩)], .func (.func 64) #[] #[.pointer (some ⟨b9, 0, none⟩)], .string ⟨#[119, 105, 110, 100, 111, 119]⟩, .func (.func 60) #[] #[.pointer (some ⟨b10, 0, none⟩)], .func (.func 62) #[] #[.pointer (some ⟨b10, 0, none⟩)], .func (.func 64) #[] #[.pointer (some ⟨b10, 0, none⟩)], .string ⟨#[99, 97, 112, 97, 99, 105, 116, 121]⟩, .func (.func 60) #[] #[.pointer (some ⟨b11, 0, none⟩)], .func (.func 62) #[] #[.pointer (some ⟨b11, 0, none⟩)], .func (.func 64) #[] #[.pointer (some ⟨b11, 0, none⟩)]]) j ty v := fun hj h => (setRow_other _ _ _ _ (by omega)).trans h
      match k, h1, h2 with
      | 1, _, _ => exact key HL1.out HX1_11.out
      | 2, _, _ => exact key HL2.out HX2_11.out
      | 3, _, _ => exact key HL3.out HX3_11.out
      | 4, _, _ => exact key HL4.out HX4_11.out
      | 5, _, _ => exact key HL5.out HX5_11.out
      | 6, _, _ => exact key HL6.out HX6_11.out
      | 7, _, _ => exact key HL7.out HX7_11.out
      | 8, _, _ => exact key HL8.out HX8_11.out
      | 9, _, _ => exact key HL9.out HX9_11.out
      | 10, _, _ => exact key HL10.out HX10_11.out
      | 11, _, _ => exact key HL11.out HX11_11.out

    · rw [HWB.out]
      match k, h1, h2 with
      | 1, _, _ => exact Nat.le_of_lt HL1.out
      | 2, _, _ => exact Nat.le_of_lt HL2.out
      | 3, _, _ => exact Nat.le_of_lt HL3.out
      | 4, _, _ => exact Nat.le_of_lt HL4.out
      | 5, _, _ => exact Nat.le_of_lt HL5.out
      | 6, _, _ => exact Nat.le_of_lt HL6.out
      | 7, _, _ => exact Nat.le_of_lt HL7.out
      | 8, _, _ => exact Nat.le_of_lt HL8.out
      | 9, _, _ => exact Nat.le_of_lt HL9.out
      | 10, _, _ => exact Nat.le_of_lt HL10.out
      | 11, _, _ => exact Nat.le_of_lt HL11.out

end Go.Proofs.YthcahpgandappaaGreatDoor
