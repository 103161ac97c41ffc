/- The reference's Shuffle. -/
import Derived.Test.YtdcpankbolfmiaaQg
import Derived.Deep.RegionHeld3
namespace Go.Proofs.Ytdcpankbolfmiaa
open Go.RowKit
set_option linter.unusedVariables false

theorem rnext_n {m : Nat} (a : Option Addr) (c k : Nat) (zs : List Int) (n : Int) (w : World) (hz : zs.length = m) (hl : m ≤ 17592186044416) (hk : k ≤ m) (hu : U64 zs) (hn : n ≤ 9223372036854775807) (h : RdK .u64 w.heap.size w a zs) :
    Calls Try.prog 35 #[.agg #[.slice a m c, .int .i64 k], .int .i64 n] w fun e w' => e = .returned (.tuple #[.agg #[.slice a m c, .int .i64 (nxN zs k n : Nat)], .int .i64 (outN zs k n), .bool (okN zs k n)]) ∧ Grew w w' := by
  subst hz; exact rnext_any a c k zs n w hl hk hu hn h

theorem results_cell3 {P : Program} {fn : Func} {tmps : Array Value} {x y z : Tmp} {t : TypeId} {b : Addr} {v u s : Value} {W : World} (hr : fn.results = #[.cell x t, .tmp y, .tmp z]) (hx : tmps.getD x undef = .pointer (some b)) (hl : (loadVar t b).run P W = .ok v W) (hy : tmps.getD y undef = u) (hz : tmps.getD z undef = s) : (results fn tmps).run P W = .ok (.tuple #[v, u, s]) W := by
  have hx' : tmps[x]?.getD undef = .pointer (some b) := by simpa using hx
  have hy' : tmps[y]?.getD undef = u := by simpa using hy
  have hz' : tmps[z]?.getD undef = s := by simpa using hz
  simp [results, hr, hx', hy', hz', asAddr, hl]
/-- What a round of the exchanges leaves: a new block, a struct of two cells anew, two numbers exchanged. -/
theorem fin_shuffle {B b g n cap : Nat} {w w3 : World} {T : TypeId} {o : Obj} {zs : List Int} {u v u2 v2 : Value} (x y : Value) (i j : Nat)
    (hb : BufK .i64 3 B w3 (some ⟨g, 0, none⟩) n cap zs) (h1 : Two w3 b T u v) (h2 : Two w3 (b + 1) T u2 v2) (hw : Grew w w3) (hB : b + 1 < B) (hg : B ≤ g) (hb0 : w.heap.size ≤ b) :
    BufK .i64 3 B (((((w3.setCell ⟨b, 0, none⟩ x).setCell ⟨b, 1, none⟩ y).setCell ⟨g, i, none⟩ (.int .i64 (el zs j))).setCell ⟨g, j, none⟩ (.int .i64 (el zs i))).alloc o) (some ⟨g, 0, none⟩) n cap (swapL zs i j) ∧
    Two (((((w3.setCell ⟨b, 0, none⟩ x).setCell ⟨b, 1, none⟩ y).setCell ⟨g, i, none⟩ (.int .i64 (el zs j))).setCell ⟨g, j, none⟩ (.int .i64 (el zs i))).alloc o) b T x y ∧
    Two (((((w3.setCell ⟨b, 0, none⟩ x).setCell ⟨b, 1, none⟩ y).setCell ⟨g, i, none⟩ (.int .i64 (el zs j))).setCell ⟨g, j, none⟩ (.int .i64 (el zs i))).alloc o) (b + 1) T u2 v2 ∧
    Grew w (((((w3.setCell ⟨b, 0, none⟩ x).setCell ⟨b, 1, none⟩ y).setCell ⟨g, i, none⟩ (.int .i64 (el zs j))).setCell ⟨g, j, none⟩ (.int .i64 (el zs i))).alloc o) := by
  refine ⟨(((hb.aside (by omega) x y).set i (el zs j)).set j (el zs i)).grow ((Grew.refl _).alloc o), ?_, ?_, ?_⟩
  · exact (((h1.both x y).other ⟨g, i, none⟩ _ (by simp only; omega)).other ⟨g, j, none⟩ _ (by simp only; omega)).alloc o
  · exact ((((h2.other ⟨b, 0, none⟩ _ (by simp only; omega)).other ⟨b, 1, none⟩ _ (by simp only; omega)).other ⟨g, i, none⟩ _ (by simp only; omega)).other ⟨g, j, none⟩ _ (by simp only; omega)).alloc o
  · have h5 := (((hw.setCell (p := ⟨b, 0, none⟩) hb0 x).setCell (p := ⟨b, 1, none⟩) hb0 y).setCell (p := ⟨g, i, none⟩) (by simp only; omega) (.int .i64 (el zs j))).setCell (p := ⟨g, j, none⟩) (by simp only; omega) (.int .i64 (el zs i))
    exact h5.alloc h5.size o

set_option maxRecDepth 100000 in
set_option maxHeartbeats 4000000 in
theorem rshuffle_any {n k : Nat} (a : Option Addr) (c m : Nat) (zs : List Int) (w : World) (hz : zs.length = m) (h0 : 1 ≤ n) (hn : n ≤ 60) (hl : m ≤ 4000) (hu : U64 zs) (hk : k + (n - 1) ≤ m) (h : RdK .u64 w.heap.size w a zs) :
    Calls Try.prog 25 #[.int .i64 n, .agg #[.slice a m c, .int .i64 k]] w fun e w' => (∃ a' c', e = .returned (.tuple #[.agg #[.slice a m c, .int .i64 (k + (n - 1) : Nat)], .slice a' n c', .bool true]) ∧ BufK .i64 3 w.heap.size w' a' n c' (shufK n (drawsB zs k n) (n - 1))) ∧ Grew w w' := by
  have HND := Lib.hid (fun w => rneed_any n w h0 (by omega))
  obtain ⟨i0, hi, hz0, hz1, hz2⟩ := info_parts info_int12
  have hq1 : (n - 1) + 1 = n := by omega
  obtain ⟨q, hq⟩ : ∃ q, q = n - 1 := ⟨_, rfl⟩
  rw [← hq] at hk HND hq1 ⊢
  have HQ := Lib.hid hq
  clear hq
  go_enter Try.func25, Try.ntmps25
  have HG0 := Lib.hid (((Grew.refl w).alloc (.cells #[.slice a m c, .int .i64 k] 60)).alloc (.cells #[.slice none 0 0, .int .i64 0] 60))
  have HS0 := Lib.hid ((Two.new w 60 (.slice a m c) (.int .i64 k)).alloc (.cells #[.slice none 0 0, .int .i64 0] 60))
  have HR0 := Lib.hid (Two.new (w.alloc (.cells #[.slice a m c, .int .i64 k] 60)) 60 (.slice none 0 0) (.int .i64 0))
  have HX0 := Lib.hid h
  rw [World.size_alloc] at HR0
  clear h
  go_wp2_with fail
  generalize (w.alloc (.cells #[.slice a m c, .int .i64 k] 60)).alloc (.cells #[.slice none 0 0, .int .i64 0] 60) = V at *
  have d1 : (n : Int) ≤ 1048576 := by omega
  have d0 : ¬ (n : Int) < 0 := by omega
  have d2 : ¬ (1048576 : Int) < (n : Int) := by omega
  have d3 : IntKind.i64.wrap ((m : Int) - (k : Int)) = (m : Int) - (k : Int) := IntWalk.i64_in _ (by omega)
  have d4 : ¬ (m : Int) - (k : Int) < (q : Int) := by omega
  refine wp_region_held_drew (S := (fun W' => Grew V W' ∧ W'.cell? ⟨w.heap.size, 0, none⟩ = some (.slice a m c) ∧ W'.cell? ⟨w.heap.size, 1, none⟩ = some (.int .i64 k))) (by kernel_rfl) ⟨Grew.drew' (Grew.refl _), HS0.out.c0, HS0.out.c1⟩ (fun hHeld => ?_)
  refine wpAnyH_take (i := 0) (oi := { dst := some 14, op := Go.Op.move (Go.Operand.tmp 0), type := 3, pos := _, after := #[], guard := none }) (v := ?v1) rfl (by kernel_rfl) (by kernel_rfl) (by kernel_rfl) (fun _ _ _ h => h) (Or.inl ⟨by kernel_rfl, ?hy1⟩) (by assumption) ?_
  case hy1 => intro w hSw; (try dsimp only at hSw); first | (go_simp; done) | (go_simp; with_reducible rfl)
  (try simp only [Act.put, List.setIfInBounds_toArray, List.set_cons_zero, List.set_cons_succ])
  refine wpAnyH_take (i := 1) (oi := { dst := some 15, op := Go.Op.binOp Go.BinOp.lss 3 (Go.Operand.tmp 14) (Go.Operand.const (Go.Value.int Go.IntKind.i64 0)) 3, type := 4, pos := _, after := #[{ on := 0, ground := Go.Ground.data }], guard := none }) (v := ?v2) rfl (by kernel_rfl) (by kernel_rfl) (by kernel_rfl) (fun _ _ _ h => h) (Or.inl ⟨by kernel_rfl, ?hy2⟩) (by assumption) ?_
  case hy2 => intro w hSw; (try dsimp only at hSw); first | (go_simp; done) | (go_simp; with_reducible rfl)
  (try simp only [Act.put, List.setIfInBounds_toArray, List.set_cons_zero, List.set_cons_succ])
  refine wpAnyH_take (i := 2) (oi := { dst := some 16, op := Go.Op.move (Go.Operand.tmp 15), type := 4, pos := _, after := #[{ on := 1, ground := Go.Ground.data }], guard := none }) (v := ?v3) rfl (by kernel_rfl) (by kernel_rfl) (by kernel_rfl) (fun _ _ _ h => h) (Or.inl ⟨by kernel_rfl, ?hy3⟩) (by assumption) ?_
  case hy3 => intro w hSw; (try dsimp only at hSw); first | (go_simp; done) | (go_simp; with_reducible rfl)
  (try simp only [Act.put, List.setIfInBounds_toArray, List.set_cons_zero, List.set_cons_succ])
  refine wpAnyH_take (i := 3) (oi := { dst := some 17, op := Go.Op.move (Go.Operand.tmp 0), type := 3, pos := _, after := #[{ on := 2, ground := Go.Ground.guard }], guard := some (2, false) }) (v := ?v4) rfl (by kernel_rfl) (by kernel_rfl) (by kernel_rfl) (fun _ _ _ h => h) (Or.inl ⟨by kernel_rfl, ?hy4⟩) (by assumption) ?_
  case hy4 => intro w hSw; (try dsimp only at hSw); first | (go_simp; done) | (go_simp; with_reducible rfl)
  (try simp only [Act.put, List.setIfInBounds_toArray, List.set_cons_zero, List.set_cons_succ])
  refine wpAnyH_take (i := 4) (oi := { dst := some 18, op := Go.Op.binOp Go.BinOp.gtr 3 (Go.Operand.tmp 17) (Go.Operand.const (Go.Value.int Go.IntKind.i64 1048576)) 3, type := 4, pos := _, after := #[{ on := 3, ground := Go.Ground.data }, { on := 2, ground := Go.Ground.guard }], guard := some (2, false) }) (v := ?v5) rfl (by kernel_rfl) (by kernel_rfl) (by kernel_rfl) (fun _ _ _ h => h) (Or.inl ⟨by kernel_rfl, ?hy5⟩) (by assumption) ?_
  case hy5 => intro w hSw; (try dsimp only at hSw); first | (go_simp; done) | (go_simp; with_reducible rfl)
  (try simp only [Act.put, List.setIfInBounds_toArray, List.set_cons_zero, List.set_cons_succ])
  refine wpAnyH_take (i := 5) (oi := { dst := some 19, op := Go.Op.pick (Go.Operand.tmp 16) (Go.Operand.const (Go.Value.bool true)) (Go.Operand.tmp 18), type := 4, pos := _, after := #[{ on := 2, ground := Go.Ground.data }, { on := 4, ground := Go.Ground.data }], guard := none }) (v := ?v6) rfl (by kernel_rfl) (by kernel_rfl) (by kernel_rfl) (fun _ _ _ h => h) (Or.inl ⟨by kernel_rfl, ?hy6⟩) (by assumption) ?_
  case hy6 => intro w hSw; (try dsimp only at hSw); first | (go_simp; done) | (go_simp; with_reducible rfl)
  (try simp only [Act.put, List.setIfInBounds_toArray, List.set_cons_zero, List.set_cons_succ])
  refine wpAnyH_take (i := 6) (oi := { dst := some 20, op := Go.Op.move (Go.Operand.tmp 19), type := 4, pos := _, after := #[{ on := 5, ground := Go.Ground.data }, { on := 2, ground := Go.Ground.chain }], guard := none }) (v := ?v7) rfl (by kernel_rfl) (by kernel_rfl) (by kernel_rfl) (fun _ _ _ h => h) (Or.inl ⟨by kernel_rfl, ?hy7⟩) (by assumption) ?_
  case hy7 => intro w hSw; (try dsimp only at hSw); first | (go_simp; done) | (go_simp; with_reducible rfl)
  (try simp only [Act.put, List.setIfInBounds_toArray, List.set_cons_zero, List.set_cons_succ])
  refine wpAnyH_take (i := 7) (oi := { dst := some 21, op := Go.Op.fieldAddr 60 (Go.Operand.tmp 3) 0, type := 0, pos := _, after := #[{ on := 6, ground := Go.Ground.guard }], guard := some (6, false) }) (v := ?v8) rfl (by kernel_rfl) (by kernel_rfl) (by kernel_rfl) (fun _ _ _ h => h) (Or.inl ⟨by kernel_rfl, ?hy8⟩) (by assumption) ?_
  case hy8 => intro w hSw; (try dsimp only at hSw); first | (go_simp; done) | (go_simp; with_reducible rfl)
  (try simp only [Act.put, List.setIfInBounds_toArray, List.set_cons_zero, List.set_cons_succ])
  refine wpAnyH_take (i := 8) (oi := { dst := some 22, op := Go.Op.load 22 (Go.Operand.tmp 21), type := 22, pos := _, after := #[{ on := 7, ground := Go.Ground.data }, { on := 6, ground := Go.Ground.guard }], guard := some (6, false) }) (v := ?v9) rfl (by kernel_rfl) (by kernel_rfl) (by kernel_rfl) (fun _ _ _ h => h) (Or.inl ⟨by kernel_rfl, ?hy9⟩) (by assumption) ?_
  case hy9 => intro w hSw; (try dsimp only at hSw); first | (go_simp; done) | (go_simp; with_reducible rfl)
  (try simp only [Act.put, List.setIfInBounds_toArray, List.set_cons_zero, List.set_cons_succ])
  refine wpAnyH_take (i := 9) (oi := { dst := some 23, op := Go.Op.call { callee := Go.Callee.builtin Go.Builtin.len, args := #[Go.Operand.tmp 22], argTypes := #[22] }, type := 3, pos := _, after := #[{ on := 8, ground := Go.Ground.data }, { on := 6, ground := Go.Ground.guard }], guard := some (6, false) }) (v := ?v10) rfl (by kernel_rfl) (by kernel_rfl) (by kernel_rfl) (fun _ _ _ h => h) (Or.inl ⟨by kernel_rfl, ?hy10⟩) (by assumption) ?_
  case hy10 => intro w hSw; (try dsimp only at hSw); first | (go_simp; done) | (go_simp; with_reducible rfl)
  (try simp only [Act.put, List.setIfInBounds_toArray, List.set_cons_zero, List.set_cons_succ])
  refine wpAnyH_take (i := 10) (oi := { dst := some 24, op := Go.Op.fieldAddr 60 (Go.Operand.tmp 3) 1, type := 0, pos := _, after := #[{ on := 6, ground := Go.Ground.guard }], guard := some (6, false) }) (v := ?v11) rfl (by kernel_rfl) (by kernel_rfl) (by kernel_rfl) (fun _ _ _ h => h) (Or.inl ⟨by kernel_rfl, ?hy11⟩) (by assumption) ?_
  case hy11 => intro w hSw; (try dsimp only at hSw); first | (go_simp; done) | (go_simp; with_reducible rfl)
  (try simp only [Act.put, List.setIfInBounds_toArray, List.set_cons_zero, List.set_cons_succ])
  refine wpAnyH_take (i := 11) (oi := { dst := some 25, op := Go.Op.load 3 (Go.Operand.tmp 24), type := 3, pos := _, after := #[{ on := 10, ground := Go.Ground.data }, { on := 6, ground := Go.Ground.guard }], guard := some (6, false) }) (v := ?v12) rfl (by kernel_rfl) (by kernel_rfl) (by kernel_rfl) (fun _ _ _ h => h) (Or.inl ⟨by kernel_rfl, ?hy12⟩) (by assumption) ?_
  case hy12 => intro w hSw; (try dsimp only at hSw); first | (go_simp; done) | (go_simp; with_reducible rfl)
  (try simp only [Act.put, List.setIfInBounds_toArray, List.set_cons_zero, List.set_cons_succ])
  refine wpAnyH_take (i := 12) (oi := { dst := some 26, op := Go.Op.binOp Go.BinOp.sub 3 (Go.Operand.tmp 23) (Go.Operand.tmp 25) 3, type := 3, pos := _, after := #[{ on := 9, ground := Go.Ground.data }, { on := 11, ground := Go.Ground.data }, { on := 6, ground := Go.Ground.guard }], guard := some (6, false) }) (v := ?v13) rfl (by kernel_rfl) (by kernel_rfl) (by kernel_rfl) (fun _ _ _ h => h) (Or.inl ⟨by kernel_rfl, ?hy13⟩) (by assumption) ?_
  case hy13 => intro w hSw; (try dsimp only at hSw); first | (go_simp; done) | (go_simp; with_reducible rfl)
  (try simp only [Act.put, List.setIfInBounds_toArray, List.set_cons_zero, List.set_cons_succ])
  refine wpAnyH_take (i := 13) (oi := { dst := some 27, op := Go.Op.move (Go.Operand.tmp 0), type := 3, pos := _, after := #[{ on := 6, ground := Go.Ground.guard }], guard := some (6, false) }) (v := ?v14) rfl (by kernel_rfl) (by kernel_rfl) (by kernel_rfl) (fun _ _ _ h => h) (Or.inl ⟨by kernel_rfl, ?hy14⟩) (by assumption) ?_
  case hy14 => intro w hSw; (try dsimp only at hSw); first | (go_simp; done) | (go_simp; with_reducible rfl)
  (try simp only [Act.put, List.setIfInBounds_toArray, List.set_cons_zero, List.set_cons_succ])
  refine wpAnyH_ready (rs := [14]) (by kernel_rfl) (by simp) ?_
  refine AllReadyH.cons (o := { dst := some 28, op := Go.Op.call { callee := Go.Callee.value (Go.Operand.func 24), args := #[Go.Operand.tmp 27], argTypes := #[3] }, type := 3, pos := _, after := #[{ on := 13, ground := Go.Ground.data }, { on := 6, ground := Go.Ground.chain }, { on := 6, ground := Go.Ground.guard }], guard := some (6, false) }) rfl (fun K hK => ?_) AllReadyH.nil
  go_simp
  (go_at_call 24; refine (HND.out _).mono ?_; rintro e w2 ⟨rfl, rfl⟩)
  (try go_wp2_with fail)
  refine hK.out _ _ ?hS16 (fun hHeld => ?_)
  case hS16 => (try dsimp only); assumption
  clear hK K
  (try simp only [Act.put, List.setIfInBounds_toArray, List.set_cons_zero, List.set_cons_succ])
  refine wpAnyH_take (i := 15) (oi := { dst := some 29, op := Go.Op.binOp Go.BinOp.lss 3 (Go.Operand.tmp 26) (Go.Operand.tmp 28) 3, type := 4, pos := _, after := #[{ on := 12, ground := Go.Ground.data }, { on := 14, ground := Go.Ground.data }, { on := 6, ground := Go.Ground.guard }], guard := some (6, false) }) (v := ?v17) rfl (by kernel_rfl) (by kernel_rfl) (by kernel_rfl) (fun _ _ _ h => h) (Or.inl ⟨by kernel_rfl, ?hy17⟩) (by assumption) ?_
  case hy17 => intro w hSw; (try dsimp only at hSw); first | (go_simp; done) | (go_simp; with_reducible rfl)
  (try simp only [Act.put, List.setIfInBounds_toArray, List.set_cons_zero, List.set_cons_succ])
  refine wpAnyH_take (i := 16) (oi := { dst := some 30, op := Go.Op.pick (Go.Operand.tmp 20) (Go.Operand.const (Go.Value.bool true)) (Go.Operand.tmp 29), type := 4, pos := _, after := #[{ on := 6, ground := Go.Ground.data }, { on := 15, ground := Go.Ground.data }], guard := none }) (v := ?v18) rfl (by kernel_rfl) (by kernel_rfl) (by kernel_rfl) (fun _ _ _ h => h) (Or.inl ⟨by kernel_rfl, ?hy18⟩) (by assumption) ?_
  case hy18 => intro w hSw; (try dsimp only at hSw); first | (go_simp; done) | (go_simp; with_reducible rfl)
  (try simp only [Act.put, List.setIfInBounds_toArray, List.set_cons_zero, List.set_cons_succ])
  refine wpAnyH_done (by kernel_rfl) ?_ _
  have HGV := Lib.hid (HG0.out.trans hHeld.1)
  obtain ⟨U, hU⟩ : ∃ U, U = V.drew := ⟨_, rfl⟩
  have HGU := Lib.hid (show Grew V U from by rw [hU]; exact hHeld.1)
  have HSU := Lib.hid (HS0.out.grow HGU.out)
  have HRU := Lib.hid (HR0.out.grow HGU.out)
  have HWU := Lib.hid (HG0.out.trans HGU.out)
  rw [← hU]
  clear hHeld HGV HS0 HR0 HG0 HGU HND hU d1 d0 d2 d3 d4
  go_wp2
  go_loopw [7, 8] (fun v i wr => ∃ j : Nat, j ≤ n ∧ i = .int .i64 j ∧ Hid (wr.ownsRow U.heap.size 3 1 v j ((nums j).map (Value.int .i64))) ∧ Hid (Grew U wr)) (fun _ i _ => n - (intOf i).toNat)
  case atStart => exact ⟨0, Nat.zero_le _, rfl, Lib.hid (World.ownsRow_nil _ _ _ _), Lib.hid (Grew.refl _)⟩
  case round =>
    obtain ⟨j, hj, rfl, HO, HG⟩ := hrel
    by_cases hlt : j < n
    · have hsz := HG.out.size
      go_wp2_with (at_builtin; refine wpList_append_own _ rfl _ _ 38 rfl U.heap.size 3 i0 (.int .i64 0) 1 8 Try.underlying38 hi hz0 hz1 hz2 rfl (by decide) _ j _ rfl (HO.out.alloc _) ⟨wr.heap.size, 0, none⟩ 1 1 [.int .i64 j] rfl ?qc1 ?qc2 ?qc3 ?qc4 ?qc5 ?qc6 ?_)
      case qc1 => rfl
      case qc2 => exact cell_one_at _ _ _
      case qc3 => intro u hu; simp only [List.mem_singleton] at hu; subst hu; rfl
      case qc4 => unfold maxLen; omega
      case qc5 => omega
      case qc6 => simp; omega
      intro v' w2 hown hgrow hnil
      have HO2 : Hid (w2.ownsRow U.heap.size 3 1 v' (j + 1) ((nums (j + 1)).map (Value.int .i64))) := Lib.hid (by rw [nums_snoc, List.map_append]; exact hown)
      have HG2 : Hid (Grew U w2) := Lib.hid (Below.grown (HG.out.alloc _) hgrow (by simp; omega) (fun b hb => (World.ownsRow.lt HO.out b hb).1))
      clear hown hgrow hnil
      go_wp2_with fail
      go_roundw
      case measure => simp [intOf]; omega
      case rel => exact ⟨j + 1, by omega, by go_num, HO2, HG2⟩
    · obtain rfl : j = n := by omega
      rename World => U2
      obtain ⟨a2, c2, rfl, hbf⟩ := own_ints HO.out
      obtain ⟨g, rfl, hg1, hg2, _⟩ := hbf.at (show 0 < j by omega)
      have HB2 := Lib.hid (show BufK .i64 3 U.heap.size U2 (some ⟨g, 0, none⟩) j c2 (shufK j (drawsB zs k j) 0) from hbf)
      have HS2 := Lib.hid (HSU.out.grow HG.out)
      have HR2 := Lib.hid (HRU.out.grow HG.out)
      have HW2 := Lib.hid (HWU.out.trans HG.out)
      have hsU := HSU.out.lt
      have hrU := HRU.out.lt
      have hIn : ∀ i, i < q → ∃ r : Nat, r < j ∧ el (drawsB zs k j) i = r := fun i hi => drawsB_in (by omega)
      have HIn := Lib.hid hIn
      have HAt : Hid (∀ i, i < q → el (drawsB zs k j) i = el zs (k + i) % ((q : Int) - (i : Int) + 1)) := Lib.hid (fun i hi => by rw [drawsB_at (by omega)]; congr 1; omega)
      obtain ⟨js, hjs⟩ : ∃ js, js = drawsB zs k j := ⟨_, rfl⟩
      rw [← hjs] at HB2 HIn HAt
      have HJS := Lib.hid hjs
      clear hjs hbf hIn HO HSU HRU HWU
      go_wp2
      go_loopw [9] (fun i wr => ∃ r : Nat, r ≤ q ∧ i = .int .i64 ((q : Int) - (r : Int)) ∧ Hid (BufK .i64 3 U.heap.size wr (some ⟨g, 0, none⟩) j c2 (shufK j js r)) ∧ Hid (Two wr w.heap.size 60 (.slice a m c) (.int .i64 (k + r : Nat))) ∧ Hid (Two wr (w.heap.size + 1) 60 (.slice none 0 0) (.int .i64 0)) ∧ Hid (Grew w wr)) (fun i _ => (intOf i).toNat)
      case atStart => exact ⟨0, Nat.zero_le _, by go_num, HB2, HS2, HR2, HW2⟩
      case round =>
        obtain ⟨r, hr, rfl, HB, HS, HR, HW⟩ := hrel
        by_cases hlt2 : r < q
        · obtain ⟨x, hx, hjx⟩ := HIn.out r hlt2
          have hel := HAt.out r hlt2
          have hkm : k + r < zs.length := by omega
          have hN := rnext_n a c (k + r) zs ((q : Int) - (r : Int) + 1) wr hz (by omega) (by omega) hu (by omega) (HX0.out.grow HW.out)
          have hok := okN_yes (zs := zs) (k := k + r) (n := (q : Int) - (r : Int) + 1) (by omega) hkm
          rw [show outN zs (k + r) ((q : Int) - (r : Int) + 1) = (x : Int) from by rw [outN, hok, if_pos rfl, ← hel, hjx], show nxN zs (k + r) ((q : Int) - (r : Int) + 1) = k + (r + 1) from by rw [nxN, hok, if_pos rfl]; omega, hok] at hN
          obtain ⟨u1, hu1⟩ : ∃ u, u = k + (r + 1) := ⟨_, rfl⟩
          rw [← hu1] at hN
          have HN := Lib.hid hN
          have hsh : swapL (shufK j js r) (j - 1 - r) x = shufK j js (r + 1) := by rw [shufK, hjx, Int.toNat_natCast]
          have HSh := Lib.hid hsh
          have C0 := HS.out.c0
          have C1 := HS.out.c1
          have hsl := HS.out.lt
          clear hN hok hel hsh hjx hkm
          go_wp2_with fail
          refine HN.out.mono ?_
          rintro e w3 ⟨rfl, g3⟩
          have HB3 := Lib.hid (HB.out.grow g3)
          have HS3 := Lib.hid (HS.out.grow g3)
          have HR3 := Lib.hid (HR.out.grow g3)
          have HW3 := Lib.hid (HW.out.trans g3)
          clear C0 C1 g3 HB HS HR HW HN hsl
          have C0 := HS3.out.c0
          have C1 := HS3.out.c1
          have F0 := HS3.out.f0
          have F1 := HS3.out.f1
          have hsl := HS3.out.lt
          have hiq : (q : Int) - (r : Int) = ((j - 1 - r : Nat) : Int) := by omega
          obtain ⟨i, hi⟩ : ∃ i, i = j - 1 - r := ⟨_, rfl⟩
          rw [← hi] at hiq HSh
          have hij : i < j := by omega
          obtain ⟨g', e1, _, hgl, ci, fi⟩ := HB3.out.at hij
          obtain rfl : g' = g := by injection e1 with e1; injection e1 with e1; exact e1.symm
          obtain ⟨g'', e2, _, _, cx, fx⟩ := HB3.out.at hx
          obtain rfl : g'' = g' := by injection e2 with e2; injection e2 with e2; exact e2.symm
          clear e1 e2
          rw [hiq]
          have hi' : (i : Int) < (j : Int) := by omega
          have hx' : (x : Int) < (j : Int) := by omega
          have hi0 : (0 : Int) < (i : Int) := by omega
          have hgU : w.heap.size ≠ g'' := by omega
          have hgU2 : w.heap.size + 1 ≠ g'' := by omega
          have HFin := Lib.hid (fin_shuffle (b := w.heap.size) (g := g'') (T := 60) (o := .cells #[.slice a m c, .int .i64 u1] 60) (.slice a m c) (.int .i64 u1) i x HB3.out HS3.out HR3.out HW3.out (by omega) (by omega) (Nat.le_refl _))
          rw [HSh.out] at HFin
          have HU1 := Lib.hid hu1
          clear hu1
          clear HB3 HS3 HR3 HW3 HSh
          have hgV : g'' ≠ w.heap.size := by omega
          have HIQ := Lib.hid hiq
          clear hi hiq
          generalize el (shufK j js r) i = zi at *
          generalize el (shufK j js r) x = zx at *
          have cx2 : ((w3.setCell ⟨w.heap.size, 0, none⟩ (.slice a m c)).setCell ⟨w.heap.size, 1, none⟩ (.int .i64 u1)).cell? ⟨g'', x, none⟩ = some (.int .i64 zx) := by
            rw [World.cell?_setCell_other _ _ _ _ (by intro e; injection e with e; omega), World.cell?_setCell_other _ _ _ _ (by intro e; injection e with e; omega)]
            exact cx
          obtain ⟨v', hv'⟩ := cell_after (p := ⟨g'', i, none⟩) (x := .int .i64 zx) cx2
          clear cx2
          go_wp2
          go_roundw
          case rel => exact ⟨r + 1, by omega, by rw [show (q : Int) - ((r + 1 : Nat) : Int) = (i : Int) - 1 by have := HIQ.out; omega], Lib.hid HFin.out.1, Lib.hid (by rw [← HU1.out]; exact HFin.out.2.1), Lib.hid HFin.out.2.2.1, Lib.hid HFin.out.2.2.2⟩
          case measure => have := HIQ.out; simp [intOf]; omega
        · obtain rfl : r = q := by omega
          have C0 := HS.out.c0
          have C1 := HS.out.c1
          have hsl := HS.out.lt
          have D0 := HR.out.c0
          have D1 := HR.out.c1
          have G0 := HR.out.f0
          have G1 := HR.out.f1
          have hrl := HR.out.lt
          go_wp2
          have HF := (HR.out.set0 (.slice a m c)).set1 (.int .i64 ((k : Int) + (r : Int)))
          have hld := run_loadVar_row (P := Try.prog) _ (w.heap.size + 1) 60 60 _ (0, 0) _ HF Try.underlying60 rfl (by kernel_rfl)
          refine bodyPost_ret (v := .tuple #[.agg #[.slice a m c, .int .i64 ((k : Int) + (r : Int))], .slice (some ⟨g, 0, none⟩) j c2, .bool true]) ?hv rfl ?hp
          case hv => exact results_cell3 Try.results25 rfl hld rfl rfl
          case hp =>
            refine ⟨⟨_, _, rfl, ?_⟩, (HW.out.setCell (p := ⟨w.heap.size + 1, 0, none⟩) (by simp only; omega) _).setCell (p := ⟨w.heap.size + 1, 1, none⟩) (by simp only; omega) _⟩
            rw [← HJS.out]
            exact (HB.out.aside hrU _ _).mono (by omega)
end Go.Proofs.Ytdcpankbolfmiaa
