/- Name of a shape; number and Name of the reference. Conditions: the sizes are right; the table of powers of ten is laid. -/
import Derived.Test.YtfgadjpdpocdbaaDoorHh
import Derived.Test.YtfgadjpdpocdbaaDoorHi
import Derived.Deep.RegionHeld3
namespace Go.Proofs.YtfgadjpdpocdbaaDoor
open Go.RowKit Go.Shelf

theorem nmL_join_b (k r : Nat) : nmL k r (-1) = [98] ++ Lib.join [Lib.decDigits k, Lib.decDigits r] [46] := by
  rw [nmL_b, Lib.join_cons]
  simp [Lib.joinTail]
theorem nmL_join_w (k r c : Nat) : nmL k r (c : Int) = [119] ++ Lib.join [Lib.decDigits k, Lib.decDigits r, Lib.decDigits c] [46] := by
  rw [nmL_w (by omega), Lib.join_cons, Int.toNat_natCast]
  simp [Lib.joinTail]
theorem rdK_lit2 (w : World) (x y : Int) (t : TypeId) : RdK .i64 (w.alloc (.cells #[.int .i64 x, .int .i64 y] t)).heap.size (w.alloc (.cells #[.int .i64 x, .int .i64 y] t)) (some ⟨w.heap.size, 0, none⟩) [x, y] := by
  refine .inr ⟨w.heap.size, 0, rfl, by simp, fun j hj => ?_⟩
  have h : (w.alloc (.cells #[.int .i64 x, .int .i64 y] t)).heap[w.heap.size]? = some (.cells #[.int .i64 x, .int .i64 y] t) := (MapKept.heap_alloc w _).1
  unfold World.cell?
  rw [h]
  match j, hj with
  | 0, _ => rfl
  | 1, _ => rfl
theorem rdK_lit3 (w : World) (x y z : Int) (t : TypeId) : RdK .i64 (w.alloc (.cells #[.int .i64 x, .int .i64 y, .int .i64 z] t)).heap.size (w.alloc (.cells #[.int .i64 x, .int .i64 y, .int .i64 z] t)) (some ⟨w.heap.size, 0, none⟩) [x, y, z] := by
  refine .inr ⟨w.heap.size, 0, rfl, by simp, fun j hj => ?_⟩
  have h : (w.alloc (.cells #[.int .i64 x, .int .i64 y, .int .i64 z] t)).heap[w.heap.size]? = some (.cells #[.int .i64 x, .int .i64 y, .int .i64 z] t) := (MapKept.heap_alloc w _).1
  unfold World.cell?
  rw [h]
  match j, hj with
  | 0, _ => rfl
  | 1, _ => rfl
  | 2, _ => rfl

theorem name_nil (i : Int) (w : World) : Calls Tryd.prog 24 #[.pointer none, .int .i64 i] w fun e w' => e = .returned (.string ⟨#[]⟩) ∧ w = w' := by
  go_enter Tryd.func24, Tryd.ntmps24
  go_wp2_with fail
  refine (place_nil i _).mono ?_
  rintro e w1 ⟨rfl, rfl⟩
  go_wp2
  go_ret
  exact ⟨rfl, rfl⟩
theorem name_no {D b : Nat} {i : Int} {zs : List Int} {w : World} (hR : Right zs) (h : Shp D w b zs) (ho : i < 0 ∨ cnt zs ≤ i) : Calls Tryd.prog 24 #[.pointer (some ⟨b, 0, none⟩), .int .i64 i] w fun e w' => e = .returned (.string ⟨#[]⟩) ∧ Grew w w' := by
  have HS := Lib.hid h
  have HO := Lib.hid ho
  clear h ho
  go_enter Tryd.func24, Tryd.ntmps24
  go_wp2_with fail
  refine (place_no hR HS.out HO.out).mono ?_
  rintro e w1 ⟨rfl, g1⟩
  go_wp2
  go_ret
  exact ⟨rfl, g1⟩
set_option maxHeartbeats 2000000 in
theorem name_at {D b k r : Nat} {i c : Int} {zs : List Int} {w : World} (hR : Right zs) (h : Shp D w b zs) (ha : At zs i k r c) (hT : Lib.TabIs Tryd.prog w "internal/strconv.uint64pow10" .u64 Lib.pow10Tab) :
    Calls Tryd.prog 24 #[.pointer (some ⟨b, 0, none⟩), .int .i64 i] w fun e w' => e = .returned (.string ⟨(nmL k r c).toArray⟩) ∧ Grew w w' := by
  have HS := Lib.hid h
  have hlim := at_lim hR ha
  by_cases hc : 0 ≤ c
  · obtain ⟨cc, rfl⟩ := Int.eq_ofNat_of_zero_le hc
    have HA := Lib.hid ha
    have HL := Lib.hid (nmL_join_w k r cc)
    have hsm : ∀ j, j < [k, r, cc].length → nv [k, r, cc] j ≤ 1048576 := fun j hj => by
      match j, hj with
      | 0, _ => show k ≤ _; omega
      | 1, _ => show r ≤ _; omega
      | 2, _ => show cc ≤ _; omega
    have HM := Lib.hid hsm
    clear h ha hsm
    go_enter Tryd.func24, Tryd.ntmps24
    go_wp2_with fail
    refine (place_w hR HS.out HA.out hc).mono ?_
    rintro e w1 ⟨rfl, g1⟩
    have HT1 := Lib.hid (tab_below hT (Nat.le_refl _) (g1.alloc (.cells #[.int .i64 k, .int .i64 r, .int .i64 cc] 3)))
    have HG1 := Lib.hid (g1.alloc (.cells #[.int .i64 k, .int .i64 r, .int .i64 cc] 3))
    clear g1
    go_wp2_with fail
    refine (join_any [119] _ 3 [k, r, cc] _ (by simp) (by simp) HM.out (by simp) (rdK_lit3 w1 k r cc _) HT1.out).mono ?_
    rintro e w2 ⟨rfl, g2⟩
    go_wp2_with fail
    go_ret
    exact ⟨ret_str (by rw [HL.out]; rfl), HG1.out.trans g2⟩
  · obtain rfl : c = -1 := by
      have := at_low ha
      omega
    have HA := Lib.hid ha
    have HL := Lib.hid (nmL_join_b k r)
    have hsm : ∀ j, j < [k, r].length → nv [k, r] j ≤ 1048576 := fun j hj => by
      match j, hj with
      | 0, _ => show k ≤ _; omega
      | 1, _ => show r ≤ _; omega
    have HM := Lib.hid hsm
    clear h ha hsm
    go_enter Tryd.func24, Tryd.ntmps24
    go_wp2_with fail
    refine (place_b hR HS.out HA.out).mono ?_
    rintro e w1 ⟨rfl, g1⟩
    have HT1 := Lib.hid (tab_below hT (Nat.le_refl _) (g1.alloc (.cells #[.int .i64 k, .int .i64 r] 3)))
    have HG1 := Lib.hid (g1.alloc (.cells #[.int .i64 k, .int .i64 r] 3))
    clear g1
    go_wp2_with fail
    refine (join_any [98] _ 2 [k, r] _ (by simp) (by simp) HM.out (by simp) (rdK_lit2 w1 k r _) HT1.out).mono ?_
    rintro e w2 ⟨rfl, g2⟩
    go_wp2_with fail
    go_ret
    exact ⟨ret_str (by rw [HL.out]; rfl), HG1.out.trans g2⟩

theorem number_any (n : Nat) (hn : n ≤ 1048576) (w : World) : Calls Tryd.prog 37 #[.int .i64 n] w fun e w' => e = .returned (.string ⟨(Lib.decDigits n).toArray⟩) ∧ Grew w w' := by
  have hr : IntKind.u64.wrap (n : Int) = (n : Int) := by rw [IntKind.wrap_u64]; omega
  go_enter Tryd.func37, Tryd.ntmps37
  go_wp2_with fail
  refine (unsigned_any n (by omega) _).mono ?_
  rintro e w1 ⟨rfl, g1⟩
  go_wp2_with fail
  go_ret
  exact ⟨rfl, g1⟩
theorem keep_g3 {V W W' : World} {a b c : Addr} {x y z : Value} (k : Grew W W') (h : Grew V W ∧ W.cell? a = some x ∧ W.cell? b = some y ∧ W.cell? c = some z) :
    Grew V W' ∧ W'.cell? a = some x ∧ W'.cell? b = some y ∧ W'.cell? c = some z := by
  have key : ∀ (p : Addr) (v : Value), W.cell? p = some v → W'.cell? p = some v := fun p v h => (Below.cell k (World.block_lt_of_cell? W p h)).trans h
  exact ⟨h.1.trans k, key _ _ h.2.1, key _ _ h.2.2.1, key _ _ h.2.2.2⟩
theorem str_add (a b : List UInt8) : (⟨a.toArray⟩ : ByteArray) ++ ⟨b.toArray⟩ = ⟨(a ++ b).toArray⟩ := str_append a b
set_option maxHeartbeats 2000000 in
theorem rname_w (k r c : Nat) (hk : k ≤ 1048576) (hr : r ≤ 1048576) (hc : c ≤ 1048576) (w : World) :
    Calls Tryd.prog 26 #[.agg #[.int .i64 k, .int .i64 r, .int .i64 c]] w fun e w' => e = .returned (.string ⟨(nmL k r (c : Int)).toArray⟩) ∧ Grew w w' := by
  have HL := Lib.hid (nmL_w (k := k) (r := r) (c := (c : Int)) (by omega))
  have hl1 := dec_len (u := k) (k := 7) (by omega) (by omega)
  have hl2 := dec_len (u := r) (k := 7) (by omega) (by omega)
  have hl3 := dec_len (u := c) (k := 7) (by omega) (by omega)
  have q1 : ¬ 9223372036854775807 < 1 + (Lib.decDigits k).length := by omega
  have q2 : ¬ 9223372036854775807 < 1 + (Lib.decDigits k).length + 1 := by omega
  have q3 : ¬ 9223372036854775807 < 1 + (Lib.decDigits k).length + 1 + (Lib.decDigits r).length := by omega
  have q4 : ¬ 9223372036854775807 < 1 + (Lib.decDigits k).length + 1 + (Lib.decDigits r).length + 1 := by omega
  have q5 : ¬ 9223372036854775807 < 1 + (Lib.decDigits k).length + 1 + (Lib.decDigits r).length + 1 + (Lib.decDigits c).length := by omega
  have HT := Lib.hid (Three.new w 49 (.int .i64 k) (.int .i64 r) (.int .i64 c))
  have HG : Hid (Grew w (w.alloc (.cells #[.int .i64 k, .int .i64 r, .int .i64 c] 49))) := Lib.hid ((Grew.refl w).alloc _)
  go_enter Tryd.func26, Tryd.ntmps26
  go_wp2_with fail
  have c0 := HT.out.c0
  have c1 := HT.out.c1
  have c2 := HT.out.c2
  generalize w.alloc (.cells #[.int .i64 k, .int .i64 r, .int .i64 c] 49) = W0 at *
  go_region_held3 (fun W' => Grew W0 W' ∧ W'.cell? ⟨w.heap.size, 0, none⟩ = some (.int .i64 k) ∧ W'.cell? ⟨w.heap.size, 1, none⟩ = some (.int .i64 r) ∧ W'.cell? ⟨w.heap.size, 2, none⟩ = some (.int .i64 c))
    (first
      | exact ⟨Grew.drew' (Grew.refl _), c0, c1, c2⟩
      | exact keep_g3 (by assumption) (by assumption)
      | assumption)
    (first
      | (go_at_call 37; refine (number_any _ (by omega) _).mono ?_; rintro e w2 ⟨rfl, g2⟩))
  all_goals go_wp2
  all_goals
    rename_i hH
    go_ret
    exact ⟨ret_str (by rw [HL.out]; apply ByteArray.ext; simp), HG.out.trans hH.1⟩
set_option maxHeartbeats 2000000 in
theorem rname_b (k r : Nat) (hk : k ≤ 1048576) (hr : r ≤ 1048576) (w : World) :
    Calls Tryd.prog 26 #[.agg #[.int .i64 k, .int .i64 r, .int .i64 (-1)]] w fun e w' => e = .returned (.string ⟨(nmL k r (-1)).toArray⟩) ∧ Grew w w' := by
  have HL := Lib.hid (nmL_b k r)
  have hl1 := dec_len (u := k) (k := 7) (by omega) (by omega)
  have hl2 := dec_len (u := r) (k := 7) (by omega) (by omega)
  have q1 : ¬ 9223372036854775807 < 1 + (Lib.decDigits k).length := by omega
  have q2 : ¬ 9223372036854775807 < 1 + (Lib.decDigits k).length + 1 := by omega
  have q3 : ¬ 9223372036854775807 < 1 + (Lib.decDigits k).length + 1 + (Lib.decDigits r).length := by omega
  have HT := Lib.hid (Three.new w 49 (.int .i64 k) (.int .i64 r) (.int .i64 (-1)))
  have HG : Hid (Grew w (w.alloc (.cells #[.int .i64 k, .int .i64 r, .int .i64 (-1)] 49))) := Lib.hid ((Grew.refl w).alloc _)
  go_enter Tryd.func26, Tryd.ntmps26
  go_wp2_with fail
  have c0 := HT.out.c0
  have c1 := HT.out.c1
  have c2 := HT.out.c2
  generalize w.alloc (.cells #[.int .i64 k, .int .i64 r, .int .i64 (-1)] 49) = W0 at *
  go_region_held3 (fun W' => Grew W0 W' ∧ W'.cell? ⟨w.heap.size, 0, none⟩ = some (.int .i64 k) ∧ W'.cell? ⟨w.heap.size, 1, none⟩ = some (.int .i64 r) ∧ W'.cell? ⟨w.heap.size, 2, none⟩ = some (.int .i64 (-1)))
    (first
      | exact ⟨Grew.drew' (Grew.refl _), c0, c1, c2⟩
      | exact keep_g3 (by assumption) (by assumption)
      | assumption)
    (first
      | (go_at_call 37; refine (number_any _ (by omega) _).mono ?_; rintro e w2 ⟨rfl, g2⟩))
  all_goals go_wp2
  all_goals
    rename_i hH
    go_ret
    exact ⟨ret_str (by rw [HL.out]; apply ByteArray.ext; simp), HG.out.trans hH.1⟩
theorem rname_at {k r : Nat} {c : Int} (hk : k ≤ 1048576) (hr : r ≤ 1048576) (h0 : -1 ≤ c) (h1 : c ≤ 1048576) (w : World) :
    Calls Tryd.prog 26 #[.agg #[.int .i64 k, .int .i64 r, .int .i64 c]] w fun e w' => e = .returned (.string ⟨(nmL k r c).toArray⟩) ∧ Grew w w' := by
  by_cases h : c = -1
  · subst h; exact rname_b k r hk hr w
  · obtain ⟨cc, rfl⟩ := Int.eq_ofNat_of_zero_le (show 0 ≤ c by omega)
    exact rname_w k r cc hk hr (by omega) w
end Go.Proofs.YtfgadjpdpocdbaaDoor
