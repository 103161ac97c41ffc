/- strconv.FormatUint at base 10 and strings.Cut at one byte, at this program: the decimal digits of a uint64; what lies ahead of the first point and behind it. Conditions: the table of powers of ten holds its numbers. -/
import Derived.Test.YthcahpgandappaaGreatDoorYa
import Derived.Lib.ItoaMem
import Derived.Lib.Walk
import Derived.Lib.Slices
import Derived.Lib.CutLaws
import Derived.Deep.Draws
import Derived.Laws.Strings3
import Derived.BigCall
import Derived.BigGuard
namespace Go.Proofs.YthcahpgandappaaGreatDoor
open Go.RowKit Go.Sort

theorem holds_zero0 (w : World) (T : TypeId) (nd : Nat) (hs : nd ≤ 24) : Holds (fun (b : UInt8) => Value.int .u8 (b.toNat : Int)) (w.alloc (.cells Lib.zeros24 T)) w.heap.size 0 (Array.replicate nd (0 : UInt8)) := fun j hj => by
  have hj' : j < nd := by simpa using hj
  refine ⟨?_, World.frozen?_alloc_new _ _ _ _⟩
  rw [World.cell?_alloc_new, Lib.zeros24_at _ (by omega), getElem!_pos _ j hj]
  simp
theorem fin_zero (w : World) (o : Obj) (dk : Array UInt8) (k : Nat) : Grew w ((putRow (fun (b : UInt8) => Value.int .u8 (b.toNat : Int)) (w.alloc o) w.heap.size 0 dk).drewN k) := by
  rw [alloc_eq_grow]
  obtain ⟨os', _, e⟩ := putRow_grow_new (fun (b : UInt8) => Value.int .u8 (b.toNat : Int)) w #[o] w.heap.size 0 dk (Nat.le_refl _)
  rw [e]
  refine Grew.drewN ?_ k
  exact ⟨rfl, rfl, rfl, by simp [grow], fun i hi => by simp [grow, Array.getElem?_append, hi]⟩

set_option maxHeartbeats 4000000 in
set_option maxRecDepth 100000 in
theorem iformat_uint (u : Nat) (hu : u < 18446744073709551616) (w : World) (htab : Lib.TabIs Tryz.prog w "internal/strconv.uint64pow10" .u64 Lib.pow10Tab) :
    Calls Tryz.prog 96 #[.int .u64 u, .int .i64 10] w fun e w' => e = .returned (.string ⟨(Lib.decDigits u).toArray⟩) ∧ Grew w w' := by
  by_cases hs : u < 100
  · have hw : wrap64 (u : Int) = u := wrap64_id (by omega) (by omega)
    go_enter Tryz.func96, Tryz.ntmps96
    go_wp2_with (go_at_call 110; refine (Tryz.internal_strconv_small u hs _).mono ?_; rintro e w' ⟨rfl, rfl⟩)
    go_ret
    exact ⟨rfl, Grew.refl _⟩
  · have hu1 : 1 ≤ u := by omega
    have hnd20 : Lib.nDigits u ≤ 20 := by have := Lib.numDigits_eq u hu1 hu; split at this <;> omega
    have hb3 : Lib.nDigits u ≤ 24 := by omega
    have hal : Tryz.prog.arrayLen 131 = 24 := by simp [Program.arrayLen, Tryz.underlying131]
    have hsl1 : ∀ W, (Instr.sliceAt 131 (.pointer (some ⟨w.heap.size, 0, none⟩)) none (some (.int .i64 (Lib.nDigits u : Int))) none).run Tryz.prog W = .ok (.slice (some ⟨w.heap.size, 0, none⟩) (Lib.nDigits u) 24) W := fun W => by
      rw [run_sliceAt_array_h W 131 ⟨w.heap.size, 0, none⟩ (by simp [Program.arrayLen, Program.elem, Tryz.underlying131]) .i64 (Lib.nDigits u : Int) (by omega) (by rw [hal]; omega)]
      go_simp
    have hH0 := holds_zero0 w 131 (Lib.nDigits u) (by omega)
    have hfmt := Tryz.internal_strconv_formatBase10 w.heap.size 0 24 u (Array.replicate (Lib.nDigits u) 0) (w.alloc (.cells Lib.zeros24 131)) hH0 (by rw [Array.size_replicate]; exact Lib.lt_pow_nDigits u) hu (by rw [Array.size_replicate]; omega)
    rw [Array.size_replicate] at hfmt
    have HH0 := Lib.hid hH0
    clear hH0 hal
    go_enter Tryz.func96, Tryz.ntmps96
    go_wp2_with (go_at_call 111; refine (Tryz.internal_strconv_numDigits u hu1 hu _ (Lib.tabIs_alloc htab _)).mono ?_; rintro e w' ⟨rfl, rfl⟩)
    go_at_call 112
    refine hfmt.mono ?_
    rintro e w' ⟨rfl, k, v', dk, rfl, hF⟩
    have hcv : (convert 68 9 (.slice (some ⟨w.heap.size, 0, none⟩) (Lib.nDigits u) 24)).run Tryz.prog ((putRow (fun (b : UInt8) => Value.int .u8 (b.toNat : Int)) (w.alloc (.cells Lib.zeros24 131)) w.heap.size 0 dk).drewN k) = .ok (.string ⟨(Lib.decDigits u).toArray⟩) ((putRow (fun (b : UInt8) => Value.int .u8 (b.toNat : Int)) (w.alloc (.cells Lib.zeros24 131)) w.heap.size 0 dk).drewN k) := by
      have h := run_convert_bytes_back (P := Tryz.prog) ((putRow (fun (b : UInt8) => Value.int .u8 (b.toNat : Int)) (w.alloc (.cells Lib.zeros24 131)) w.heap.size 0 dk).drewN k) 68 9 5 ⟨w.heap.size, 0, none⟩ 24 (Lib.decDigits u) Tryz.underlying68 Tryz.underlying5 Tryz.underlying9 (fun j hj => by
        rw [Lib.row_is_numeral hF j hj, Lib.add_plain, World.cell?_drewN]
        exact cell?_putRow (fun (b : UInt8) => Value.int .u8 (b.toNat : Int)) _ w.heap.size 0 _ dk HH0.out (by rw [hF.size, Array.size_replicate]) j (by rw [hF.size]; rw [Lib.decDigits_length] at hj; exact hj))
      rw [Lib.decDigits_length] at h
      exact h
    go_wp2
    go_ret
    exact ⟨rfl, fin_zero _ _ _ _⟩
theorem format_uint (u : Nat) (hu : u < 18446744073709551616) (w : World) (htab : Lib.TabIs Tryz.prog w "internal/strconv.uint64pow10" .u64 Lib.pow10Tab) :
    Calls Tryz.prog 82 #[.int .u64 u, .int .i64 10] w fun e w' => e = .returned (.string ⟨(Lib.decDigits u).toArray⟩) ∧ Grew w w' := by
  go_enter Tryz.func82, Tryz.ntmps82
  go_wp2_with (go_at_call 96; refine (iformat_uint u hu _ htab).mono ?_; rintro e w' ⟨rfl, g⟩)
  go_ret
  exact ⟨rfl, g⟩

/-! ### The first point -/
theorem index_point : ∀ (l : List UInt8), (hasPoint l = false ∧ Lib.indexByte l 46 = -1 ∧ headL l = l ∧ tailL l = []) ∨
    (hasPoint l = true ∧ Lib.indexByte l 46 = ((headL l).length : Int) ∧ headL l = l.take (headL l).length ∧ tailL l = l.drop ((headL l).length + 1) ∧ (headL l).length + 1 ≤ l.length)
  | [] => Or.inl ⟨rfl, rfl, rfl, rfl⟩
  | c :: r => by
    by_cases hc : c = 46
    · subst hc
      exact Or.inr ⟨by simp [hasPoint], by simp [Lib.indexByte, headL], by simp [headL], by simp [tailL, headL], by simp [headL]⟩
    · have hb : (c == 46) = false := by simpa using hc
      have hn : (c != 46) = true := by simpa using hc
      have e1 : hasPoint (c :: r) = hasPoint r := by simp [hasPoint, hb]
      have e2 : headL (c :: r) = c :: headL r := by simp [headL, hn]
      have e3 : tailL (c :: r) = tailL r := by simp [tailL, hn]
      have e4 : Lib.indexByte (c :: r) 46 = if Lib.indexByte r 46 == -1 then -1 else Lib.indexByte r 46 + 1 := by rw [Lib.indexByte, hb]; simp
      rcases index_point r with ⟨h1, h2, h3, h4⟩ | ⟨h1, h2, h3, h4, h5⟩
      · exact Or.inl ⟨by rw [e1, h1], by rw [e4, h2]; rfl, by rw [e2, h3], by rw [e3, h4]⟩
      · refine Or.inr ⟨by rw [e1, h1], ?_, ?_, ?_, ?_⟩
        · rw [e4, h2, e2, if_neg (by simp)]; simp
        · rw [e2, List.length_cons, List.take_succ_cons, ← h3]
        · rw [e3, e2, List.length_cons, List.drop_succ_cons]; exact h4
        · rw [e2, List.length_cons, List.length_cons]; omega
theorem str_take (s : ByteArray) (k : Nat) : s.extract 0 k = ⟨(s.data.toList.take k).toArray⟩ := by rw [Lib.extract_eq]; simp
theorem str_drop (s : ByteArray) (k : Nat) : s.extract k s.size = ⟨(s.data.toList.drop k).toArray⟩ := by
  rw [Lib.extract_eq, List.take_of_length_le (by rw [List.length_drop, ← Lib.size_eq]; exact Nat.le_refl _)]

set_option maxHeartbeats 2000000 in
set_option maxRecDepth 100000 in
theorem icut_point (s : ByteArray) (w : World) (hs : s.size ≤ 9223372036854775806) :
    Calls Tryz.prog 117 #[.string s, .string ⟨#[46]⟩] w fun e w' => e = .returned (.tuple #[.string ⟨(headL s.data.toList).toArray⟩, .string ⟨(tailL s.data.toList).toArray⟩, .bool (hasPoint s.data.toList)]) ∧ Grew w w' := by
  rcases index_point s.data.toList with ⟨h1, h2, h3, h4⟩ | ⟨h1, h2, h3, h4, h5⟩
  · have H := Lib.hid (And.intro h1 (And.intro h3 h4))
    clear h1 h3 h4
    go_enter Tryz.func117, Tryz.ntmps117
    go_wp2_with (go_at_call 91; refine (Tryz.stringslite_Index_one s 46 _).mono ?_; rintro e w' ⟨rfl, rfl⟩; rw [h2])
    go_ret3
    refine ⟨?_, Grew.refl _⟩
    rw [H.out.1, H.out.2.1, H.out.2.2, Lib.mk_data]; rfl
  · have H := Lib.hid (And.intro h1 (And.intro h3 h4))
    obtain ⟨n, hn⟩ : ∃ n, (headL s.data.toList).length = n := ⟨_, rfl⟩
    rw [hn] at h2 h5
    rw [← Lib.size_eq] at h5
    have HN := Lib.hid hn
    clear h1 h3 h4 hn
    have c1 : (0 : Int) ≤ ↑n := by omega
    have c2 : (↑n : Int) ≤ ↑s.size := by omega
    have c3 : (0 : Int) ≤ ↑n + 1 := by omega
    have c4 : (↑n + 1 : Int) ≤ ↑s.size := by omega
    go_enter Tryz.func117, Tryz.ntmps117
    go_wp2_with (go_at_call 91; refine (Tryz.stringslite_Index_one s 46 _).mono ?_; rintro e w' ⟨rfl, rfl⟩; rw [h2])
    go_quiet (fail)
    go_wp2
    go_ret3
    refine ⟨?_, Grew.drewN (Grew.refl _) _⟩
    rw [H.out.1, H.out.2.1, H.out.2.2, HN.out]
    rw [← str_take, ← str_drop]; rfl
theorem cut_point (s : ByteArray) (w : World) (hs : s.size ≤ 9223372036854775806) :
    Calls Tryz.prog 99 #[.string s, .string ⟨#[46]⟩] w fun e w' => e = .returned (.tuple #[.string ⟨(headL s.data.toList).toArray⟩, .string ⟨(tailL s.data.toList).toArray⟩, .bool (hasPoint s.data.toList)]) ∧ Grew w w' := by
  go_enter Tryz.func99, Tryz.ntmps99
  go_wp2_with (go_at_call 117; refine (icut_point s _ hs).mono ?_; rintro e w' ⟨rfl, g⟩)
  go_ret3
  exact ⟨rfl, g⟩
end Go.Proofs.YthcahpgandappaaGreatDoor
