/- Package deci: digits: the number of at most 19 decimal digits, or none. Conditions: none but that the string is one of Go's. -/
import Derived.Test.YthcahpgandappaaGreatDoorYc
import Derived.WalkMore
import Derived.ScopeJumps
import Derived.Laws.RangeAny
import Derived.Lib.OthersKept
namespace Go.Proofs.YthcahpgandappaaGreatDoor
open Go.RowKit

theorem take_snoc (s : ByteArray) (k : Nat) (h : k < s.size) : s.data.toList.take (k + 1) = s.data.toList.take k ++ [s[k]] := by
  rw [List.take_succ_eq_append_getElem (by simpa using h)]; rfl
theorem allDig_take {l : List UInt8} (h : allDig l = true) (k : Nat) : allDig (l.take k) = true := by
  unfold allDig at *; rw [List.all_eq_true] at *; exact fun c hc => h c (List.mem_of_mem_take hc)
theorem allDig_get {s : ByteArray} (h : allDig s.data.toList = true) (k : Nat) (hk : k < s.size) : 48 ≤ (s[k]'hk).toNat ∧ (s[k]'hk).toNat ≤ 57 := by
  have hm : (s[k]'hk) ∈ s.data.toList := by
    have : (s[k]'hk) = s.data.toList[k]'(by simpa using hk) := rfl
    rw [this]; exact List.getElem_mem _
  have := List.all_eq_true.1 h _ hm
  simpa [isDig] using this
theorem val_take_lt {l : List UInt8} (h : allDig l = true) (hl : l.length ≤ 19) (k : Nat) (hk : k < l.length) : val (l.take k) ≤ 999999999999999999 := by
  have h1 := val_lt _ (allDig_take h k)
  have h2 : (l.take k).length ≤ 18 := by rw [List.length_take]; omega
  have h3 := Nat.pow_le_pow_right (show 0 < 10 by omega) h2
  have : (10 : Nat) ^ 18 = 1000000000000000000 := by rfl
  omega

set_option maxHeartbeats 4000000 in
set_option maxRecDepth 100000 in
theorem digits_yes (s : ByteArray) (w : World) (hl : s.size ≤ 19) (hd : allDig s.data.toList = true) :
    Calls Tryz.prog 100 #[.string s] w fun e w' => e = .returned (.tuple #[.int .u64 ((val s.data.toList : Nat) : Int), .bool true]) ∧ Grew w w' := by
  have HD := Lib.hid hd
  clear hd
  go_enter Tryz.func100, Tryz.ntmps100
  go_wp2
  go_step3
  go_wp2
  go_loopw [4, 6] (fun nv _ wr => ∃ pos : Nat, pos ≤ s.size ∧ nv = .int .u64 ((val (s.data.toList.take pos) : Nat) : Int) ∧ wr.heap[w.heap.size]? = some (.stringIter s pos) ∧ Grew w wr) (fun _ _ wr => s.size - wr.iterPos w.heap.size)
  case atStart =>
    refine ⟨0, Nat.zero_le _, rfl, ?_, (Grew.refl w).alloc _⟩
    exact World.iter_heap w s 0
  case round =>
    obtain ⟨pos, hpos, rfl, hit, g⟩ := hrel
    have hsz : w.heap.size < wr.heap.size := (Array.getElem?_eq_some_iff.1 hit).1
    by_cases hp : pos < s.size
    · have hc := allDig_get HD.out pos hp
      have hv := val_take_lt HD.out (by rw [← Lib.size_eq]; exact hl) pos (by rw [← Lib.size_eq]; exact hp)
      have HS := Lib.hid (show val (s.data.toList.take (pos + 1)) = val (s.data.toList.take pos) * 10 + ((s[pos]'hp).toNat - 48) by rw [take_snoc s pos hp, val_snoc])
      have HI := Lib.hid hit
      have hnx : ∀ ty, (Instr.next (.pointer (some ⟨w.heap.size, 0, none⟩)) true ty).run Tryz.prog wr = _ := fun ty => Lib.run_next_ascii_at wr w.heap.size s pos ty hit hp (by omega)
      obtain ⟨c, hcc⟩ : ∃ c, (s[pos]'hp).toNat = c := ⟨_, rfl⟩
      rw [hcc] at hc hnx
      obtain ⟨v, hvv⟩ : ∃ v, val (s.data.toList.take pos) = v := ⟨_, rfl⟩
      rw [hvv] at hv ⊢
      have HC := Lib.hid hcc
      have HV := Lib.hid hvv
      clear hcc hvv hit
      have hit2 := Lib.hid (Lib.iterAt_heap wr w.heap.size s pos (pos + 1) HI.out)
      go_wp2
      refine ⟨⟨pos + 1, by omega, ?_, hit2.out, Lib.below_iterAt g (Nat.le_refl _) s _⟩, ?_⟩
      · rw [HS.out, HV.out, HC.out]; congr 1; omega
      · simp only [World.iterPos, hit2.out, HI.out]; omega
    · have hnx : ∀ ty, (Instr.next (.pointer (some ⟨w.heap.size, 0, none⟩)) true ty).run Tryz.prog wr = _ := fun ty => Lib.run_next_end_at wr w.heap.size s pos ty hit hp
      have HV := Lib.hid (show s.data.toList.take pos = s.data.toList from List.take_of_length_le (by rw [← Lib.size_eq]; omega))
      clear hit
      go_wp2
      first | go_ret2 | (rw [Exit.noGoto_ret]; go_ret2)
      exact ⟨by rw [HV.out]; rfl, g⟩

/-- What the function returns where it found something else. -/
def Faulty (s : ByteArray) (w : World) (a : Act) (w' : World) : Prop :=
  Grew w w' ∧ ∃ u1 u2 u3 u4 u5 u6 u7 u8 u9 u10 u11 u12 u13 u14 u15 u16 u17 u18 u19 u20 u21 u22 u23 u24 u25 u26 u27, a = { tmps := #[.string s, u1, u2, u3, u4, u5, u6, u7, u8, u9, u10, u11, u12, u13, u14, u15, u16, u17, u18, u19, u20, u21, u22, u23, u24, u25, u26, u27], defers := [] }

set_option maxHeartbeats 4000000 in
set_option maxRecDepth 100000 in
theorem digits_long (s : ByteArray) (w : World) (hl : ¬ s.size ≤ 19) :
    Calls Tryz.prog 100 #[.string s] w fun e w' => e = .returned (.tuple #[.int .u64 0, .bool false]) ∧ Grew w w' := by
  go_enter Tryz.func100, Tryz.ntmps100
  go_wp2
  refine wp_scope_jumps 0 (Faulty s w) (fun _ _ => 0) rfl ?_ ?_
  · go_wp2
    go_step3
    show 0 = 0 ∧ Faulty s w _ _
    exact ⟨rfl, Grew.refl _, _, _, _, _, _, _, _, _, _, _, _, _, _, _, _, _, _, _, _, _, _, _, _, _, _, _, _, rfl⟩
  · rintro a' w' ⟨g, u1, u2, u3, u4, u5, u6, u7, u8, u9, u10, u11, u12, u13, u14, u15, u16, u17, u18, u19, u20, u21, u22, u23, u24, u25, u26, u27, rfl⟩
    go_wp2
    simp only [Exit.jump]
    go_ret2
    exact ⟨rfl, g⟩

theorem allDig_snoc (s : ByteArray) (k : Nat) (h : k < s.size) : allDig (s.data.toList.take (k + 1)) = (allDig (s.data.toList.take k) && isDig s[k]) := by
  rw [take_snoc s k h, allDig_append]; simp [allDig]
theorem dig_cases (c : UInt8) : isDig c = true ↔ 48 ≤ c.toNat ∧ c.toNat ≤ 57 := by simp [isDig]

set_option maxHeartbeats 4000000 in
set_option maxRecDepth 100000 in
theorem digits_bad (s : ByteArray) (w : World) (hl : s.size ≤ 19) (hd : allDig s.data.toList = false) :
    Calls Tryz.prog 100 #[.string s] w fun e w' => e = .returned (.tuple #[.int .u64 0, .bool false]) ∧ Grew w w' := by
  have HD := Lib.hid hd
  clear hd
  go_enter Tryz.func100, Tryz.ntmps100
  go_wp2
  refine wp_scope_jumps 0 (Faulty s w) (fun _ _ => 0) rfl ?_ ?_
  · go_wp2
    go_loopw [4, 6] (fun nv _ wr => ∃ pos : Nat, pos ≤ s.size ∧ nv = .int .u64 ((val (s.data.toList.take pos) : Nat) : Int) ∧ allDig (s.data.toList.take pos) = true ∧ wr.heap[w.heap.size]? = some (.stringIter s pos) ∧ Grew w wr) (fun _ _ wr => s.size - wr.iterPos w.heap.size)
    case atStart =>
      refine ⟨0, Nat.zero_le _, rfl, rfl, ?_, (Grew.refl w).alloc _⟩
      exact World.iter_heap w s 0
    case round =>
      obtain ⟨pos, hpos, rfl, hta, hit, g⟩ := hrel
      have hsz : w.heap.size < wr.heap.size := (Array.getElem?_eq_some_iff.1 hit).1
      have hp : pos < s.size := by
        rcases Nat.lt_or_ge pos s.size with h | h
        · exact h
        · rw [List.take_of_length_le (by rw [← Lib.size_eq]; exact h), HD.out] at hta; cases hta
      have HT := Lib.hid hta
      have HI := Lib.hid hit
      clear hta
      by_cases hdig : isDig s[pos] = true
      · have hv : val (s.data.toList.take pos) ≤ 999999999999999999 := by
          have h1 := val_lt _ HT.out
          have h2 : (s.data.toList.take pos).length ≤ 18 := by rw [List.length_take]; omega
          have h3 := Nat.pow_le_pow_right (show 0 < 10 by omega) h2
          have : (10 : Nat) ^ 18 = 1000000000000000000 := by rfl
          omega
        have HA := Lib.hid (show allDig (s.data.toList.take (pos + 1)) = true by rw [allDig_snoc s pos hp, HT.out, hdig]; rfl)
        have hc := (dig_cases _).1 hdig
        have HS := Lib.hid (show val (s.data.toList.take (pos + 1)) = val (s.data.toList.take pos) * 10 + ((s[pos]'hp).toNat - 48) by rw [take_snoc s pos hp, val_snoc])
        have hnx : ∀ ty, (Instr.next (.pointer (some ⟨w.heap.size, 0, none⟩)) true ty).run Tryz.prog wr = _ := fun ty => Lib.run_next_ascii_at wr w.heap.size s pos ty hit hp (by omega)
        obtain ⟨c, hcc⟩ : ∃ c, (s[pos]'hp).toNat = c := ⟨_, rfl⟩
        rw [hcc] at hc hnx
        obtain ⟨v, hvv⟩ : ∃ v, val (s.data.toList.take pos) = v := ⟨_, rfl⟩
        rw [hvv] at hv ⊢
        have HC := Lib.hid hcc
        have HV := Lib.hid hvv
        clear hcc hvv hit hdig
        have hit2 := Lib.hid (Lib.iterAt_heap wr w.heap.size s pos (pos + 1) HI.out)
        go_wp2
        refine ⟨⟨pos + 1, by omega, ?_, HA.out, hit2.out, Lib.below_iterAt g (Nat.le_refl _) s _⟩, ?_⟩
        · rw [HS.out, HV.out, HC.out]; congr 1; omega
        · simp only [World.iterPos, hit2.out, HI.out]; omega
      · obtain ⟨r, wd, hnx, hr⟩ : ∃ (r : Nat) (wd : Nat), (∀ ty, (Instr.next (.pointer (some ⟨w.heap.size, 0, none⟩)) true ty).run Tryz.prog wr = .ok (.tuple #[.bool true, .int .i64 pos, .int .i32 (r : Int)]) (wr.iterAt w.heap.size s wd)) ∧ ¬ (48 ≤ r ∧ r ≤ 57) := by
          by_cases ha : (s[pos]'hp).toNat < 128
          · exact ⟨_, _, fun ty => Lib.run_next_ascii_at wr w.heap.size s pos ty hit hp ha, fun h => hdig ((dig_cases _).2 h)⟩
          · have hh := decode_high s pos hp (by omega)
            exact ⟨_, _, fun ty => Lib.run_next_any_at wr w.heap.size s pos ty hit hp, by omega⟩
        have g2 : Grew w (wr.iterAt w.heap.size s wd) := Lib.below_iterAt g (Nat.le_refl _) s _
        clear hit hdig
        by_cases h48 : r < 48
        · go_wp2
          go_step3
          show 0 = 0 ∧ Faulty s w _ _
          exact ⟨rfl, g2, _, _, _, _, _, _, _, _, _, _, _, _, _, _, _, _, _, _, _, _, _, _, _, _, _, _, _, rfl⟩
        · have h57 : 57 < r := by omega
          go_wp2
          go_step3
          show 0 = 0 ∧ Faulty s w _ _
          exact ⟨rfl, g2, _, _, _, _, _, _, _, _, _, _, _, _, _, _, _, _, _, _, _, _, _, _, _, _, _, _, _, rfl⟩
  · rintro a' w' ⟨g, u1, u2, u3, u4, u5, u6, u7, u8, u9, u10, u11, u12, u13, u14, u15, u16, u17, u18, u19, u20, u21, u22, u23, u24, u25, u26, u27, rfl⟩
    go_wp2
    simp only [Exit.jump]
    go_ret2
    exact ⟨rfl, g⟩
theorem digits_any (s : ByteArray) (w : World) :
    Calls Tryz.prog 100 #[.string s] w fun e w' => e = .returned (.tuple #[.int .u64 (((digitsV s.data.toList).1 : Nat) : Int), .bool (digitsV s.data.toList).2]) ∧ Grew w w' := by
  by_cases hl : s.size ≤ 19
  · cases hd : allDig s.data.toList with
    | true => rw [digitsV_yes (by rw [← Lib.size_eq]; exact hl) hd]; exact digits_yes s w hl hd
    | false => rw [digitsV_no (by simp [hd])]; exact digits_bad s w hl hd
  · rw [digitsV_no (by rw [← Lib.size_eq]; simp [hl])]; exact digits_long s w hl
end Go.Proofs.YthcahpgandappaaGreatDoor
