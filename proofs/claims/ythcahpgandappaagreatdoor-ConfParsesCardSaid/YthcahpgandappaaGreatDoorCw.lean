/- The reference's Words and numbers: the parts of a string between single spaces; the numbers between commas. Conditions: strings of at most 10^6 bytes (Words), 1000 bytes (numbers). -/
import Derived.Test.YthcahpgandappaaGreatDoorCv
namespace Go.Proofs.YthcahpgandappaaGreatDoor
open Go.RowKit Go.Shelf

/-- Between two rounds: the parts so far, where the one at hand begins. -/
def WInv (s : ByteArray) (i f : Nat) (ws : List ByteArray) : Prop :=
  (i ≤ s.size ∧ f ≤ i ∧ splitSp s.data.toList = ws.map (·.data.toList) ++ splitSp (s.data.toList.drop f) ∧ (32 : UInt8) ∉ (s.data.toList.drop f).take (i - f) ∧ ws.length ≤ i) ∨
  (i = s.size + 1 ∧ f ≤ i ∧ splitSp s.data.toList = ws.map (·.data.toList) ∧ ws.length ≤ i)
theorem winv_start (s : ByteArray) : WInv s 0 0 [] := .inl ⟨Nat.zero_le _, Nat.le_refl _, by simp, by simp, Nat.le_refl _⟩
theorem ext_mid (s : ByteArray) (f i : Nat) : (s.extract f i).data.toList = (s.data.toList.drop f).take (i - f) := by
  rw [Lib.extract_eq]
theorem wtake_snoc {s : ByteArray} {i f : Nat} (hi : i < s.size) (hf : f ≤ i) : (s.data.toList.drop f).take (i + 1 - f) = (s.data.toList.drop f).take (i - f) ++ [s[i]'hi] := by
  rw [show i + 1 - f = (i - f) + 1 by omega, List.take_add_one, List.getElem?_drop, show f + (i - f) = i by omega]
  have : s.data.toList[i]? = some (s[i]'hi) := List.getElem?_eq_getElem (by simpa using hi)
  rw [this]
  rfl
theorem winv_step {s : ByteArray} {i f : Nat} {ws : List ByteArray} (h : WInv s i f ws) (hi : i < s.size) (hc : (s[i]'hi) ≠ 32) : WInv s (i + 1) f ws := by
  rcases h with ⟨_, hf, hs, hn, hl⟩ | ⟨h, _⟩
  · refine .inl ⟨hi, by omega, hs, ?_, by omega⟩
    rw [wtake_snoc hi hf]
    simp only [List.mem_append, List.mem_singleton]
    rintro (h | h)
    · exact hn h
    · exact hc h.symm
  · omega
theorem winv_cut {s : ByteArray} {i f : Nat} {ws : List ByteArray} (h : WInv s i f ws) (hi : i < s.size) (hc : (s[i]'hi) = 32) : WInv s (i + 1) (i + 1) (ws ++ [s.extract f i]) := by
  rcases h with ⟨_, hf, hs, hn, hl⟩ | ⟨h, _⟩
  · refine .inl ⟨hi, Nat.le_refl _, ?_, by simp, by simp; omega⟩
    have e : s.data.toList.drop f = (s.data.toList.drop f).take (i - f) ++ 32 :: s.data.toList.drop (i + 1) := by
      have h1 := (List.take_append_drop (i - f) (s.data.toList.drop f)).symm
      rw [List.drop_drop, show f + (i - f) = i by omega, drop_at s i hi, hc] at h1
      exact h1
    rw [hs, e, split_cut _ _ hn, List.map_append, List.append_assoc]
    simp
  · omega
theorem winv_end {s : ByteArray} {f : Nat} {ws : List ByteArray} (h : WInv s s.size f ws) : WInv s (s.size + 1) (s.size + 1) (ws ++ [s.extract f s.size]) := by
  rcases h with ⟨_, hf, hs, hn, hl⟩ | ⟨h, _⟩
  · refine .inr ⟨rfl, Nat.le_refl _, ?_, by simp; omega⟩
    have e : (s.data.toList.drop f).take (s.size - f) = s.data.toList.drop f := List.take_of_length_le (by rw [List.length_drop, ← size_dataC]; exact Nat.le_refl _)
    have h32 : (32 : UInt8) ∉ s.data.toList.drop f := by rw [← e]; exact hn
    rw [hs, split_last _ h32, List.map_append]
    simp [e]
  · omega
theorem info_strW : (Tryz.prog.info? 9).map (fun i => (i.zero, i.size, i.bytes)) = some (some (.string ⟨#[]⟩), 1, 16) := by kernel_rfl

set_option maxHeartbeats 4000000 in
theorem words_any (s : ByteArray) (w : World) (hs : s.size ≤ 1000000) :
    Calls Tryz.prog 21 #[.string s] w fun e w' => (∃ (ws : List ByteArray) (v : Value), e = .returned v ∧ ws.map (·.data.toList) = splitSp s.data.toList ∧ w'.ownsRow w.heap.size 9 1 v ws.length (ws.map Value.string)) ∧ Grew w w' := by
  obtain ⟨i0, hi, hz0, hz1, hz2⟩ := info_parts info_strW
  go_enter Tryz.func21, Tryz.ntmps21
  go_wp2
  go_loopw [3, 4, 5] (fun v f i wr => ∃ (k g : Nat) (ws : List ByteArray), k ≤ s.size + 1 ∧ g ≤ k ∧ i = .int .i64 k ∧ f = .int .i64 g ∧ Hid (WInv s k g ws) ∧ Hid (wr.ownsRow w.heap.size 9 1 v ws.length (ws.map Value.string)) ∧ Hid (Grew w wr)) (fun _ _ i _ => s.size + 1 - (intOf i).toNat)
  case atStart => exact ⟨0, 0, [], Nat.zero_le _, Nat.le_refl _, rfl, rfl, Lib.hid (winv_start s), Lib.hid (World.ownsRow_nil _ _ _ _), Lib.hid (Grew.refl _)⟩
  case round =>
    obtain ⟨k, g, ws, hk, hgk, rfl, rfl, HI, HB, HG⟩ := hrel
    have hsw := HG.out.size
    have hwl : ws.length ≤ 1000001 := by rcases HI.out with ⟨_, _, _, _, h⟩ | ⟨_, _, _, h⟩ <;> omega
    by_cases hlt : k < s.size
    · have eb : ((k : Int) == (s.size : Int)) = false := by rw [beq_eq_false_iff_ne]; omega
      by_cases hc : (s[k]'hlt) = 32
      · have HI2 := Lib.hid (winv_cut HI.out hlt hc)
        obtain ⟨c, hcc⟩ : ∃ c, (s[k]'hlt).toNat = c := ⟨_, rfl⟩
        have h32 : ((c : Int) == 32) = true := by
          rw [hc] at hcc
          subst hcc
          rfl
        have hge : k ≤ s.size := by omega
        clear hc
        go_wp2_with (at_builtin; refine wpList_append_own _ rfl _ _ 35 rfl w.heap.size 9 i0 (.string ⟨#[]⟩) 1 16 Tryz.underlying35 hi hz0 hz1 hz2 rfl (by decide) _ _ _ rfl (HB.out.alloc _) ⟨wr.heap.size, 0, none⟩ 1 1 [.string (s.extract g k)] rfl rfl (cell_one_new _ _ _) ?qc3 ?qc4 ?qc5 ?qc6 ?_)
        case qc3 => intro u hu; simp at hu; subst hu; rfl
        case qc4 => unfold maxLen; omega
        case qc5 => omega
        case qc6 => simp; omega
        intro v' w1 hown hgrow hnil
        have HB1 : Hid (w1.ownsRow w.heap.size 9 1 v' (ws ++ [s.extract g k]).length ((ws ++ [s.extract g k]).map Value.string)) := Lib.hid (by simpa using hown)
        have HG1 := Lib.hid (Below.grown (HG.out.alloc (.cells #[.string (s.extract g k)] 9)) hgrow (by simp; omega) (fun x hx => (World.ownsRow.lt HB.out x hx).1))
        clear hown hgrow hnil
        go_wp2
        go_roundw
        case rel => exact ⟨k + 1, k + 1, ws ++ [s.extract g k], by omega, Nat.le_refl _, by go_num, by go_num, HI2, HB1, HG1⟩
        case measure => simp [intOf]; omega
      · have HI2 := Lib.hid (winv_step HI.out hlt hc)
        obtain ⟨c, hcc⟩ : ∃ c, (s[k]'hlt).toNat = c := ⟨_, rfl⟩
        have h32 : ((c : Int) == 32) = false := by
          rw [beq_eq_false_iff_ne]
          intro e
          have e2 : c = 32 := by omega
          rw [e2] at hcc
          exact hc (UInt8.toNat_inj.1 (by rw [hcc]; rfl))
        have hge : k ≤ s.size := by omega
        have h32a : ¬ (c : Int) = 32 := by rw [beq_eq_false_iff_ne] at h32; exact h32
        have h32b : ¬ c = 32 := by omega
        have h32c : (c == 32) = false := by rw [beq_eq_false_iff_ne]; exact h32b
        have h32d : decide (c = 32) = false := decide_eq_false h32b
        have h32e : decide ((c : Int) = 32) = false := decide_eq_false h32a
        clear hc
        go_wp2
        go_roundw
        case rel => exact ⟨k + 1, g, ws, by omega, by omega, by go_num, rfl, HI2, HB, HG⟩
        case measure => simp [intOf]; omega
    · by_cases he : k = s.size
      · have eb : ((k : Int) == (s.size : Int)) = true := by simp [he]
        have HI2 : Hid (WInv s (k + 1) (k + 1) (ws ++ [s.extract g k])) := Lib.hid (by subst he; exact winv_end HI.out)
        have hge : k ≤ s.size := by omega
        have eb2 : (k == s.size) = true := by simp [he]
        have eb3 : decide (k = s.size) = true := by simp [he]
        have eb4 : decide ((k : Int) = (s.size : Int)) = true := by simp [he]
        clear he
        go_wp2_with (at_builtin; refine wpList_append_own _ rfl _ _ 35 rfl w.heap.size 9 i0 (.string ⟨#[]⟩) 1 16 Tryz.underlying35 hi hz0 hz1 hz2 rfl (by decide) _ _ _ rfl (HB.out.alloc _) ⟨wr.heap.size, 0, none⟩ 1 1 [.string (s.extract g k)] rfl rfl (cell_one_new _ _ _) ?qc3 ?qc4 ?qc5 ?qc6 ?_)
        case qc3 => intro u hu; simp at hu; subst hu; rfl
        case qc4 => unfold maxLen; omega
        case qc5 => omega
        case qc6 => simp; omega
        intro v' w1 hown hgrow hnil
        have HB1 : Hid (w1.ownsRow w.heap.size 9 1 v' (ws ++ [s.extract g k]).length ((ws ++ [s.extract g k]).map Value.string)) := Lib.hid (by simpa using hown)
        have HG1 := Lib.hid (Below.grown (HG.out.alloc (.cells #[.string (s.extract g k)] 9)) hgrow (by simp; omega) (fun x hx => (World.ownsRow.lt HB.out x hx).1))
        clear hown hgrow hnil
        go_wp2
        go_roundw
        case rel => exact ⟨k + 1, k + 1, ws ++ [s.extract g k], by omega, Nat.le_refl _, by go_num, by go_num, HI2, HB1, HG1⟩
        case measure => simp [intOf]; omega
      · have hgt : ¬ k ≤ s.size := by omega
        have HF : Hid (ws.map (·.data.toList) = splitSp s.data.toList) := Lib.hid (by
          rcases HI.out with ⟨h, _⟩ | ⟨_, _, h, _⟩
          · omega
          · exact h.symm)
        go_wp2
        go_ret
        exact ⟨⟨ws, _, rfl, HF.out, HB.out⟩, HG.out⟩
/-- Between two rounds: the parts so far, where the one at hand begins. -/
def WInvZ (s : ByteArray) (i f : Nat) (ws : List ByteArray) : Prop :=
  (i ≤ s.size ∧ f ≤ i ∧ splitBy 44 s.data.toList = ws.map (·.data.toList) ++ splitBy 44 (s.data.toList.drop f) ∧ (44 : UInt8) ∉ (s.data.toList.drop f).take (i - f) ∧ ws.length ≤ i) ∨
  (i = s.size + 1 ∧ f ≤ i ∧ splitBy 44 s.data.toList = ws.map (·.data.toList) ∧ ws.length ≤ i)
theorem winv_startZ (s : ByteArray) : WInvZ s 0 0 [] := .inl ⟨Nat.zero_le _, Nat.le_refl _, by simp, by simp, Nat.le_refl _⟩
theorem ext_midZ (s : ByteArray) (f i : Nat) : (s.extract f i).data.toList = (s.data.toList.drop f).take (i - f) := by
  rw [Lib.extract_eq]
theorem wtake_snocZ {s : ByteArray} {i f : Nat} (hi : i < s.size) (hf : f ≤ i) : (s.data.toList.drop f).take (i + 1 - f) = (s.data.toList.drop f).take (i - f) ++ [s[i]'hi] := by
  rw [show i + 1 - f = (i - f) + 1 by omega, List.take_add_one, List.getElem?_drop, show f + (i - f) = i by omega]
  have : s.data.toList[i]? = some (s[i]'hi) := List.getElem?_eq_getElem (by simpa using hi)
  rw [this]
  rfl
theorem winv_stepZ {s : ByteArray} {i f : Nat} {ws : List ByteArray} (h : WInvZ s i f ws) (hi : i < s.size) (hc : (s[i]'hi) ≠ 44) : WInvZ s (i + 1) f ws := by
  rcases h with ⟨_, hf, hs, hn, hl⟩ | ⟨h, _⟩
  · refine .inl ⟨hi, by omega, hs, ?_, by omega⟩
    rw [wtake_snocZ hi hf]
    simp only [List.mem_append, List.mem_singleton]
    rintro (h | h)
    · exact hn h
    · exact hc h.symm
  · omega
theorem winv_cutZ {s : ByteArray} {i f : Nat} {ws : List ByteArray} (h : WInvZ s i f ws) (hi : i < s.size) (hc : (s[i]'hi) = 44) : WInvZ s (i + 1) (i + 1) (ws ++ [s.extract f i]) := by
  rcases h with ⟨_, hf, hs, hn, hl⟩ | ⟨h, _⟩
  · refine .inl ⟨hi, Nat.le_refl _, ?_, by simp, by simp; omega⟩
    have e : s.data.toList.drop f = (s.data.toList.drop f).take (i - f) ++ 44 :: s.data.toList.drop (i + 1) := by
      have h1 := (List.take_append_drop (i - f) (s.data.toList.drop f)).symm
      rw [List.drop_drop, show f + (i - f) = i by omega, drop_at s i hi, hc] at h1
      exact h1
    rw [hs, e, by_cut 44 _ _ hn, List.map_append, List.append_assoc]
    simp
  · omega
theorem winv_endZ {s : ByteArray} {f : Nat} {ws : List ByteArray} (h : WInvZ s s.size f ws) : WInvZ s (s.size + 1) (s.size + 1) (ws ++ [s.extract f s.size]) := by
  rcases h with ⟨_, hf, hs, hn, hl⟩ | ⟨h, _⟩
  · refine .inr ⟨rfl, Nat.le_refl _, ?_, by simp; omega⟩
    have e : (s.data.toList.drop f).take (s.size - f) = s.data.toList.drop f := List.take_of_length_le (by rw [List.length_drop, ← size_dataC]; exact Nat.le_refl _)
    have h32 : (44 : UInt8) ∉ s.data.toList.drop f := by rw [← e]; exact hn
    rw [hs, by_last 44 _ h32, List.map_append]
    simp [e]
  · omega

set_option maxHeartbeats 4000000 in
theorem numbers_any (s : ByteArray) (w : World) (hs : s.size ≤ 1000) :
    Calls Tryz.prog 22 #[.string s] w fun e w' => (∃ a c zs, e = .returned (.slice a zs.length c) ∧ zs = (splitBy 44 s.data.toList).map numO ∧ BufK .i64 3 w.heap.size w' a zs.length c zs) ∧ Grew w w' := by
  obtain ⟨i0, hi, hz0, hz1, hz2⟩ := info_parts info_z
  go_enter Tryz.func22, Tryz.ntmps22
  go_wp2
  go_loopw [3, 4, 5] (fun v f i W' => ∃ (k g : Nat) (ws : List ByteArray), k ≤ s.size + 1 ∧ g ≤ k ∧ i = .int .i64 k ∧ f = .int .i64 g ∧ Hid (WInvZ s k g ws) ∧ Hid (W'.ownsRow w.heap.size 3 1 v ws.length ((ws.map (fun p => numO p.data.toList)).map (Value.int .i64))) ∧ Hid (Grew w W')) (fun _ _ i _ => s.size + 1 - (intOf i).toNat)
  case atStart => exact ⟨0, 0, [], Nat.zero_le _, Nat.le_refl _, rfl, rfl, Lib.hid (winv_startZ s), Lib.hid (World.ownsRow_nil _ _ _ _), Lib.hid (Grew.refl _)⟩
  case round =>
    obtain ⟨k, g, ws, hk, hgk, rfl, rfl, HI, HB, HG⟩ := hrel
    have hsw := HG.out.size
    have hwl : ws.length ≤ 1001 := by rcases HI.out with ⟨_, _, _, _, h⟩ | ⟨_, _, _, h⟩ <;> omega
    have hes : (s.extract g k).size ≤ 1000 := by
      rw [size_dataC, ext_midZ, List.length_take, List.length_drop, ← size_dataC]
      omega
    have HNU := Lib.hid (fun W => rnum_any (s.extract g k) W hes)
    have HM : Hid (((ws ++ [s.extract g k]).map (fun p => numO p.data.toList)).map (Value.int .i64) = (ws.map (fun p => numO p.data.toList)).map (Value.int .i64) ++ [.int .i64 (numO (s.extract g k).data.toList)]) := Lib.hid (by simp)
    clear hes
    generalize numO (s.extract g k).data.toList = X at *
    by_cases hlt : k < s.size
    · have eb : ((k : Int) == (s.size : Int)) = false := by rw [beq_eq_false_iff_ne]; omega
      by_cases hc : (s[k]'hlt) = 44
      · have HI2 := Lib.hid (winv_cutZ HI.out hlt hc)
        obtain ⟨c, hcc⟩ : ∃ c, (s[k]'hlt).toNat = c := ⟨_, rfl⟩
        have h32 : ((c : Int) == 44) = true := by
          rw [hc] at hcc
          subst hcc
          rfl
        have hge : k ≤ s.size := by omega
        clear hc
        go_wp2_with fail
        refine (HNU.out _).mono ?_
        rintro e w2 ⟨rfl, g2⟩
        have HB2 := Lib.hid (own_grow HB.out g2)
        have HG2 := Lib.hid (HG.out.trans g2)
        have hsw2 := HG2.out.size
        generalize (ws.map (fun p => numO p.data.toList)).map (Value.int .i64) = xs at *
        clear g2 HB
        go_wp2_with (at_builtin; refine wpList_append_own _ rfl _ _ 22 rfl w.heap.size 3 i0 (.int .i64 0) 1 8 Tryz.underlying22 hi hz0 hz1 hz2 rfl (by decide) _ _ _ rfl (HB2.out.alloc _) ⟨w2.heap.size, 0, none⟩ 1 1 [.int .i64 X] rfl rfl (cell_one_new _ _ _) ?qc3 ?qc4 ?qc5 ?qc6 ?_)
        case qc3 => intro u hu; simp at hu; subst hu; rfl
        case qc4 => unfold maxLen; omega
        case qc5 => omega
        case qc6 => simp; omega
        intro v' w1 hown hgrow hnil
        have HB1 : Hid (w1.ownsRow w.heap.size 3 1 v' (ws ++ [s.extract g k]).length (((ws ++ [s.extract g k]).map (fun p => numO p.data.toList)).map (Value.int .i64))) := Lib.hid (by rw [HM.out, List.length_append]; exact hown)
        have HG1 := Lib.hid (Below.grown (HG2.out.alloc (.cells #[.int .i64 X] 3)) hgrow (by simp; omega) (fun x hx => (World.ownsRow.lt HB2.out x hx).1))
        clear hown hgrow hnil
        go_wp2
        go_roundw
        case rel => exact ⟨k + 1, k + 1, ws ++ [s.extract g k], by omega, Nat.le_refl _, by go_num, by go_num, HI2, HB1, HG1⟩
        case measure => simp [intOf]; omega
      · have HI2 := Lib.hid (winv_stepZ HI.out hlt hc)
        obtain ⟨c, hcc⟩ : ∃ c, (s[k]'hlt).toNat = c := ⟨_, rfl⟩
        have h32 : ((c : Int) == 44) = false := by
          rw [beq_eq_false_iff_ne]
          intro e
          have e2 : c = 44 := by omega
          rw [e2] at hcc
          exact hc (UInt8.toNat_inj.1 (by rw [hcc]; rfl))
        have hge : k ≤ s.size := by omega
        have h32a : ¬ (c : Int) = 44 := by rw [beq_eq_false_iff_ne] at h32; exact h32
        have h32b : ¬ c = 44 := by omega
        have h32c : (c == 44) = false := by rw [beq_eq_false_iff_ne]; exact h32b
        have h32d : decide (c = 44) = false := decide_eq_false h32b
        have h32e : decide ((c : Int) = 44) = false := decide_eq_false h32a
        clear hc
        go_wp2
        go_roundw
        case rel => exact ⟨k + 1, g, ws, by omega, by omega, by go_num, rfl, HI2, HB, HG⟩
        case measure => simp [intOf]; omega
    · by_cases he : k = s.size
      · have eb : ((k : Int) == (s.size : Int)) = true := by simp [he]
        have HI2 : Hid (WInvZ s (k + 1) (k + 1) (ws ++ [s.extract g k])) := Lib.hid (by subst he; exact winv_endZ HI.out)
        have hge : k ≤ s.size := by omega
        have eb2 : (k == s.size) = true := by simp [he]
        have eb3 : decide (k = s.size) = true := by simp [he]
        have eb4 : decide ((k : Int) = (s.size : Int)) = true := by simp [he]
        clear he
        go_wp2_with fail
        refine (HNU.out _).mono ?_
        rintro e w2 ⟨rfl, g2⟩
        have HB2 := Lib.hid (own_grow HB.out g2)
        have HG2 := Lib.hid (HG.out.trans g2)
        have hsw2 := HG2.out.size
        generalize (ws.map (fun p => numO p.data.toList)).map (Value.int .i64) = xs at *
        clear g2 HB
        go_wp2_with (at_builtin; refine wpList_append_own _ rfl _ _ 22 rfl w.heap.size 3 i0 (.int .i64 0) 1 8 Tryz.underlying22 hi hz0 hz1 hz2 rfl (by decide) _ _ _ rfl (HB2.out.alloc _) ⟨w2.heap.size, 0, none⟩ 1 1 [.int .i64 X] rfl rfl (cell_one_new _ _ _) ?qc3 ?qc4 ?qc5 ?qc6 ?_)
        case qc3 => intro u hu; simp at hu; subst hu; rfl
        case qc4 => unfold maxLen; omega
        case qc5 => omega
        case qc6 => simp; omega
        intro v' w1 hown hgrow hnil
        have HB1 : Hid (w1.ownsRow w.heap.size 3 1 v' (ws ++ [s.extract g k]).length (((ws ++ [s.extract g k]).map (fun p => numO p.data.toList)).map (Value.int .i64))) := Lib.hid (by rw [HM.out, List.length_append]; exact hown)
        have HG1 := Lib.hid (Below.grown (HG2.out.alloc (.cells #[.int .i64 X] 3)) hgrow (by simp; omega) (fun x hx => (World.ownsRow.lt HB2.out x hx).1))
        clear hown hgrow hnil
        go_wp2
        go_roundw
        case rel => exact ⟨k + 1, k + 1, ws ++ [s.extract g k], by omega, Nat.le_refl _, by go_num, by go_num, HI2, HB1, HG1⟩
        case measure => simp [intOf]; omega
      · have hgt : ¬ k ≤ s.size := by omega
        have HF : Hid (ws.map (fun p => numO p.data.toList) = (splitBy 44 s.data.toList).map numO) := Lib.hid (by
          rcases HI.out with ⟨h, _⟩ | ⟨_, _, h, _⟩
          · omega
          · rw [h, List.map_map]; rfl)
        obtain ⟨a', cap, rfl⟩ := own_formC HB.out
        go_wp2
        go_ret
        have hlw : (ws.map (fun p => numO p.data.toList)).length = ws.length := List.length_map _
        exact ⟨⟨a', cap, ws.map (fun p => numO p.data.toList), by rw [hlw]; rfl, HF.out, by rw [hlw]; exact HB.out⟩, HG.out⟩
end Go.Proofs.YthcahpgandappaaGreatDoor
