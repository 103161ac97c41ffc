/- Sizes: strings.SplitSeq at a comma, what reads and compares lists of sizes. Conditions: strings of at most 10^6 bytes; the table of powers of ten holds its numbers. -/
import Derived.Test.YthcahpgandappaaGreatDoorCn
import Derived.Test.YthcahpgandappaaGreatDoorEr
import Derived.Test.YthcahpgandappaaGreatDoorNd
import Derived.Test.YthcahpgandappaaGreatDoorShelf
import Derived.Deep.QuietTactic
import Derived.BigQuiet
namespace Go.Proofs.YthcahpgandappaaGreatDoor
open Go.RowKit Go.Shelf
attribute [local go_sem] Oper.semAt_some

theorem grown_lowC {a b c : World} {r : Option Nat} {B : Nat} (h : a.grownBy b r) (k : Below B b c) (hB : a.heap.size ≤ B) : a.grownBy c r :=
  ⟨k.os.trans h.os, k.tape.trans h.tape, k.output.trans h.output, Nat.le_trans h.size k.size, fun j hj hne => (k.block j (by omega)).trans (h.block j hj hne)⟩
theorem own_formC {W : World} {B n size : Nat} {e : TypeId} {v : Value} {xs : List Value} (h : W.ownsRow B e size v n xs) : ∃ a cap, v = .slice a n cap := by
  rcases h.2 with ⟨rfl, rfl⟩ | ⟨g, c, cur, rfl, _⟩
  · exact ⟨none, 0, rfl⟩
  · exact ⟨_, _, rfl⟩

theorem row_mono {w : World} {B B' n size : Nat} {e : TypeId} {v : Value} {xs : List Value} (h : w.ownsRow B e size v n xs) (hB : B' ≤ B) : w.ownsRow B' e size v n xs := by
  refine ⟨h.1, ?_⟩
  rcases h.2 with e1 | ⟨g, c, cur, rfl, hb, rest⟩
  · exact .inl e1
  · exact .inr ⟨g, c, cur, rfl, Nat.le_trans hB hb, rest⟩
theorem iequal_any (a a' : Option Addr) (c c' : Nat) (xs ys : List Int) (w : World) (hl : xs.length ≤ 17592186044416) (hl2 : ys.length ≤ 17592186044416) (hx : RdK .i64 w.heap.size w a xs) (hy : RdK .i64 w.heap.size w a' ys) :
    Calls Tryz.prog 59 #[.slice a xs.length c, .slice a' ys.length c'] w fun e w' => e = .returned (.bool (decide (xs = ys))) ∧ Grew w w' := by
  by_cases hlen : xs.length = ys.length
  · have HX := Lib.hid hx
    have HY := Lib.hid hy
    clear hx hy
    rw [← hlen] 
    have HL := Lib.hid hlen
    clear hlen
    go_enter Tryz.func59, Tryz.ntmps59
    go_wp2
    go_loopw [13] (fun i wr => ∃ k : Nat, k ≤ xs.length ∧ i = .int .i64 k ∧ Hid (Grew w wr) ∧ Hid (∀ j, j < k → el xs j = el ys j)) (fun i _ => xs.length - (intOf i).toNat)
    case atStart => exact ⟨0, Nat.zero_le _, rfl, Lib.hid (Grew.refl _), Lib.hid (fun j hj => by omega)⟩
    case round =>
      obtain ⟨k, hk, rfl, HG, HM⟩ := hrel
      by_cases hlt : k < xs.length
      · obtain ⟨b, off, rfl, hb, hc⟩ := (HX.out.grow HG.out).at hlt
        obtain ⟨b', off', rfl, hb', hd⟩ := (HY.out.grow HG.out).at (k := k) (by rw [← HL.out]; exact hlt)
        by_cases h1 : el xs k = el ys k
        · have HM' : Hid (∀ j, j < k + 1 → el xs j = el ys j) := Lib.hid (fun j hj => by
            by_cases e : j = k
            · subst e; exact h1
            · exact HM.out j (by omega))
          rw [← h1] at hd
          generalize el xs k = z at *
          clear h1
          go_wp2
          go_quiet (fail)
          go_wp2
          go_roundw
          case rel => exact ⟨k + 1, by omega, by go_num, Lib.hid (HG.out.drewN _), HM'⟩
          case measure => simp [intOf]; omega
        · have HE : Hid (decide (xs = ys) = false) := Lib.hid (decide_eq_false (by rintro rfl; exact h1 rfl))
          generalize el xs k = z at *
          generalize el ys k = z' at *
          go_wp2
          go_quiet (fail)
          go_wp2
          go_ret
          exact ⟨ret_bool HE.out.symm, HG.out.drewN _⟩
      · have HE : Hid (xs = ys) := Lib.hid (el_ext HL.out (by rw [show xs.length = k from by omega]; exact HM.out))
        go_wp2
        go_ret
        exact ⟨ret_bool (decide_eq_true HE.out).symm, HG.out⟩
  · have HE : Hid (decide (xs = ys) = false) := Lib.hid (decide_eq_false (by rintro rfl; exact hlen rfl))
    go_enter Tryz.func59, Tryz.ntmps59
    go_wp2
    go_ret
    exact ⟨ret_bool HE.out.symm, Grew.refl _⟩

theorem iequal_n {n m : Nat} (a a' : Option Addr) (c c' : Nat) (xs ys : List Int) (w : World) (hn : xs.length = n) (hm : ys.length = m) (hl : n ≤ 17592186044416) (hl2 : m ≤ 17592186044416) (hx : RdK .i64 w.heap.size w a xs) (hy : RdK .i64 w.heap.size w a' ys) :
    Calls Tryz.prog 59 #[.slice a n c, .slice a' m c'] w fun e w' => e = .returned (.bool (decide (xs = ys))) ∧ Grew w w' := by
  subst hn hm; exact iequal_any a a' c c' xs ys w hl hl2 hx hy
theorem index_cutC : ∀ (a b : List UInt8), (44 : UInt8) ∉ a → Lib.indexByte (a ++ 44 :: b) 44 = (a.length : Int)
  | [], b, _ => by simp [Lib.indexByte]
  | c :: a, b, h => by
    have hc : (c == 44) = false := by rw [beq_eq_false_iff_ne]; exact fun e => h (by simp [e])
    have ih := index_cutC a b (fun e => h (by simp [e]))
    have h1 : ((a.length : Int) == -1) = false := by rw [beq_eq_false_iff_ne]; omega
    rw [List.cons_append]
    unfold Lib.indexByte
    rw [hc, ih, h1]
    simp
theorem index_noC : ∀ (a : List UInt8), (44 : UInt8) ∉ a → Lib.indexByte a 44 = -1
  | [], _ => rfl
  | c :: a, h => by
    have hc : (c == 44) = false := by rw [beq_eq_false_iff_ne]; exact fun e => h (by simp [e])
    unfold Lib.indexByte
    rw [hc, index_noC a (fun e => h (by simp [e]))]
    rfl
/-- The k-th part of a string between single spaces. -/
def prtC (s : ByteArray) (k : Nat) : ByteArray := ⟨((splitBy 44 s.data.toList)[k]?.getD []).toArray⟩
def nPartsC (s : ByteArray) : Nat := (splitBy 44 s.data.toList).length
/-- How much of the iterator's own string is left. -/
def leftAtC (S : Nat) (W : World) : Nat := match W.cell? ⟨S, 0, none⟩ with
  | some (.string t) => t.size
  | _ => 0
theorem leftAt_ofC {S : Nat} {W : World} {T : TypeId} {t : ByteArray} (h : Boxed W S T (.string t)) : leftAtC S W = t.size := by unfold leftAtC; rw [h.cell]
theorem size_dataC (t : ByteArray) : t.size = t.data.toList.length := Array.length_toList.symm
theorem parts_lastC {s t : ByteArray} {k : Nat} (h : (splitBy 44 s.data.toList).drop k = splitBy 44 t.data.toList) (h32 : (44 : UInt8) ∉ t.data.toList) : nPartsC s = k + 1 ∧ prtC s k = t := by
  rw [by_last 44 _ h32] at h
  have hl := congrArg List.length h
  rw [List.length_drop] at hl
  have h0 : (splitBy 44 s.data.toList)[k]? = some t.data.toList := by
    have := congrArg (fun l => l[0]?) h
    simpa using this
  refine ⟨by unfold nPartsC; simp at hl; omega, ?_⟩
  unfold prtC
  rw [h0]
  cases t; simp
theorem parts_cutC {s t : ByteArray} {k : Nat} {a b : List UInt8} (h : (splitBy 44 s.data.toList).drop k = splitBy 44 t.data.toList) (ht : t.data.toList = a ++ 44 :: b) (h32 : (44 : UInt8) ∉ a) :
    k + 1 < nPartsC s ∧ prtC s k = ⟨a.toArray⟩ ∧ (splitBy 44 s.data.toList).drop (k + 1) = splitBy 44 b := by
  rw [ht, by_cut 44 a b h32] at h
  have hl := congrArg List.length h
  rw [List.length_drop, List.length_cons] at hl
  have hb : 0 < (splitBy 44 b).length := List.length_pos_iff.2 (by_ne 44 b)
  have h0 : (splitBy 44 s.data.toList)[k]? = some a := by
    have := congrArg (fun l => l[0]?) h
    simpa using this
  refine ⟨by unfold nPartsC; omega, ?_, ?_⟩
  · unfold prtC; rw [h0]; rfl
  · rw [← List.drop_drop, h]; rfl
theorem ext_leftC {t : ByteArray} {a r : List UInt8} (ht : t.data.toList = a ++ r) : t.extract 0 a.length = ⟨a.toArray⟩ := by
  apply ByteArray.ext
  apply Array.ext'
  simp [ht]
theorem ext_rightC {t : ByteArray} {a b : List UInt8} (ht : t.data.toList = a ++ 44 :: b) : t.extract (a.length + 1) t.size = ⟨b.toArray⟩ := by
  apply ByteArray.ext
  apply Array.ext'
  have : t.size = a.length + (b.length + 1) := by rw [size_dataC, ht]; simp
  simp [ht, this]
  rw [show a.length + (b.length + 1) - (a.length + 1) = b.length by omega, List.take_length]

/-- The iterator's own blocks are left. -/
def Kp3 (S : Nat) (V V' : World) : Prop := ∀ j, S ≤ j → j < S + 1 + 1 + 1 → V'.heap[j]? = V.heap[j]?
set_option maxRecDepth 100000 in
set_option maxHeartbeats 4000000 in
theorem split_inC (n : Nat) (hn : 1 ≤ n) (l : Nat) {S : Nat} {s : ByteArray} (hs : s.size ≤ 1000000) (J : Nat → World → Prop) (X : World → Prop)
    (hJ : ∀ k V V', J k V → V.grownBy V' (some S) → J k V')
    (hY : ∀ k V, J k V → k < nPartsC s → YieldAt Fence.wide (n - 1) Tryz.prog l #[.string (prtC s k)] V fun e V' => (e = .returned (.bool true) ∧ J (k + 1) V' ∧ Kp3 S V V') ∨ (e = .returned (.bool false) ∧ X V'))
    (W : World) (hS : Boxed W S 9 (.string s)) (hP : Boxed W (S + 1) 9 (.string ⟨#[44]⟩)) (hZ : Boxed W (S + 1 + 1) 3 (.int .i64 0)) (h0 : J 0 W) :
    CallsIn Fence.wide n Tryz.prog 107 #[.func (.yield l) #[] #[], .pointer (some ⟨S + 1, 0, none⟩), .pointer (some ⟨S, 0, none⟩), .pointer (some ⟨S + 1 + 1, 0, none⟩)] W fun e W' => (∃ v, e = .returned v) ∧ (J (nPartsC s) W' ∨ X W') := by
  have c1 := hP.cell
  have HS := Lib.hid hS
  have HP := Lib.hid hP
  have HZ := Lib.hid hZ
  have HYH := Lib.hid hY
  have HJ := Lib.hid hJ
  clear hS hP hZ hY hJ
  refine callsIn_of_wp Tryz.func107 rfl trivial ?_ rfl
  simp only [Tryz.ntmps107, List.size_toArray, List.length_cons, List.length_nil, Nat.reduceAdd, Nat.reduceSub, Array.replicate_succ, Array.replicate_zero, List.push_toArray, List.append_toArray, List.nil_append, List.cons_append]
  gi_wp2
  gi_loopw [] (fun wr => ∃ (k : Nat) (t : ByteArray), t.size ≤ 1000000 ∧ J k wr ∧ Hid (Boxed wr S 9 (.string t)) ∧ Hid (Boxed wr (S + 1) 9 (.string ⟨#[44]⟩)) ∧ Hid (Boxed wr (S + 1 + 1) 3 (.int .i64 0)) ∧ Hid ((splitBy 44 s.data.toList).drop k = splitBy 44 t.data.toList)) (fun wr => leftAtC S wr)
  case atStart => exact ⟨0, s, hs, h0, HS, HP, HZ, Lib.hid rfl⟩
  case round =>
    clear c1 HS HP HZ
    obtain ⟨k, t, hts, hJk, HSk, HPk, HZk, HD⟩ := hrel
    have s0 := HSk.out.cell
    have p0 := HPk.out.cell
    have z0 := HZk.out.cell
    rcases by_form 44 t.data.toList with h32 | ⟨a, b, ht, h32⟩
    · obtain ⟨hN, hp⟩ := parts_lastC HD.out h32
      obtain ⟨fn, tmps, assign, body, hy, hR⟩ := HYH.out k wr hJk (by omega)
      rw [hp] at hy
      have HRR := Lib.hid hR
      have HIX := Lib.hid (index_noC _ h32)
      have HN := Lib.hid hN
      clear hR h32 hp hN
      gi_wp2_with fail
      refine ⟨trivial, (callsIn_wide.2 (Tryz.strings_Index_one t 44 wr)).mono ?_⟩
      rintro e w1 ⟨rfl, rfl⟩
      rw [HIX.out]
      gi_wp2
      refine HRR.out.mono ?_
      rintro e W3 (⟨rfl, hJ3, hk3⟩ | ⟨rfl, hX⟩)
      · gi_wp2
        go_end0
        exact ⟨⟨_, rfl⟩, .inl (by rw [HN.out]; exact hJ3)⟩
      · gi_wp2
        go_end0
        exact ⟨⟨_, rfl⟩, .inr hX⟩
    · obtain ⟨hN, hp, hdr⟩ := parts_cutC HD.out ht h32
      have HE1 := Lib.hid (ext_leftC ht)
      have HE2 := Lib.hid (ext_rightC ht)
      obtain ⟨fn, tmps, assign, body, hy, hR⟩ := HYH.out k wr hJk (by omega)
      have hsz : t.size = a.length + (b.length + 1) := by rw [size_dataC, ht]; simp
      rw [hp, ← HE1.out] at hy
      have HRR := Lib.hid hR
      have HIX : Hid (Lib.indexByte t.data.toList 44 = (a.length : Int)) := Lib.hid (by rw [ht]; exact index_cutC a b h32)
      have HDR : Hid ((splitBy 44 s.data.toList).drop (k + 1) = splitBy 44 (⟨b.toArray⟩ : ByteArray).data.toList) := Lib.hid (by rw [hdr])
      have HBS : Hid ((⟨b.toArray⟩ : ByteArray).size = b.length) := Lib.hid (by simp [ByteArray.size])
      have HSZ := Lib.hid hsz
      have hal : a.length + 1 ≤ t.size := by omega
      generalize a.length = m at *
      clear hR h32 hp hN hdr ht hsz
      gi_wp2_with fail
      refine ⟨trivial, (callsIn_wide.2 (Tryz.strings_Index_one t 44 wr)).mono ?_⟩
      rintro e w1 ⟨rfl, rfl⟩
      rw [HIX.out]
      gi_wp2
      refine HRR.out.mono ?_
      rintro e W3 (⟨rfl, hJ3, hk3⟩ | ⟨rfl, hX⟩)
      · have hS3 : Boxed W3 S 9 (.string t) := (hk3 S (Nat.le_refl _) (by omega)).trans HSk.out
        have HP3 : Hid (Boxed W3 (S + 1) 9 (.string ⟨#[44]⟩)) := Lib.hid ((hk3 (S + 1) (by omega) (by omega)).trans HPk.out)
        have HZ3 : Hid (Boxed W3 (S + 1 + 1) 3 (.int .i64 0)) := Lib.hid ((hk3 (S + 1 + 1) (by omega) (by omega)).trans HZk.out)
        have s3 := hS3.cell
        have f3 := hS3.frozen
        have p3 := HP3.out.cell
        have HS4 := Lib.hid (hS3.set (.string ⟨b.toArray⟩))
        have HP4 := Lib.hid (HP3.out.kept (grownBy_setCell' W3 S (.string ⟨b.toArray⟩)) (by simp))
        have HZ4 := Lib.hid (HZ3.out.kept (grownBy_setCell' W3 S (.string ⟨b.toArray⟩)) (by simp; omega))
        have hJ4 := HJ.out _ _ _ hJ3 (grownBy_setCell' W3 S (.string ⟨b.toArray⟩))
        have HLO := Lib.hid (leftAt_ofC HSk.out)
        have HLN := Lib.hid (leftAt_ofC HS4.out)
        clear s0 p0 z0 hS3 hJ3 hk3
        gi_wp2
        rw [HE2.out]
        go_roundw
        case rel => exact ⟨k + 1, ⟨b.toArray⟩, by rw [HBS.out]; have := HSZ.out; omega, hJ4, HS4, HP4, HZ4, HDR⟩
        case measure => rw [HLN.out, HLO.out, HBS.out, HSZ.out]; omega
      · gi_wp2
        refine bodyPost_ret (results_none rfl _ _ _) rfl ?_
        exact ⟨⟨_, rfl⟩, .inr hX⟩
theorem split_yieldsC (n : Nat) (hn : 1 ≤ n) {S : Nat} {s : ByteArray} (hs : s.size ≤ 1000000) (w : World) (hS : Boxed w S 9 (.string s)) (hP : Boxed w (S + 1) 9 (.string ⟨#[44]⟩)) (hZ : Boxed w (S + 1 + 1) 3 (.int .i64 0)) (hw : S + 1 + 1 < w.heap.size) :
    YieldsO Fence.wide n Tryz.prog 107 #[.pointer (some ⟨S + 1, 0, none⟩), .pointer (some ⟨S, 0, none⟩), .pointer (some ⟨S + 1 + 1, 0, none⟩)] (fun k => #[.string (prtC s k)]) (nPartsC s) (Kp3 S) (fun V V' => V.grownBy V' (some S)) w := fun l J X W hW hJ hY h0 =>
  split_inC n hn l hs J X hJ hY W ((hW.block S (by omega)).trans hS) ((hW.block (S + 1) (by omega)).trans hP) ((hW.block (S + 1 + 1) (by omega)).trans hZ) h0

theorem splitSeq_anyC (s : ByteArray) (w : World) :
    Calls Tryz.prog 78 #[.string s, .string ⟨#[44]⟩] w fun e w' => e = .returned (.func (.func 107) #[] #[.pointer (some ⟨w.heap.size + 1, 0, none⟩), .pointer (some ⟨w.heap.size, 0, none⟩), .pointer (some ⟨w.heap.size + 1 + 1, 0, none⟩)]) ∧
      w' = ((w.alloc (.cells #[.string s] 9)).alloc (.cells #[.string ⟨#[44]⟩] 9)).alloc (.cells #[.int .i64 0] 3) := by
  have h1 : Calls Tryz.prog 92 #[.string s, .string ⟨#[44]⟩, .int .i64 0] w fun e w' => e = .returned (.func (.func 107) #[] #[.pointer (some ⟨w.heap.size + 1, 0, none⟩), .pointer (some ⟨w.heap.size, 0, none⟩), .pointer (some ⟨w.heap.size + 1 + 1, 0, none⟩)]) ∧
      w' = ((w.alloc (.cells #[.string s] 9)).alloc (.cells #[.string ⟨#[44]⟩] 9)).alloc (.cells #[.int .i64 0] 3) := by
    go_enter Tryz.func92, Tryz.ntmps92
    go_wp2
    go_ret
    exact ⟨rfl, rfl⟩
  have H1 := Lib.hid h1
  clear h1
  go_enter Tryz.func78, Tryz.ntmps78
  go_wp2_with fail
  refine H1.out.mono ?_
  rintro e w1 ⟨rfl, rfl⟩
  go_wp2
  go_ret
  exact ⟨rfl, rfl⟩


/-- What the parts read as. -/
def zO (s : ByteArray) (k : Nat) : Option Int := natO (prtC s k).data.toList
theorem prtC_size (s : ByteArray) (k : Nat) : (prtC s k).size ≤ s.size := by
  unfold prtC
  rw [size_dataC, size_dataC]
  show ((splitBy 44 s.data.toList)[k]?.getD []).length ≤ _
  cases h : (splitBy 44 s.data.toList)[k]? with
  | none => simp
  | some p =>
    have hm := List.mem_of_getElem? h
    have key : ∀ (n : Nat) (l : List UInt8), l.length ≤ n → ∀ p ∈ splitBy 44 l, p.length ≤ l.length := by
      intro n
      induction n with
      | zero =>
        intro l hl p hp
        obtain rfl := List.eq_nil_of_length_eq_zero (Nat.le_zero.1 hl)
        simp [splitBy] at hp
        subst hp
        exact Nat.le_refl _
      | succ n ih =>
        intro l hl p hp
        rcases by_form 44 l with h | ⟨a, b, rfl, h⟩
        · rw [by_last 44 l h] at hp
          simp at hp
          subst hp
          exact Nat.le_refl _
        · rw [by_cut 44 a b h] at hp
          rcases List.mem_cons.1 hp with rfl | hp
          · simp
          · have := ih b (by simp at hl; omega) p hp
            simp; omega
    exact key _ _ (Nat.le_refl _) p hm
theorem by_len (c : UInt8) : ∀ (n : Nat) (l : List UInt8), l.length ≤ n → (splitBy c l).length ≤ l.length + 1 := by
  intro n
  induction n with
  | zero =>
    intro l hl
    obtain rfl := List.eq_nil_of_length_eq_zero (Nat.le_zero.1 hl)
    simp [splitBy]
  | succ n ih =>
    intro l hl
    rcases by_form c l with h | ⟨a, b, rfl, h⟩
    · rw [by_last c l h]; simp
    · rw [by_cut c a b h]
      have := ih b (by simp at hl; omega)
      simp; omega
theorem nPartsC_le (s : ByteArray) : nPartsC s ≤ s.size + 1 := by
  unfold nPartsC
  rw [size_dataC]
  exact by_len 44 _ _ (Nat.le_refl _)
/-- The parts' numbers make up what the text reads as. -/
theorem readZ_of {s : ByteArray} {ms : List Int} (hl : ms.length = nPartsC s) (h : ∀ j, j < nPartsC s → zO s j = some (ms[j]?.getD 0)) : readZ s.data.toList = some ms := by
  have key : ∀ (l : List (List UInt8)) (ms : List Int), ms.length = l.length → (∀ j, j < l.length → natO (l[j]?.getD []) = some (ms[j]?.getD 0)) → mapO natO l = some ms := by
    intro l
    induction l with
    | nil => intro ms hl _; obtain rfl : ms = [] := List.eq_nil_of_length_eq_zero (by simpa using hl); rfl
    | cons p r ih =>
      intro ms hl h
      cases ms with
      | nil => simp at hl
      | cons m ms =>
        unfold mapO
        rw [show natO p = some m from h 0 (by simp), ih ms (by simpa using hl) (fun j hj => by have := h (j + 1) (by simpa using hj); simpa using this)]
  unfold readZ
  exact key _ ms hl (fun j hj => by have := h j hj; unfold zO prtC at this; simpa using this)
theorem readZ_none {s : ByteArray} {j : Nat} (hj : j < nPartsC s) (h : zO s j = none) : readZ s.data.toList = none := by
  unfold readZ
  refine mapO_none _ _ (a := (splitBy 44 s.data.toList)[j]?.getD []) ?_ ?_
  · rw [List.getElem?_eq_getElem (show j < (splitBy 44 s.data.toList).length from hj)]
    exact List.getElem_mem _
  · unfold zO prtC at h; simpa using h

theorem info_z : (Tryz.prog.info? 3).map (fun i => (i.zero, i.size, i.bytes)) = some (some (.int .i64 0), 1, 8) := by kernel_rfl
set_option maxRecDepth 100000 in
set_option maxHeartbeats 4000000 in
theorem readSizes_any (s : ByteArray) (w : World) (hs : s.size ≤ 1000000) (hT : Lib.TabIs Tryz.prog w "internal/strconv.uint64pow10" .u64 Lib.pow10Tab) :
    Calls Tryz.prog 57 #[.string s] w fun e w' => ((∃ x a c, readZ s.data.toList = some x ∧ e = .returned (.tuple #[.slice a x.length c, .bool true]) ∧ BufK .i64 3 w.heap.size w' a x.length c x) ∨ (readZ s.data.toList = none ∧ e = .returned (.tuple #[.slice none 0 0, .bool false]))) ∧ Grew w w' := by
  obtain ⟨i0, hi, hz0, hz1, hz2⟩ := info_parts info_z
  have hg : Grew w ((((((w.alloc (.cells #[.slice none 0 0] 22)).alloc (.cells #[.bool false] 4)).alloc (.cells #[.slice none 0 0] 22)).alloc (.cells #[.string s] 9)).alloc (.cells #[.string ⟨#[44]⟩] 9)).alloc (.cells #[.int .i64 0] 3)) := ((((((Grew.refl w).alloc _).alloc _).alloc _).alloc _).alloc _).alloc _
  have b2 := (((((Boxed.new w 22 (.slice none 0 0)).alloc (.cells #[.bool false] 4)).alloc (.cells #[.slice none 0 0] 22)).alloc (.cells #[.string s] 9)).alloc (.cells #[.string ⟨#[44]⟩] 9)).alloc (.cells #[.int .i64 0] 3)
  have b3 := ((((Boxed.new (w.alloc (.cells #[.slice none 0 0] 22)) 4 (.bool false)).alloc (.cells #[.slice none 0 0] 22)).alloc (.cells #[.string s] 9)).alloc (.cells #[.string ⟨#[44]⟩] 9)).alloc (.cells #[.int .i64 0] 3)
  have b4 := (((Boxed.new ((w.alloc (.cells #[.slice none 0 0] 22)).alloc (.cells #[.bool false] 4)) 22 (.slice none 0 0)).alloc (.cells #[.string s] 9)).alloc (.cells #[.string ⟨#[44]⟩] 9)).alloc (.cells #[.int .i64 0] 3)
  have b5 := ((Boxed.new (((w.alloc (.cells #[.slice none 0 0] 22)).alloc (.cells #[.bool false] 4)).alloc (.cells #[.slice none 0 0] 22)) 9 (.string s)).alloc (.cells #[.string ⟨#[44]⟩] 9)).alloc (.cells #[.int .i64 0] 3)
  have b6 := (Boxed.new ((((w.alloc (.cells #[.slice none 0 0] 22)).alloc (.cells #[.bool false] 4)).alloc (.cells #[.slice none 0 0] 22)).alloc (.cells #[.string s] 9)) 9 (.string ⟨#[44]⟩)).alloc (.cells #[.int .i64 0] 3)
  have b7 := Boxed.new (((((w.alloc (.cells #[.slice none 0 0] 22)).alloc (.cells #[.bool false] 4)).alloc (.cells #[.slice none 0 0] 22)).alloc (.cells #[.string s] 9)).alloc (.cells #[.string ⟨#[44]⟩] 9)) 3 (.int .i64 0)
  simp only [World.size_alloc] at b3 b4 b5 b6 b7
  have hsz : ((((((w.alloc (.cells #[.slice none 0 0] 22)).alloc (.cells #[.bool false] 4)).alloc (.cells #[.slice none 0 0] 22)).alloc (.cells #[.string s] 9)).alloc (.cells #[.string ⟨#[44]⟩] 9)).alloc (.cells #[.int .i64 0] 3)).heap.size = w.heap.size + 1 + 1 + 1 + 1 + 1 + 1 := by simp
  have HG := Lib.hid hg
  have B2 := Lib.hid b2
  have B3 := Lib.hid b3
  have B4 := Lib.hid b4
  have B5 := Lib.hid b5
  have B6 := Lib.hid b6
  have B7 := Lib.hid b7
  have HSZ := Lib.hid hsz
  have HP := Lib.hid hT
  have hN : nPartsC s ≤ 1000001 := by have := nPartsC_le s; omega
  clear hg b2 b3 b4 b5 b6 b7 hsz hT
  refine (callsIn_wide (n := 9)).1 ?_
  refine callsIn_of_wp_marks Tryz.func57 rfl trivial ?_ rfl
  simp only [Tryz.ntmps57, List.size_toArray, List.length_cons, List.length_nil, Nat.reduceAdd, Nat.reduceSub, Array.replicate_succ, Array.replicate_zero, List.push_toArray, List.append_toArray, List.nil_append, List.cons_append]
  refine wpIn_wide.2 ?_
  go_wp2_with fail
  refine (splitSeq_anyC s _).mono ?_
  rintro e wS ⟨rfl, rfl⟩
  simp only [World.size_alloc]
  generalize ((((((w.alloc (.cells #[.slice none 0 0] 22)).alloc (.cells #[.bool false] 4)).alloc (.cells #[.slice none 0 0] 22)).alloc (.cells #[.string s] 9)).alloc (.cells #[.string ⟨#[44]⟩] 9)).alloc (.cells #[.int .i64 0] 3)) = W0 at *
  obtain ⟨L, hL⟩ : ∃ L, w.heap.size = L := ⟨_, rfl⟩
  have HL := Lib.hid hL
  rw [hL] at B2 B3 B4 B5 B6 B7 HSZ ⊢
  clear hL
  go_wp2_with fail
  have hGB : Grew w W0 := HG.out
  have HSeq : Hid (YieldsO Fence.wide 8 Tryz.prog 107 #[.pointer (some ⟨L + 1 + 1 + 1 + 1, 0, none⟩), .pointer (some ⟨L + 1 + 1 + 1, 0, none⟩), .pointer (some ⟨L + 1 + 1 + 1 + 1 + 1, 0, none⟩)] (fun k => #[.string (prtC s k)]) (nPartsC s) (Kp3 (L + 1 + 1 + 1)) (fun V V' => V.grownBy V' (some (L + 1 + 1 + 1))) W0) := Lib.hid (split_yieldsC 8 (by omega) hs W0 B5.out B6.out B7.out (by rw [HSZ.out]; omega))
  have HO0 : Hid (∃ v ms, Boxed W0 (L + 1 + 1) 22 v ∧ W0.ownsRow (L + 1 + 1 + 1 + 1 + 1 + 1) 3 1 v 0 (List.map (Value.int .i64) ms) ∧ ms.length = 0 ∧ ∀ j, j < 0 → zO s j = some (ms[j]?.getD 0)) := Lib.hid ⟨_, [], B4.out, World.ownsRow_nil _ _ _ _, rfl, fun j hj => absurd hj (Nat.not_lt_zero _)⟩
  refine (wpIn_wide (n := 9)).1 (range_own (F := Fence.wide) (n := 9) rfl (by omega) (gf := 107) (lb := #[.pointer (some ⟨L + 1 + 1 + 1 + 1, 0, none⟩), .pointer (some ⟨L + 1 + 1 + 1, 0, none⟩), .pointer (some ⟨L + 1 + 1 + 1 + 1 + 1, 0, none⟩)]) rfl trivial (enters_of Tryz.func107 (by kernel_rfl) rfl)
    (enc := fun k => #[.string (prtC s k)]) (N := nPartsC s) (Kp := Kp3 (L + 1 + 1 + 1)) (fun x y z h k j h1 h2 => (k j h1 h2).trans (h j h1 h2)) (fun x y h j h1 h2 => h.block j (by rw [HSZ.out]; omega))
    (Ow := fun V V' => V.grownBy V' (some (L + 1 + 1 + 1))) (fun V V' h b hb hlt => h.block b hlt (fun e => by injection e with e; rw [HSZ.out] at hb; omega))
    HSeq.out (fun _ => rfl)
    (fun k W => k ≤ nPartsC s ∧ Hid (∃ v ms, Boxed W (L + 1 + 1) 22 v ∧ W.ownsRow (L + 1 + 1 + 1 + 1 + 1 + 1) 3 1 v k (List.map (Value.int .i64) ms) ∧ ms.length = k ∧ ∀ j, j < k → zO s j = some (ms[j]?.getD 0)) ∧ Hid (Boxed W L 22 (.slice none 0 0)) ∧ Hid (Boxed W (L + 1) 4 (.bool false)) ∧ Hid (Grew w W) ∧ L + 1 + 1 + 1 + 1 + 1 < W.heap.size)
    (fun c W => c = .ret ∧ Hid (Boxed W L 22 (.slice none 0 0)) ∧ Hid (Boxed W (L + 1) 4 (.bool false)) ∧ Hid (Grew w W) ∧ Hid (∃ j, j < nPartsC s ∧ zO s j = none) ∧ L + 1 + 1 + 1 + 1 + 1 < W.heap.size)
    ?hI ?hIx ?hOI ⟨Nat.zero_le _, HO0, B2, B3, Lib.hid hGB, by rw [HSZ.out]; omega⟩ ?round ?done ?stop)
  case hI =>
    rintro k W W' ⟨h1, ⟨v, ms, h2, h3, h4, h5⟩, h7, h8, h9, h10⟩ g kc
    have hs := g.size
    rw [HSZ.out] at g
    exact ⟨h1, Lib.hid ⟨v, ms, (g.block _ (by omega)).trans h2, own_cells h3 kc, h4, h5⟩, Lib.hid ((g.block _ (by omega)).trans h7.out), Lib.hid ((g.block _ (by omega)).trans h8.out),
      Lib.hid (h9.out.trans_below g (by rw [HL.out]; omega)), Nat.lt_of_lt_of_le h10 hs⟩
  case hIx =>
    rintro c W W' ⟨h1, h7, h8, h9, h11, h10⟩ g kc
    have hs := g.size
    rw [HSZ.out] at g
    exact ⟨h1, Lib.hid ((g.block _ (by omega)).trans h7.out), Lib.hid ((g.block _ (by omega)).trans h8.out), Lib.hid (h9.out.trans_below g (by rw [HL.out]; omega)), h11, Nat.lt_of_lt_of_le h10 hs⟩
  case hOI =>
    rintro k W W' ⟨h1, ⟨v, ms, h2, h3, h4, h5⟩, h7, h8, h9, h10⟩ g
    have hne : ∀ x, x ≠ L + 1 + 1 + 1 → some x ≠ some (L + 1 + 1 + 1) := fun x hx e => hx (Option.some.inj e)
    exact ⟨h1, Lib.hid ⟨v, ms, h2.kept g (hne _ (by omega)), own_left h3 g (fun x hx => hne x (by have := (World.ownsRow.lt h3 x hx).1; omega)), h4, h5⟩, Lib.hid (h7.out.kept g (hne _ (by omega))), Lib.hid (h8.out.kept g (hne _ (by omega))),
      Lib.hid (h9.out.trans_below (grownBy_below g (by rw [HL.out]; omega) h9.out.size) (Nat.le_refl _)), Nat.lt_of_lt_of_le h10 g.size⟩
  case round =>
    rintro l k V hi hk
    clear hi HO0 HG B2 B3 B4 B5 B6 B7 HSeq hGB
    gi_wp2
    refine ⟨trivial, ?_⟩
    rintro V2 ⟨hk2, HO, H2, H3, HGr, hs2⟩
    clear hk2
    have HC := Lib.hid (readCount_any (prtC s k) V2 (Nat.le_trans (prtC_size s k) hs) (tab_below HP.out (Nat.le_refl _) HGr.out))
    gi_wp2_with fail
    refine ⟨trivial, (callsIn_of_calls HC.out).mono ?_⟩
    rintro e W1 ⟨⟨b, hb, rfl⟩ | ⟨hb, b, rfl⟩, g1⟩
    · obtain ⟨v, ms, hv, hrow, hml, hmo⟩ := HO.out
      have hsl : L + 1 + 1 + 1 + 1 + 1 + 1 ≤ W1.heap.size := by have := g1.size; omega
      have HV := Lib.hid (Boxed.kept hv (g1.by' none) (by simp))
      have HRW := Lib.hid (own_grow hrow g1)
      have H21 := Lib.hid (Boxed.kept H2.out (g1.by' none) (by simp))
      have H31 := Lib.hid (Boxed.kept H3.out (g1.by' none) (by simp))
      have HK := Lib.hid (KeepsOthers.of_grownBy (g1.by' none) (fun _ _ e => by cases e))
      have HBl : Hid (Below L V2 W1) := Lib.hid (Below.mono g1 (by omega))
      have HK3 : Hid (Kp3 (L + 1 + 1 + 1) V2 W1) := Lib.hid (fun j h1 h2 => g1.block j (by omega))
      have HMO : Hid (∀ j, j < k + 1 → zO s j = some ((ms ++ [b])[j]?.getD 0)) := Lib.hid (fun j hj => by
        by_cases e : j = k
        · subst e; rw [show zO s j = some b from hb, List.getElem?_append_right (by omega), hml]; simp
        · rw [List.getElem?_append_left (by omega)]; exact hmo j (by omega))
      have HML : Hid ((ms ++ [b]).length = k + 1) := Lib.hid (by rw [List.length_append, hml]; rfl)
      have c4 := HV.out.cell
      have HC1 : Hid (∀ (j : Nat) (u : Value), (List.map (Value.int .i64) [b])[j]? = some u → (W1.alloc (.cells #[.int .i64 b] 3)).cell? (Addr.add ⟨W1.heap.size, 0, none⟩ j) = some u) := Lib.hid (cell_one_new _ _ _)
      clear HO hv hrow hml hmo HC g1 hb
      gi_wp2_with (gi_at_builtin; refine wpListIn_append_own _ rfl _ _ 22 rfl (L + 1 + 1 + 1 + 1 + 1 + 1) 3 i0 (.int .i64 0) 1 8 Tryz.underlying22 hi hz0 hz1 hz2 rfl (by decide) _ _ _ rfl (HRW.out.alloc _) ⟨W1.heap.size, 0, none⟩ 1 1 (List.map (Value.int .i64) [b]) rfl rfl HC1.out ?qc3 ?qc4 ?qc5 ?qc6 ?_)
      case qc3 => intro u hu; simp at hu; subst hu; rfl
      case qc4 => unfold maxLen; omega
      case qc5 => omega
      case qc6 => have hsl2 := hsl; simp at hsl2 ⊢; omega
      intro v' w1 hown' hgrow _
      obtain ⟨g', cap', rfl⟩ := ownsRow_succ hown'
      obtain ⟨hv1, hv2, _, hk2, hb2⟩ := HV.out.appended (by decide) (row_mono HRW.out (show L ≤ _ by omega)) (by omega) (by omega) (row_mono hown' (show L ≤ _ by omega)) hgrow
      have hr2 := hown'.kept (grownBy_setCell' w1 (L + 1 + 1) (.slice (some ⟨g', 0, none⟩) (k + 1) cap')) (.inr (hv1.not_row (by decide) hown').symm)
      have hk3 : Kp3 (L + 1 + 1 + 1) W1 (w1.setCell ⟨L + 1 + 1, 0, none⟩ (.slice (some ⟨g', 0, none⟩) (k + 1) cap')) := fun j h1 h2 =>
        (heap_setCell_other w1 ⟨L + 1 + 1, 0, none⟩ j _ (show j ≠ L + 1 + 1 by omega)).trans ((hgrow.block j (by simp; omega) (fun e => by have := (World.ownsRow.lt HRW.out j e.symm).1; omega)).trans (Below.heap_alloc _ _ _ (by omega)))
      have hc1 := hv1.cell
      have hf1 := hv1.frozen
      have n2 := H21.out.not_row (by decide) HRW.out
      have n3 := H31.out.not_row (by decide) HRW.out
      have H22 := Lib.hid (((H21.out.alloc _).kept hgrow n2).kept (grownBy_setCell' w1 (L + 1 + 1) (.slice (some ⟨g', 0, none⟩) (k + 1) cap')) (by simp; omega))
      have H32 := Lib.hid (((H31.out.alloc _).kept hgrow n3).kept (grownBy_setCell' w1 (L + 1 + 1) (.slice (some ⟨g', 0, none⟩) (k + 1) cap')) (by simp))
      have HV2 := Lib.hid hv2
      have HR2 := Lib.hid hr2
      have HK2 := Lib.hid (HK.out.trans hk2)
      have HB2 := Lib.hid (HBl.out.trans hb2)
      have HKK : Hid (Kp3 (L + 1 + 1 + 1) V2 (w1.setCell ⟨L + 1 + 1, 0, none⟩ (.slice (some ⟨g', 0, none⟩) (k + 1) cap'))) := Lib.hid (fun j h1 h2 => (hk3 j h1 h2).trans (HK3.out j h1 h2))
      clear hv1 hv2 hr2 hk2 hb2 n2 n3 hown' hgrow c4 hk3
      gi_wp2
      exact ⟨HK2.out, HKK.out, by omega, Lib.hid ⟨_, ms ++ [b], HV2.out, by simpa using HR2.out, HML.out, HMO.out⟩, H22, H32, Lib.hid (HGr.out.trans_below HB2.out (by rw [HL.out]; exact Nat.le_refl _)), Nat.lt_of_lt_of_le hs2 HB2.out.size⟩
    · have H21 := (Boxed.kept H2.out (g1.by' none) (by simp))
      have H31 := (Boxed.kept H3.out (g1.by' none) (by simp))
      have q1 := H21.cell
      have q2 := H21.frozen
      have HS2 := Lib.hid (H21.set (.slice none 0 0))
      have h32 := H31.kept (grownBy_setCell' W1 L (.slice none 0 0)) (by simp)
      have q3 := h32.cell
      have q4 := h32.frozen
      have H22 := Lib.hid (HS2.out.kept (grownBy_setCell' _ (L + 1) (.bool false)) (by simp))
      have H32 := Lib.hid (h32.set (.bool false))
      have HK : Hid (KeepsOthers V2 ((W1.setCell ⟨L, 0, none⟩ (.slice none 0 0)).setCell ⟨L + 1, 0, none⟩ (.bool false))) := Lib.hid (((KeepsOthers.of_grownBy (g1.by' none) (fun _ _ e => by cases e)).trans (KeepsOthers.setCell _ _ _)).trans (KeepsOthers.setCell _ _ _))
      have HBl : Hid (Below L V2 ((W1.setCell ⟨L, 0, none⟩ (.slice none 0 0)).setCell ⟨L + 1, 0, none⟩ (.bool false))) := Lib.hid (((Below.mono g1 (by omega)).setCell (p := ⟨L, 0, none⟩) (by show L ≤ L; omega) _).setCell (p := ⟨L + 1, 0, none⟩) (by show L ≤ L + 1; omega) _)
      have HNo : Hid (∃ j, j < nPartsC s ∧ zO s j = none) := Lib.hid ⟨k, hk, hb⟩
      clear HO HC g1 hb H21 H31 h32
      gi_wp2
      exact ⟨HK.out, rfl, H22, H32, Lib.hid (HGr.out.trans_below HBl.out (by rw [HL.out]; exact Nat.le_refl _)), HNo, Nat.lt_of_lt_of_le hs2 HBl.out.size⟩
  case done =>
    rintro D V hD ⟨hk, HO, H2, H3, HGr, hs2⟩ hK
    obtain ⟨v, ms, hv, hrow, hml, hmo⟩ := HO.out
    have hL3 : L + 1 + 1 + 1 + 1 + 1 < D := by rw [HSZ.out] at hD; omega
    rcases own_formC hrow with ⟨a, cap, rfl⟩
    have HRZ := Lib.hid (readZ_of hml hmo)
    generalize nPartsC s = N at *
    have c4 := hv.cell
    have q1 := H2.out.cell
    have q2 := H2.out.frozen
    have s2 := H2.out.set (.slice a N cap)
    have h32 := H3.out.kept (grownBy_setCell' V L (.slice a N cap)) (by simp)
    have q3 := h32.cell
    have q4 := h32.frozen
    have s2' := s2.kept (grownBy_setCell' _ (L + 1) (.bool true)) (by simp)
    have s3 := h32.set (.bool true)
    have hKs := (KeepsOthers.setCell _ ⟨L + 1, 0, none⟩ (.bool true)).same D _ ((KeepsOthers.setCell V ⟨L, 0, none⟩ (.slice a N cap)).same D _ hK rfl) rfl
    have hrw2 := (hrow.kept (grownBy_setCell' V L (.slice a N cap)) (.inr (H2.out.not_row (by decide) hrow).symm)).kept (grownBy_setCell' _ (L + 1) (.bool true)) (.inr (H3.out.not_row (by decide) hrow).symm)
    have hbl : Below L V ((V.setCell ⟨L, 0, none⟩ (.slice a N cap)).setCell ⟨L + 1, 0, none⟩ (.bool true)) := ((Below.refl L V).setCell (p := ⟨L, 0, none⟩) (by show L ≤ L; omega) _).setCell (p := ⟨L + 1, 0, none⟩) (by show L ≤ L + 1; omega) _
    have HGE := Lib.hid ((HGr.out.trans_below hbl (by rw [HL.out]; exact Nat.le_refl _)).trans_below (below_put (B := L) (o' := .deferred none) (by omega) hKs) (by rw [HL.out]; exact Nat.le_refl _))
    have HR1 := Lib.hid ((World.putObj_heap_other (w := (V.setCell ⟨L, 0, none⟩ (.slice a N cap)).setCell ⟨L + 1, 0, none⟩ (.bool true)) (o := .deferred none) (show L ≠ D by omega)).trans s2')
    have HR2 := Lib.hid ((World.putObj_heap_other (w := (V.setCell ⟨L, 0, none⟩ (.slice a N cap)).setCell ⟨L + 1, 0, none⟩ (.bool true)) (o := .deferred none) (show L + 1 ≠ D by omega)).trans s3)
    have HRW := Lib.hid (ownsRow_putObj hrw2 (.deferred none) hKs rfl)
    have HML := Lib.hid hml
    have HKS := Lib.hid hKs
    clear HO hv hrow hml hmo s2 h32 s2' s3 hKs hrw2 hbl
    go_wp2
    refine ⟨by simp, .inl ⟨_, _, rfl, run_takeDeferred HKS.out, ?_⟩⟩
    have r1 : (World.putObj _ D (.deferred none)).cell? ⟨L, 0, none⟩ = some (.slice a N cap) := Boxed.cell HR1.out
    have r2 : (World.putObj _ D (.deferred none)).cell? ⟨L + 1, 0, none⟩ = some (.bool true) := Boxed.cell HR2.out
    exact ⟨.tuple #[.slice a N cap, .bool true], by simp [results, Tryz.results57, go_sem, r1, r2], .inl ⟨ms, a, cap, HRZ.out, by rw [HML.out], by rw [HML.out]; exact row_mono HRW.out (by rw [HL.out]; omega)⟩, HGE.out⟩
  case stop =>
    rintro D c V hD ⟨rfl, H2, H3, HGr, HNo, hs2⟩ hK
    have hL3 : L + 1 + 1 + 1 + 1 + 1 < D := by rw [HSZ.out] at hD; omega
    refine (wpIn_wide (n := 9)).2 ?_
    have HR1 := Lib.hid ((World.putObj_heap_other (w := V) (o := .deferred none) (show L ≠ D by omega)).trans H2.out)
    have HR2 := Lib.hid ((World.putObj_heap_other (w := V) (o := .deferred none) (show L + 1 ≠ D by omega)).trans H3.out)
    have HGE := Lib.hid (HGr.out.trans_below (below_put (B := L) (o' := .deferred none) (by omega) hK) (by rw [HL.out]; exact Nat.le_refl _))
    go_wp2
    refine ⟨by simp, .inl ⟨_, _, rfl, run_takeDeferred hK, ?_⟩⟩
    have r1 : (World.putObj _ D (.deferred none)).cell? ⟨L, 0, none⟩ = some (.slice none 0 0) := Boxed.cell HR1.out
    have r2 : (World.putObj _ D (.deferred none)).cell? ⟨L + 1, 0, none⟩ = some (.bool false) := Boxed.cell HR2.out
    exact ⟨.tuple #[.slice none 0 0, .bool false], by simp [results, Tryz.results57, go_sem, r1, r2], .inr ⟨(by obtain ⟨j, hj, hz⟩ := HNo.out; exact readZ_none hj hz), rfl⟩, HGE.out⟩
end Go.Proofs.YthcahpgandappaaGreatDoor
