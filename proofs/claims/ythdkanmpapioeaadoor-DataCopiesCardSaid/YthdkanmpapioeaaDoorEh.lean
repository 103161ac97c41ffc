/- strings.SplitSeq at a single space; read and Parse of package data: the numbers of a side, the example of a text, or none. Conditions: strings of at most 10^6 bytes; the table of powers of ten holds its numbers. -/
import Derived.Test.YthdkanmpapioeaaDoorEg
namespace Go.Proofs.YthdkanmpapioeaaDoor
open Go.RowKit Go.Shelf
attribute [local go_sem] Oper.semAt_some

theorem index_cut : ∀ (a b : List UInt8), (32 : UInt8) ∉ a → Lib.indexByte (a ++ 32 :: b) 32 = (a.length : Int)
  | [], b, _ => by simp [Lib.indexByte]
  | c :: a, b, h => by
    have hc : (c == 32) = false := by rw [beq_eq_false_iff_ne]; exact fun e => h (by simp [e])
    have ih := index_cut a b (fun e => h (by simp [e]))
    have h1 : ((a.length : Int) == -1) = false := by rw [beq_eq_false_iff_ne]; omega
    rw [List.cons_append]
    unfold Lib.indexByte
    rw [hc, ih, h1]
    simp
theorem index_no : ∀ (a : List UInt8), (32 : UInt8) ∉ a → Lib.indexByte a 32 = -1
  | [], _ => rfl
  | c :: a, h => by
    have hc : (c == 32) = false := by rw [beq_eq_false_iff_ne]; exact fun e => h (by simp [e])
    unfold Lib.indexByte
    rw [hc, index_no a (fun e => h (by simp [e]))]
    rfl
/-- The k-th part of a string between single spaces. -/
def prt (s : ByteArray) (k : Nat) : ByteArray := ⟨((splitSp s.data.toList)[k]?.getD []).toArray⟩
def nParts (s : ByteArray) : Nat := (splitSp s.data.toList).length
/-- How much of the iterator's own string is left. -/
def leftAt (S : Nat) (W : World) : Nat := match W.cell? ⟨S, 0, none⟩ with
  | some (.string t) => t.size
  | _ => 0
theorem leftAt_of {S : Nat} {W : World} {T : TypeId} {t : ByteArray} (h : Boxed W S T (.string t)) : leftAt S W = t.size := by unfold leftAt; rw [h.cell]
theorem size_data (t : ByteArray) : t.size = t.data.toList.length := Array.length_toList.symm
theorem parts_last {s t : ByteArray} {k : Nat} (h : (splitSp s.data.toList).drop k = splitSp t.data.toList) (h32 : (32 : UInt8) ∉ t.data.toList) : nParts s = k + 1 ∧ prt s k = t := by
  rw [split_last _ h32] at h
  have hl := congrArg List.length h
  rw [List.length_drop] at hl
  have h0 : (splitSp s.data.toList)[k]? = some t.data.toList := by
    have := congrArg (fun l => l[0]?) h
    simpa using this
  refine ⟨by unfold nParts; simp at hl; omega, ?_⟩
  unfold prt
  rw [h0]
  cases t; simp
theorem parts_cut {s t : ByteArray} {k : Nat} {a b : List UInt8} (h : (splitSp s.data.toList).drop k = splitSp t.data.toList) (ht : t.data.toList = a ++ 32 :: b) (h32 : (32 : UInt8) ∉ a) :
    k + 1 < nParts s ∧ prt s k = ⟨a.toArray⟩ ∧ (splitSp s.data.toList).drop (k + 1) = splitSp b := by
  rw [ht, split_cut a b h32] at h
  have hl := congrArg List.length h
  rw [List.length_drop, List.length_cons] at hl
  have hb : 0 < (splitSp b).length := List.length_pos_iff.2 (split_ne b)
  have h0 : (splitSp s.data.toList)[k]? = some a := by
    have := congrArg (fun l => l[0]?) h
    simpa using this
  refine ⟨by unfold nParts; omega, ?_, ?_⟩
  · unfold prt; rw [h0]; rfl
  · rw [← List.drop_drop, h]; rfl
theorem ext_left {t : ByteArray} {a r : List UInt8} (ht : t.data.toList = a ++ r) : t.extract 0 a.length = ⟨a.toArray⟩ := by
  apply ByteArray.ext
  apply Array.ext'
  simp [ht]
theorem ext_right {t : ByteArray} {a b : List UInt8} (ht : t.data.toList = a ++ 32 :: b) : t.extract (a.length + 1) t.size = ⟨b.toArray⟩ := by
  apply ByteArray.ext
  apply Array.ext'
  have : t.size = a.length + (b.length + 1) := by rw [size_data, ht]; simp
  simp [ht, this]
  rw [show a.length + (b.length + 1) - (a.length + 1) = b.length by omega, List.take_length]

set_option maxRecDepth 100000 in
set_option maxHeartbeats 4000000 in
theorem split_in (n : Nat) (hn : 1 ≤ n) (l : Nat) {S D : Nat} {s : ByteArray} (hs : s.size ≤ 1000000) (J : Nat → World → Prop) (X : World → Prop)
    (hJ : ∀ k V V', J k V → V.grownBy V' (some S) → J k V')
    (hY : ∀ k V, J k V → k < nParts s → YieldAt Fence.wide (n - 1) Tryd.prog l #[.string (prt s k)] V fun e V' => (e = .returned (.bool true) ∧ J (k + 1) V' ∧ Below D V V') ∨ (e = .returned (.bool false) ∧ X V'))
    (W : World) (hS : Boxed W S 9 (.string s)) (hP : Boxed W (S + 1) 9 (.string ⟨#[32]⟩)) (hZ : Boxed W (S + 1 + 1) 3 (.int .i64 0)) (hD : S + 1 + 1 < D) (h0 : J 0 W) :
    CallsIn Fence.wide n Tryd.prog 82 #[.func (.yield l) #[] #[], .pointer (some ⟨S + 1, 0, none⟩), .pointer (some ⟨S, 0, none⟩), .pointer (some ⟨S + 1 + 1, 0, none⟩)] W fun e W' => (∃ v, e = .returned v) ∧ (J (nParts s) W' ∨ X W') := by
  have c1 := hP.cell
  have HS := Lib.hid hS
  have HP := Lib.hid hP
  have HZ := Lib.hid hZ
  have HYH := Lib.hid hY
  have HJ := Lib.hid hJ
  clear hS hP hZ hY hJ
  refine callsIn_of_wp Tryd.func82 rfl trivial ?_ rfl
  simp only [Tryd.ntmps82, List.size_toArray, List.length_cons, List.length_nil, Nat.reduceAdd, Nat.reduceSub, Array.replicate_succ, Array.replicate_zero, List.push_toArray, List.append_toArray, List.nil_append, List.cons_append]
  gi_wp2
  gi_loopw [] (fun wr => ∃ (k : Nat) (t : ByteArray), t.size ≤ 1000000 ∧ J k wr ∧ Hid (Boxed wr S 9 (.string t)) ∧ Hid (Boxed wr (S + 1) 9 (.string ⟨#[32]⟩)) ∧ Hid (Boxed wr (S + 1 + 1) 3 (.int .i64 0)) ∧ Hid ((splitSp s.data.toList).drop k = splitSp t.data.toList)) (fun wr => leftAt S wr)
  case atStart => exact ⟨0, s, hs, h0, HS, HP, HZ, Lib.hid rfl⟩
  case round =>
    clear c1 HS HP HZ
    obtain ⟨k, t, hts, hJk, HSk, HPk, HZk, HD⟩ := hrel
    have s0 := HSk.out.cell
    have p0 := HPk.out.cell
    have z0 := HZk.out.cell
    rcases split_form t.data.toList with h32 | ⟨a, b, ht, h32⟩
    · obtain ⟨hN, hp⟩ := parts_last HD.out h32
      obtain ⟨fn, tmps, assign, body, hy, hR⟩ := HYH.out k wr hJk (by omega)
      rw [hp] at hy
      have HRR := Lib.hid hR
      have HIX := Lib.hid (index_no _ h32)
      have HN := Lib.hid hN
      clear hR h32 hp hN
      gi_wp2_with fail
      refine ⟨trivial, (callsIn_wide.2 (Tryd.strings_Index_one t 32 wr)).mono ?_⟩
      rintro e w1 ⟨rfl, rfl⟩
      rw [HIX.out]
      gi_wp2
      refine HRR.out.mono ?_
      rintro e W3 (⟨rfl, hJ3, hk3⟩ | ⟨rfl, hX⟩)
      · gi_wp2
        go_end0
        exact ⟨⟨_, rfl⟩, .inl (by rw [HN.out]; exact hJ3)⟩
      · gi_wp2
        go_end0
        exact ⟨⟨_, rfl⟩, .inr hX⟩
    · obtain ⟨hN, hp, hdr⟩ := parts_cut HD.out ht h32
      have HE1 := Lib.hid (ext_left ht)
      have HE2 := Lib.hid (ext_right ht)
      obtain ⟨fn, tmps, assign, body, hy, hR⟩ := HYH.out k wr hJk (by omega)
      have hsz : t.size = a.length + (b.length + 1) := by rw [size_data, ht]; simp
      rw [hp, ← HE1.out] at hy
      have HRR := Lib.hid hR
      have HIX : Hid (Lib.indexByte t.data.toList 32 = (a.length : Int)) := Lib.hid (by rw [ht]; exact index_cut a b h32)
      have HDR : Hid ((splitSp s.data.toList).drop (k + 1) = splitSp (⟨b.toArray⟩ : ByteArray).data.toList) := Lib.hid (by rw [hdr])
      have HBS : Hid ((⟨b.toArray⟩ : ByteArray).size = b.length) := Lib.hid (by simp [ByteArray.size])
      have HSZ := Lib.hid hsz
      have hal : a.length + 1 ≤ t.size := by omega
      generalize a.length = m at *
      clear hR h32 hp hN hdr ht hsz
      gi_wp2_with fail
      refine ⟨trivial, (callsIn_wide.2 (Tryd.strings_Index_one t 32 wr)).mono ?_⟩
      rintro e w1 ⟨rfl, rfl⟩
      rw [HIX.out]
      gi_wp2
      refine HRR.out.mono ?_
      rintro e W3 (⟨rfl, hJ3, hk3⟩ | ⟨rfl, hX⟩)
      · have hS3 : Boxed W3 S 9 (.string t) := (hk3.block S (by omega)).trans HSk.out
        have HP3 : Hid (Boxed W3 (S + 1) 9 (.string ⟨#[32]⟩)) := Lib.hid ((hk3.block (S + 1) (by omega)).trans HPk.out)
        have HZ3 : Hid (Boxed W3 (S + 1 + 1) 3 (.int .i64 0)) := Lib.hid ((hk3.block (S + 1 + 1) (by omega)).trans HZk.out)
        have s3 := hS3.cell
        have f3 := hS3.frozen
        have p3 := HP3.out.cell
        have HS4 := Lib.hid (hS3.set (.string ⟨b.toArray⟩))
        have HP4 := Lib.hid (HP3.out.kept (grownBy_setCell' W3 S (.string ⟨b.toArray⟩)) (by simp))
        have HZ4 := Lib.hid (HZ3.out.kept (grownBy_setCell' W3 S (.string ⟨b.toArray⟩)) (by simp; omega))
        have hJ4 := HJ.out _ _ _ hJ3 (grownBy_setCell' W3 S (.string ⟨b.toArray⟩))
        have HLO := Lib.hid (leftAt_of HSk.out)
        have HLN := Lib.hid (leftAt_of HS4.out)
        clear s0 p0 z0 hS3 hJ3 hk3
        gi_wp2
        rw [HE2.out]
        go_roundw
        case rel => exact ⟨k + 1, ⟨b.toArray⟩, by rw [HBS.out]; have := HSZ.out; omega, hJ4, HS4, HP4, HZ4, HDR⟩
        case measure => rw [HLN.out, HLO.out, HBS.out, HSZ.out]; omega
      · gi_wp2
        refine bodyPost_ret (results_none rfl _ _ _) rfl ?_
        exact ⟨⟨_, rfl⟩, .inr hX⟩
theorem split_yields (n : Nat) (hn : 1 ≤ n) {S D : Nat} {s : ByteArray} (hs : s.size ≤ 1000000) (w : World) (hS : Boxed w S 9 (.string s)) (hP : Boxed w (S + 1) 9 (.string ⟨#[32]⟩)) (hZ : Boxed w (S + 1 + 1) 3 (.int .i64 0)) (hD : S + 1 + 1 < D) (hw : D ≤ w.heap.size) :
    YieldsO Fence.wide n Tryd.prog 82 #[.pointer (some ⟨S + 1, 0, none⟩), .pointer (some ⟨S, 0, none⟩), .pointer (some ⟨S + 1 + 1, 0, none⟩)] (fun k => #[.string (prt s k)]) (nParts s) (Below D) (fun V V' => V.grownBy V' (some S)) w := fun l J X W hW hJ hY h0 =>
  split_in n hn l hs J X hJ hY W ((hW.block S (by omega)).trans hS) ((hW.block (S + 1) (by omega)).trans hP) ((hW.block (S + 1 + 1) (by omega)).trans hZ) hD h0

theorem splitSeq_any (s : ByteArray) (w : World) :
    Calls Tryd.prog 48 #[.string s, .string ⟨#[32]⟩] w fun e w' => e = .returned (.func (.func 82) #[] #[.pointer (some ⟨w.heap.size + 1, 0, none⟩), .pointer (some ⟨w.heap.size, 0, none⟩), .pointer (some ⟨w.heap.size + 1 + 1, 0, none⟩)]) ∧
      w' = ((w.alloc (.cells #[.string s] 9)).alloc (.cells #[.string ⟨#[32]⟩] 9)).alloc (.cells #[.int .i64 0] 3) := by
  have h1 : Calls Tryd.prog 69 #[.string s, .string ⟨#[32]⟩, .int .i64 0] w fun e w' => e = .returned (.func (.func 82) #[] #[.pointer (some ⟨w.heap.size + 1, 0, none⟩), .pointer (some ⟨w.heap.size, 0, none⟩), .pointer (some ⟨w.heap.size + 1 + 1, 0, none⟩)]) ∧
      w' = ((w.alloc (.cells #[.string s] 9)).alloc (.cells #[.string ⟨#[32]⟩] 9)).alloc (.cells #[.int .i64 0] 3) := by
    go_enter Tryd.func69, Tryd.ntmps69
    go_wp2
    go_ret
    exact ⟨rfl, rfl⟩
  have H1 := Lib.hid h1
  clear h1
  go_enter Tryd.func48, Tryd.ntmps48
  go_wp2_with fail
  refine H1.out.mono ?_
  rintro e w1 ⟨rfl, rfl⟩
  go_wp2
  go_ret
  exact ⟨rfl, rfl⟩

/-- What a part reads as. -/
def rO (q : Int) (s : ByteArray) (k : Nat) : Option Int := pO q (prt s k).data.toList
theorem parse_pO (t : ByteArray) (q : Int) : (pO q t.data.toList = some (parseQ t.data.toList q).1 ∧ (parseQ t.data.toList q).2 = true) ∨ (pO q t.data.toList = none ∧ (parseQ t.data.toList q).2 = false) := by
  unfold pO
  by_cases h : qOk q
  · have e : parseQ t.data.toList q = parseV t.data.toList q.toNat := by unfold parseQ; rw [if_pos (show 0 ≤ q ∧ q ≤ 62 from h)]
    rw [e]
    cases hv : (parseV t.data.toList q.toNat).2 with
    | true => exact .inl ⟨if_pos ⟨h, rfl⟩, rfl⟩
    | false => exact .inr ⟨if_neg (fun c => by cases c.2), rfl⟩
  · have e : parseQ t.data.toList q = (0, false) := parseQ_no h
    rw [e]
    exact .inr ⟨if_neg (fun c => h c.1), rfl⟩
set_option maxHeartbeats 1000000 in
theorem readF_any (t : ByteArray) (q : Int) (b : Nat) (w : World) (ht : t.size ≤ 1000000) (hb : Boxed w b 3 (.int .i64 q)) (hT : Lib.TabIs Tryd.prog w "internal/strconv.uint64pow10" .u64 Lib.pow10Tab) :
    Calls Tryd.prog 49 #[.string t, .pointer (some ⟨b, 0, none⟩)] w fun e w' => ((∃ x, pO q t.data.toList = some x ∧ e = .returned (.tuple #[.int .i64 x, .bool true])) ∨ (pO q t.data.toList = none ∧ ∃ x, e = .returned (.tuple #[.int .i64 x, .bool false]))) ∧ Grew w w' := by
  have c0 := hb.cell
  have HC := Lib.hid (parse_pO t q)
  go_enter Tryd.func49, Tryd.ntmps49
  go_wp2_with fail
  refine (parse_any t q _ (by omega) hT).mono ?_
  rintro e w1 ⟨rfl, g1⟩
  rcases HC.out with ⟨h1, h2⟩ | ⟨h1, h2⟩
  · rw [h2]
    have H1 := Lib.hid h1
    clear h1 h2 HC
    go_wp2
    go_ret2
    exact ⟨.inl ⟨_, H1.out, rfl⟩, g1⟩
  · rw [h2]
    have H1 := Lib.hid h1
    clear h1 h2 HC
    go_wp2
    go_ret2
    exact ⟨.inr ⟨H1.out, _, rfl⟩, g1⟩
theorem prt_size (s : ByteArray) (k : Nat) : (prt s k).size ≤ s.size := by
  unfold prt
  rw [size_data, size_data]
  show ((splitSp s.data.toList)[k]?.getD []).length ≤ _
  cases h : (splitSp s.data.toList)[k]? with
  | none => simp
  | some p =>
    have hm := List.mem_of_getElem? h
    have key : ∀ (n : Nat) (l : List UInt8), l.length ≤ n → ∀ p ∈ splitSp l, p.length ≤ l.length := by
      intro n
      induction n with
      | zero =>
        intro l hl p hp
        obtain rfl := List.eq_nil_of_length_eq_zero (Nat.le_zero.1 hl)
        simp [splitSp] at hp
        subst hp
        exact Nat.le_refl _
      | succ n ih =>
        intro l hl p hp
        rcases split_form l with h | ⟨a, b, rfl, h⟩
        · rw [split_last l h] at hp
          simp at hp
          subst hp
          exact Nat.le_refl _
        · rw [split_cut a b h] at hp
          rcases List.mem_cons.1 hp with rfl | hp
          · simp
          · have := ih b (by simp at hl; omega) p hp
            simp; omega
    exact key _ _ (Nat.le_refl _) p hm
theorem nParts_le (s : ByteArray) : nParts s ≤ s.size + 1 := by
  unfold nParts
  rw [size_data]
  have key : ∀ (n : Nat) (l : List UInt8), l.length ≤ n → (splitSp l).length ≤ l.length + 1 := by
    intro n
    induction n with
    | zero =>
      intro l hl
      obtain rfl := List.eq_nil_of_length_eq_zero (Nat.le_zero.1 hl)
      simp [splitSp]
    | succ n ih =>
      intro l hl
      rcases split_form l with h | ⟨a, b, rfl, h⟩
      · rw [split_last l h]; simp
      · rw [split_cut a b h]
        have := ih b (by simp at hl; omega)
        simp; omega
  exact key _ _ (Nat.le_refl _)
/-- The parts' numbers make up what a side reads as. -/
theorem read_of {q : Int} {s : ByteArray} {ms : List Int} (hl : ms.length = nParts s) (h : ∀ j, j < nParts s → rO q s j = some (ms[j]?.getD 0)) : readS q s.data.toList = some ms := by
  have key : ∀ (l : List (List UInt8)) (ms : List Int), ms.length = l.length → (∀ j, j < l.length → pO q (l[j]?.getD []) = some (ms[j]?.getD 0)) → mapO (pO q) l = some ms := by
    intro l
    induction l with
    | nil => intro ms hl _; obtain rfl : ms = [] := List.eq_nil_of_length_eq_zero (by simpa using hl); rfl
    | cons p r ih =>
      intro ms hl h
      cases ms with
      | nil => simp at hl
      | cons m ms =>
        unfold mapO
        rw [show pO q p = some m from h 0 (by simp), ih ms (by simpa using hl) (fun j hj => by have := h (j + 1) (by simpa using hj); simpa using this)]
  unfold readS
  exact key _ ms hl (fun j hj => by have := h j hj; unfold rO prt at this; simpa using this)
theorem read_none {q : Int} {s : ByteArray} {j : Nat} (hj : j < nParts s) (h : rO q s j = none) : readS q s.data.toList = none := by
  unfold readS
  refine mapO_none _ _ (a := (splitSp s.data.toList)[j]?.getD []) ?_ ?_
  · rw [List.getElem?_eq_getElem (show j < (splitSp s.data.toList).length from hj)]
    exact List.getElem_mem _
  · unfold rO prt at h; simpa using h

set_option maxHeartbeats 2000000 in
theorem read_any (s : ByteArray) (q : Int) (w : World) (hs : s.size ≤ 1000000) (hT : Lib.TabIs Tryd.prog w "internal/strconv.uint64pow10" .u64 Lib.pow10Tab) :
    Calls Tryd.prog 29 #[.string s, .int .i64 q] w fun e w' => ((∃ x a c, readS q s.data.toList = some x ∧ e = .returned (.tuple #[.slice a x.length c, .bool true]) ∧ BufK .i64 2 w.heap.size w' a x.length c x) ∨ (readS q s.data.toList = none ∧ e = .returned (.tuple #[.slice none 0 0, .bool false]))) ∧ Grew w w' := by
  have hg : Grew w ((((w.alloc (.cells #[.int .i64 q] 3)).alloc (.cells #[.string s] 9)).alloc (.cells #[.string ⟨#[32]⟩] 9)).alloc (.cells #[.int .i64 0] 3)) := ((((Grew.refl w).alloc _).alloc _).alloc _).alloc _
  have b1 := (((Boxed.new w 3 (.int .i64 q)).alloc (.cells #[.string s] 9)).alloc (.cells #[.string ⟨#[32]⟩] 9)).alloc (.cells #[.int .i64 0] 3)
  have b2 := ((Boxed.new (w.alloc (.cells #[.int .i64 q] 3)) 9 (.string s)).alloc (.cells #[.string ⟨#[32]⟩] 9)).alloc (.cells #[.int .i64 0] 3)
  have b3 := (Boxed.new ((w.alloc (.cells #[.int .i64 q] 3)).alloc (.cells #[.string s] 9)) 9 (.string ⟨#[32]⟩)).alloc (.cells #[.int .i64 0] 3)
  have b4 := Boxed.new (((w.alloc (.cells #[.int .i64 q] 3)).alloc (.cells #[.string s] 9)).alloc (.cells #[.string ⟨#[32]⟩] 9)) 3 (.int .i64 0)
  rw [World.size_alloc] at b2
  rw [World.size_alloc, World.size_alloc] at b3
  rw [World.size_alloc, World.size_alloc, World.size_alloc] at b4
  have hsz : ((((w.alloc (.cells #[.int .i64 q] 3)).alloc (.cells #[.string s] 9)).alloc (.cells #[.string ⟨#[32]⟩] 9)).alloc (.cells #[.int .i64 0] 3)).heap.size = w.heap.size + 1 + 1 + 1 + 1 := by simp
  have HG := Lib.hid hg
  have HP := Lib.hid hT
  have B1 := Lib.hid b1
  have B2 := Lib.hid b2
  have B3 := Lib.hid b3
  have B4 := Lib.hid b4
  have HSZ := Lib.hid hsz
  have hnp := nParts_le s
  clear hg b1 b2 b3 b4 hsz hT
  go_enter Tryd.func29, Tryd.ntmps29
  go_wp2_with fail
  refine (splitSeq_any s _).mono ?_
  rintro e w1 ⟨rfl, rfl⟩
  rw [World.size_alloc]
  generalize (((w.alloc (.cells #[.int .i64 q] 3)).alloc (.cells #[.string s] 9)).alloc (.cells #[.string ⟨#[32]⟩] 9)).alloc (.cells #[.int .i64 0] 3) = W0 at *
  obtain ⟨L, hL⟩ : ∃ L, w.heap.size = L := ⟨_, rfl⟩
  have HL := Lib.hid hL
  rw [hL] at B1 B2 B3 B4 HSZ ⊢
  clear hL
  go_wp2_with fail
  refine (mapN (gf := 82) (gs := 49) (lb := #[.pointer (some ⟨L + 1 + 1, 0, none⟩), .pointer (some ⟨L + 1, 0, none⟩), .pointer (some ⟨L + 1 + 1 + 1, 0, none⟩)]) (caps := #[.pointer (some ⟨L, 0, none⟩)]) (enters_of Tryd.func82 (by kernel_rfl) rfl) (enters_of Tryd.func49 (by kernel_rfl) rfl)
    (E := fun k => prt s k) (o := fun k => rO q s k) (N := nParts s) (rr := some (L + 1)) W0 (by omega) (fun x e => by injection e with e; rw [HSZ.out]; omega)
    (fun W g => split_yields 8 (by omega) hs W (boxed_kept B2.out g) (boxed_kept B3.out g) (boxed_kept B4.out g) (by rw [HSZ.out]; omega) g.size)
    (fun k W hk g => readF_any (prt s k) q L W (Nat.le_trans (prt_size s k) hs) (B1.out.kept g (by simp)) (tab_below HP.out (Nat.le_refl _) (HG.out.trans_below (grownBy_below g (by rw [HL.out]; omega) (by rw [HSZ.out, HL.out]; omega)) (Nat.le_refl _))))).mono ?_
  rintro e w2 ⟨⟨v, ms, rfl, hml, hmo, hrow⟩ | ⟨rfl, j, hj, hno⟩, g2⟩
  · have HG2 : Hid (Grew w w2) := Lib.hid (HG.out.trans_below (grownBy_below g2 (by rw [HL.out]; omega) (by rw [HSZ.out, HL.out]; omega)) (Nat.le_refl _))
    obtain ⟨a, c, rfl⟩ := own_form hrow
    have HR := Lib.hid (read_of hml hmo)
    have HB : Hid (BufK .i64 2 L w2 a ms.length c ms) := Lib.hid (by
      rw [hml]
      have h := hrow
      rw [HSZ.out] at h
      exact BufK.mono (B := L + 1 + 1 + 1 + 1) h (by omega))
    rw [← hml]
    clear hrow hmo hml g2 HG B1 B2 B3 B4 HSZ HP hnp
    go_wp2
    go_ret2
    exact ⟨.inl ⟨ms, a, c, HR.out, rfl, by rw [HL.out]; exact HB.out⟩, HG2.out⟩
  · have HG2 : Hid (Grew w w2) := Lib.hid (HG.out.trans_below (grownBy_below g2 (by rw [HL.out]; omega) (by rw [HSZ.out, HL.out]; omega)) (Nat.le_refl _))
    have HR := Lib.hid (read_none hj hno)
    clear hno g2 HG B1 B2 B3 B4 HSZ HP hnp
    go_wp2
    go_ret2
    exact ⟨.inr ⟨HR.out, rfl⟩, HG2.out⟩
end Go.Proofs.YthdkanmpapioeaaDoor
