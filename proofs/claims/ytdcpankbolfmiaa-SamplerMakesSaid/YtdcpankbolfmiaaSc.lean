/- Many of package draw and of the reference; slices.IndexFunc and ContainsFunc with outside; slices.Equal of ints; the statement's alive. Conditions: at most 2^44 draws and bounds. -/
import Derived.Test.YtdcpankbolfmiaaSb
namespace Go.Proofs.Ytdcpankbolfmiaa
open Go.RowKit

/-- Whether some bound is none. -/
def badB (bs : List Int) : Bool := (List.range bs.length).any fun j => decide (el bs j < 1)
theorem badB_yes {bs : List Int} {j : Nat} (hj : j < bs.length) (h : el bs j < 1) : badB bs = true := by
  unfold badB
  rw [List.any_eq_true]
  exact ⟨j, List.mem_range.2 hj, by simpa using h⟩
theorem badB_no {bs : List Int} (h : ∀ j, j < bs.length → 1 ≤ el bs j) : badB bs = false := by
  unfold badB
  rw [List.any_eq_false]
  intro j hj
  have := h j (List.mem_range.1 hj)
  simp; omega
theorem badB_false {bs : List Int} (h : badB bs = false) : ∀ j, j < bs.length → 1 ≤ el bs j := by
  intro j hj
  unfold badB at h
  rw [List.any_eq_false] at h
  have := h j (List.mem_range.2 hj)
  simp at this; omega
theorem badB_true {bs : List Int} (h : badB bs = true) : ∃ j, j < bs.length ∧ el bs j < 1 := by
  unfold badB at h
  rw [List.any_eq_true] at h
  obtain ⟨j, hj, h⟩ := h
  exact ⟨j, List.mem_range.1 hj, by simpa using h⟩

theorem bindex_any (a : Option Addr) (c : Nat) (bs : List Int) (w : World) (hl : bs.length ≤ 17592186044416) (h : RdK .i64 w.heap.size w a bs) :
    Calls Try.prog 49 #[.slice a bs.length c, .func (.func 45) #[] #[]] w fun e w' => (∃ r : Int, e = .returned (.int .i64 r) ∧ decide (0 ≤ r) = badB bs) ∧ w = w' := by
  have HX := Lib.hid h
  clear h
  go_enter Try.func49, Try.ntmps49
  go_wp2
  go_loopw [8] (fun x wr => ∃ k : Nat, k ≤ bs.length ∧ x = .int .i64 k ∧ Hid (∀ j, j < k → 1 ≤ el bs j) ∧ wr = w) (fun x _ => bs.length - (intOf x).toNat)
  case atStart => exact ⟨0, Nat.zero_le _, rfl, Lib.hid (fun j hj => by omega), rfl⟩
  case round =>
    obtain ⟨k, hk, rfl, HM, rfl⟩ := hrel
    by_cases hlt : k < bs.length
    · obtain ⟨b, off, rfl, hb, hc⟩ := HX.out.at hlt
      by_cases h1 : el bs k < 1
      · have HE := Lib.hid (badB_yes hlt h1)
        generalize el bs k = z at hc h1
        go_wp2_with fail
        refine (outside_any z _).mono ?_
        rintro e w1 ⟨rfl, rfl⟩
        rw [decide_eq_true h1]
        go_wp2
        go_ret
        exact ⟨⟨_, rfl, by rw [HE.out]; simp⟩, rfl⟩
      · have HM' : Hid (∀ j, j < k + 1 → 1 ≤ el bs j) := Lib.hid (fun j hj => by
          by_cases e : j = k
          · subst e; omega
          · exact HM.out j (by omega))
        generalize el bs k = z at hc h1
        go_wp2_with fail
        refine (outside_any z _).mono ?_
        rintro e w1 ⟨rfl, rfl⟩
        rw [decide_eq_false (show ¬ z < 1 by omega)]
        go_wp2
        go_roundw
        case rel => exact ⟨k + 1, by omega, by go_num, HM', trivial⟩
        case measure => simp [intOf]; omega
    · have HE : Hid (badB bs = false) := Lib.hid (badB_no (by rw [show bs.length = k from by omega]; exact HM.out))
      go_wp2
      go_ret
      exact ⟨⟨_, rfl, by rw [HE.out]; simp⟩, rfl⟩

theorem bcontains_any (a : Option Addr) (c : Nat) (bs : List Int) (w : World) (hl : bs.length ≤ 17592186044416) (h : RdK .i64 w.heap.size w a bs) :
    Calls Try.prog 44 #[.slice a bs.length c, .func (.func 45) #[] #[]] w fun e w' => e = .returned (.bool (badB bs)) ∧ w = w' := by
  have HX := Lib.hid h
  clear h
  go_enter Try.func44, Try.ntmps44
  go_wp2_with fail
  refine (bindex_any a c bs _ hl HX.out).mono ?_
  rintro e w1 ⟨⟨r, rfl, hr⟩, rfl⟩
  have HR := Lib.hid hr
  clear hr
  go_wp2
  go_ret
  exact ⟨ret_bool HR.out, rfl⟩

theorem iequal_any (a a' : Option Addr) (c c' : Nat) (xs ys : List Int) (w : World) (hl : xs.length ≤ 17592186044416) (hl2 : ys.length ≤ 17592186044416) (hx : RdK .i64 w.heap.size w a xs) (hy : RdK .i64 w.heap.size w a' ys) :
    Calls Try.prog 10 #[.slice a xs.length c, .slice a' ys.length c'] w fun e w' => e = .returned (.bool (decide (xs = ys))) ∧ Grew w w' := by
  by_cases hlen : xs.length = ys.length
  · have HX := Lib.hid hx
    have HY := Lib.hid hy
    clear hx hy
    rw [← hlen] 
    have HL := Lib.hid hlen
    clear hlen
    go_enter Try.func10, Try.ntmps10
    go_wp2
    go_loopw [13] (fun i wr => ∃ k : Nat, k ≤ xs.length ∧ i = .int .i64 k ∧ Hid (Grew w wr) ∧ Hid (∀ j, j < k → el xs j = el ys j)) (fun i _ => xs.length - (intOf i).toNat)
    case atStart => exact ⟨0, Nat.zero_le _, rfl, Lib.hid (Grew.refl _), Lib.hid (fun j hj => by omega)⟩
    case round =>
      obtain ⟨k, hk, rfl, HG, HM⟩ := hrel
      by_cases hlt : k < xs.length
      · obtain ⟨b, off, rfl, hb, hc⟩ := (HX.out.grow HG.out).at hlt
        obtain ⟨b', off', rfl, hb', hd⟩ := (HY.out.grow HG.out).at (k := k) (by rw [← HL.out]; exact hlt)
        by_cases h1 : el xs k = el ys k
        · have HM' : Hid (∀ j, j < k + 1 → el xs j = el ys j) := Lib.hid (fun j hj => by
            by_cases e : j = k
            · subst e; exact h1
            · exact HM.out j (by omega))
          rw [← h1] at hd
          generalize el xs k = z at *
          clear h1
          go_wp2
          go_quiet (fail)
          go_wp2
          go_roundw
          case rel => exact ⟨k + 1, by omega, by go_num, Lib.hid (HG.out.drewN _), HM'⟩
          case measure => simp [intOf]; omega
        · have HE : Hid (decide (xs = ys) = false) := Lib.hid (decide_eq_false (by rintro rfl; exact h1 rfl))
          generalize el xs k = z at *
          generalize el ys k = z' at *
          go_wp2
          go_quiet (fail)
          go_wp2
          go_ret
          exact ⟨ret_bool HE.out.symm, HG.out.drewN _⟩
      · have HE : Hid (xs = ys) := Lib.hid (el_ext HL.out (by rw [show xs.length = k from by omega]; exact HM.out))
        go_wp2
        go_ret
        exact ⟨ret_bool (decide_eq_true HE.out).symm, HG.out⟩
  · have HE : Hid (decide (xs = ys) = false) := Lib.hid (decide_eq_false (by rintro rfl; exact hlen rfl))
    go_enter Try.func10, Try.ntmps10
    go_wp2
    go_ret
    exact ⟨ret_bool HE.out.symm, Grew.refl _⟩

/-- Whether draws below the bounds can be had when k are used; they; how many are used then. -/
def okM (zs : List Int) (k : Nat) (bs : List Int) : Bool := (List.range bs.length).all fun j => okN zs (k + j) (el bs j)
def outK (zs : List Int) (k : Nat) (bs : List Int) (j : Nat) : List Int := (List.range j).map fun i => el zs (k + i) % el bs i
def resM (zs : List Int) (k : Nat) (bs : List Int) : List Int := if okM zs k bs then outK zs k bs bs.length else []
def nxM (zs : List Int) (k : Nat) (bs : List Int) : Nat := if okM zs k bs then k + bs.length else k
theorem okM_no {zs bs : List Int} {k j : Nat} (hj : j < bs.length) (h : okN zs (k + j) (el bs j) = false) : okM zs k bs = false := by
  unfold okM
  rw [List.all_eq_false]
  exact ⟨j, List.mem_range.2 hj, by rw [h]; simp⟩
theorem okM_yes {zs bs : List Int} {k : Nat} (h : ∀ j, j < bs.length → okN zs (k + j) (el bs j) = true) : okM zs k bs = true := by
  unfold okM
  rw [List.all_eq_true]
  exact fun j hj => h j (List.mem_range.1 hj)
theorem okM_bad {zs bs : List Int} {k : Nat} (h : badB bs = true) : okM zs k bs = false := by
  obtain ⟨j, hj, h1⟩ := badB_true h
  exact okM_no hj (okN_low h1)
theorem okM_short {zs bs : List Int} {k : Nat} (hk : k ≤ zs.length) (h : zs.length < k + bs.length) : okM zs k bs = false :=
  okM_no (j := zs.length - k) (by omega) (okN_out (by omega))
theorem okM_good {zs bs : List Int} {k : Nat} (hb : badB bs = false) (h : k + bs.length ≤ zs.length) : okM zs k bs = true :=
  okM_yes fun j hj => okN_yes (badB_false hb j hj) (by omega)
theorem outK_len (zs bs : List Int) (k j : Nat) : (outK zs k bs j).length = j := by simp [outK]
theorem outK_at {zs bs : List Int} {k j i : Nat} (h : i < j) : el (outK zs k bs j) i = el zs (k + i) % el bs i := by simp [outK, el, h]
theorem outK_succ (zs bs : List Int) (k j : Nat) : outK zs k bs (j + 1) = outK zs k bs j ++ [el zs (k + j) % el bs j] := by simp [outK, List.range_succ]
theorem nxM_le {zs bs : List Int} {k : Nat} (h : k ≤ zs.length) : nxM zs k bs ≤ zs.length := by
  unfold nxM
  cases hb : okM zs k bs with
  | false => simpa using h
  | true =>
    rw [if_pos rfl]
    rcases Nat.lt_or_ge zs.length (k + bs.length) with h1 | h1
    · rw [okM_short h h1] at hb; cases hb
    · exact h1
/-- .. as a row that is filled step by step. -/
def fillK (zs : List Int) (k : Nat) (bs : List Int) : Nat → List Int
  | 0 => List.replicate bs.length 0
  | j + 1 => (fillK zs k bs j).set j (el zs (k + j) % el bs j)
theorem fillK_len (zs bs : List Int) (k : Nat) : ∀ j, (fillK zs k bs j).length = bs.length
  | 0 => by simp [fillK]
  | j + 1 => by simp [fillK, fillK_len zs bs k j]
theorem fillK_at {zs bs : List Int} {k : Nat} : ∀ {j i : Nat}, i < j → j ≤ bs.length → el (fillK zs k bs j) i = el zs (k + i) % el bs i
  | j + 1, i, hi, hj => by
    unfold fillK
    by_cases e : j = i
    · subst e
      exact el_set_same _ (by rw [fillK_len]; omega)
    · rw [el_set_other _ e]
      exact fillK_at (by omega) (by omega)
theorem fillK_all (zs bs : List Int) (k : Nat) : fillK zs k bs bs.length = outK zs k bs bs.length :=
  el_ext (by rw [fillK_len, outK_len]) fun j hj => by
    rw [fillK_len] at hj
    rw [fillK_at hj (Nat.le_refl _), outK_at hj]

theorem many_nil (bs : List Int) (a : Option Addr) (c : Nat) (w : World) : Calls Try.prog 40 #[.pointer none, .slice a bs.length c] w fun e w' => e = .returned (.tuple #[.slice none 0 0, .bool false]) ∧ w = w' := by
  go_enter Try.func40, Try.ntmps40
  go_wp2
  go_ret2
  exact ⟨rfl, rfl⟩

theorem many_none {D b k : Nat} {zs bs : List Int} (a : Option Addr) (c : Nat) {w : World} (hl : zs.length ≤ 17592186044416) (hlb : bs.length ≤ 17592186044416) (h : Stm D w b zs k) (hb : RdK .i64 w.heap.size w a bs) (hno : okM zs k bs = false) :
    Calls Try.prog 40 #[.pointer (some ⟨b, 0, none⟩), .slice a bs.length c] w fun e w' => e = .returned (.tuple #[.slice none 0 0, .bool false]) ∧ Grew w w' := by
  have HL := Lib.hid (left_any hl h)
  have HC := Lib.hid (bcontains_any a c bs w hlb hb)
  have hk := h.le
  cases hbad : badB bs with
  | true =>
    rw [hbad] at HC
    clear h hb hno hbad
    go_enter Try.func40, Try.ntmps40
    go_wp2_with fail
    refine HC.out.mono ?_
    rintro e w1 ⟨rfl, rfl⟩
    go_wp2
    go_ret2
    exact ⟨rfl, Grew.refl _⟩
  | false =>
    have hsh : zs.length < k + bs.length := by
      rcases Nat.lt_or_ge zs.length (k + bs.length) with h1 | h1
      · exact h1
      · rw [okM_good hbad h1] at hno; cases hno
    rw [hbad] at HC
    clear h hb hno hbad
    go_enter Try.func40, Try.ntmps40
    go_wp2_with fail
    refine HC.out.mono ?_
    rintro e w1 ⟨rfl, rfl⟩
    go_wp2_with fail
    refine HL.out.mono ?_
    rintro e w1 ⟨rfl, m1, rfl⟩
    go_wp2
    go_ret2
    exact ⟨rfl, (Grew.refl _).drewN _⟩

set_option maxHeartbeats 1000000 in
theorem many_some {D b k : Nat} {zs bs : List Int} (a : Option Addr) (c : Nat) {w : World} (hl : zs.length ≤ 17592186044416) (hlb : bs.length ≤ 17592186044416) (hu : U64 zs) (hn : ∀ j, j < bs.length → el bs j ≤ 9223372036854775807) (h : Stm D w b zs k) (hb : RdK .i64 w.heap.size w a bs) (hbad : badB bs = false) (hsh : k + bs.length ≤ zs.length) :
    Calls Try.prog 40 #[.pointer (some ⟨b, 0, none⟩), .slice a bs.length c] w fun e w' => (∃ a' c', e = .returned (.tuple #[.slice a' bs.length c', .bool true]) ∧ BufK .i64 3 w.heap.size w' a' bs.length c' (outK zs k bs bs.length)) ∧ Stm D w' b zs (k + bs.length) ∧ w.grownBy w' (some b) := by
  have HL := Lib.hid (left_any hl h)
  have HC := Lib.hid (bcontains_any a c bs w hlb hb)
  have hk := h.le
  rw [hbad] at HC
  have HS := Lib.hid h
  have HX := Lib.hid hb
  have HBad := Lib.hid (badB_false hbad)
  have hlt0 := h.lt
  have hmk := run_make_row' (P := Try.prog) 38 3 (.int .i64 0) 8 Try.underlying38 (by kernel_rfl) rfl .i64 .i64 bs.length (by omega) (by omega)
  clear h hb hbad
  go_enter Try.func40, Try.ntmps40
  go_wp2_with fail
  refine HC.out.mono ?_
  rintro e w1 ⟨rfl, rfl⟩
  go_wp2_with fail
  refine HL.out.mono ?_
  rintro e w1 ⟨rfl, m1, rfl⟩
  go_wp2
  have g0 : Grew w ((w.drewN m1).alloc (.cells (madeCells #[.int .i64 0] bs.length) 3)) := ((Grew.refl w).drewN m1).alloc _
  have HG0 := Lib.hid g0
  have HB0 : Hid (BufK .i64 3 w.heap.size ((w.drewN m1).alloc (.cells (madeCells #[.int .i64 0] bs.length) 3)) (some ⟨w.heap.size, 0, none⟩) bs.length bs.length (fillK zs k bs 0)) := Lib.hid (BufK.made .i64 3 (w.drewN m1) bs.length (by unfold maxLen; omega))
  have HX0 := Lib.hid (HX.out.below g0)
  have HS0 := Lib.hid (HS.out.grow g0)
  generalize (w.drewN m1).alloc (.cells (madeCells #[.int .i64 0] bs.length) 3) = W0 at *
  clear g0
  obtain ⟨hD, _, ad, cd, hc, hm, ht, hr⟩ := HS0.out
  have hmm : cd ≤ 9223372036854775807 := hm
  have c0 := ht.c0
  have c1 := ht.c1
  have HR := Lib.hid hr
  clear ht hm hr
  go_quiet (fail)
  rw [show k + bs.length - k = bs.length by omega]
  obtain ⟨sa, hsa⟩ : ∃ x, (if cd = k then ad else Option.map (fun x => x.add k) ad) = x := ⟨_, rfl⟩
  have HR' : Hid (RdK .u64 D W0 sa (zs.drop k)) := Lib.hid (by rw [← hsa]; exact HR.out.drop hc)
  rw [hsa]
  have HD := Lib.hid (List.length_drop (i := k) (l := zs))
  clear hsa c0 c1
  have HBk : Hid (b < W0.heap.size) := Lib.hid HS0.out.lt
  go_wp2
  go_loopw [43] (fun x wr => ∃ j : Nat, j ≤ bs.length ∧ x = .int .i64 j ∧ Hid (BufK .i64 3 w.heap.size wr (some ⟨w.heap.size, 0, none⟩) bs.length bs.length (fillK zs k bs j)) ∧ Hid (Below w.heap.size W0 wr)) (fun x _ => bs.length - (intOf x).toNat)
  case atStart => exact ⟨0, Nat.zero_le _, rfl, Lib.hid (HB0.out.grow ((Grew.refl _).drewN _)), Lib.hid (Below.mono ((Grew.refl W0).drewN nq) HG0.out.size)⟩
  case round =>
    obtain ⟨j, hj, rfl, HB, HG⟩ := hrel
    by_cases hlt : j < bs.length
    · obtain ⟨g, off, rfl, hg, hc1⟩ := (HR'.out.below (Below.mono HG.out (Nat.le_trans hD (Nat.le_of_lt hlt0)))).at (k := j) (by rw [HD.out]; omega)
      obtain ⟨g2, off2, rfl, hg2, hc2⟩ := (HX0.out.below HG.out).at hlt
      obtain ⟨g3, e3, _, hg3, _, hf3⟩ := HB.out.at hlt
      obtain rfl : g3 = w.heap.size := by injection e3 with e3; injection e3 with e3; exact e3.symm
      rw [el_drop] at hc1
      have hz := hu (k + j) (by omega)
      have hy := HBad.out j hlt
      have hy2 := hn j hlt
      have HS1 := Lib.hid (HB.out.set j (el zs (k + j) % el bs j))
      have HK : Hid ((fillK zs k bs j).set j (el zs (k + j) % el bs j) = fillK zs k bs (j + 1)) := Lib.hid rfl
      rw [HK.out] at HS1
      have HG1 : Hid (Below w.heap.size W0 (wr.setCell ⟨w.heap.size, j, none⟩ (.int .i64 (el zs (k + j) % el bs j)))) := Lib.hid (HG.out.setCell (Nat.le_refl _) _)
      generalize el zs (k + j) = z at *
      generalize el bs j = y at *
      clear e3 HK
      go_wp2_with fail
      refine (below_any z y _ hz.1 hy hy2).mono ?_
      rintro e w1 ⟨rfl, rfl⟩
      go_wp2
      go_roundw
      case rel => exact ⟨j + 1, by omega, by go_num, HS1, HG1⟩
      case measure => simp [intOf]; omega
    · obtain rfl : j = bs.length := by omega
      have hfin : Stm D wr b zs k := HS0.out.keep (HG.out.mono (Nat.le_trans hD (Nat.le_of_lt hlt0))) (Below.block HG.out b hlt0)
      have HS2 := Lib.hid hfin
      obtain ⟨_, _, a3, c3, _, _, ht3, _⟩ := hfin
      have c1 := ht3.c1
      have f1 := ht3.f1
      have HB' : Hid (BufK .i64 3 w.heap.size wr (some ⟨w.heap.size, 0, none⟩) bs.length bs.length (outK zs k bs bs.length)) := Lib.hid (by rw [← fillK_all]; exact HB.out)
      have HG1 : Hid (Grew w wr) := Lib.hid (HG0.out.trans_below HG.out (Nat.le_refl _))
      clear ht3
      go_wp2
      go_ret2
      refine ⟨⟨_, _, rfl, ownsRow_setCell_below HB'.out (a := ⟨b, 1, none⟩) hlt0 _⟩, ?_, grownBy_trans (HG1.out.by' _) (grownBy_setCell1 _ _ _)⟩
      have := HS2.out.put (m := k + bs.length) hsh
      rwa [Int.natCast_add] at this

theorem many_any {D b k : Nat} {zs bs : List Int} (a : Option Addr) (c : Nat) {w : World} (hl : zs.length ≤ 17592186044416) (hlb : bs.length ≤ 17592186044416) (hu : U64 zs) (hn : ∀ j, j < bs.length → el bs j ≤ 9223372036854775807) (h : Stm D w b zs k) (hb : RdK .i64 w.heap.size w a bs) :
    Calls Try.prog 40 #[.pointer (some ⟨b, 0, none⟩), .slice a bs.length c] w fun e w' => (∃ a' c', e = .returned (.tuple #[.slice a' (resM zs k bs).length c', .bool (okM zs k bs)]) ∧ BufK .i64 3 w.heap.size w' a' (resM zs k bs).length c' (resM zs k bs)) ∧ Stm D w' b zs (nxM zs k bs) ∧ w.grownBy w' (some b) := by
  cases hok : okM zs k bs with
  | false =>
    refine (many_none a c hl hlb h hb hok).mono ?_
    rintro e w1 ⟨rfl, g1⟩
    have h1 : resM zs k bs = [] := by unfold resM; rw [hok]; rfl
    have h2 : nxM zs k bs = k := by unfold nxM; rw [hok]; rfl
    rw [h1, h2]
    exact ⟨⟨none, 0, rfl, World.ownsRow_nil _ _ _ _⟩, h.grow g1, g1.by' _⟩
  | true =>
    have hbad : badB bs = false := by
      cases hb2 : badB bs with
      | false => rfl
      | true => rw [okM_bad hb2] at hok; cases hok
    have hsh : k + bs.length ≤ zs.length := by
      rcases Nat.lt_or_ge zs.length (k + bs.length) with h1 | h1
      · rw [okM_short h.le h1] at hok; cases hok
      · exact h1
    refine (many_some a c hl hlb hu hn h hb hbad hsh).mono ?_
    rintro e w1 ⟨⟨a', c', rfl, hB⟩, hS, hg⟩
    have h1 : resM zs k bs = outK zs k bs bs.length := by unfold resM; rw [hok]; rfl
    have h2 : nxM zs k bs = k + bs.length := by unfold nxM; rw [hok]; rfl
    rw [h1, h2]
    exact ⟨⟨a', c', by rw [outK_len], by rw [outK_len]; exact hB⟩, hS, hg⟩
end Go.Proofs.Ytdcpankbolfmiaa
