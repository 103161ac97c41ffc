/- Index of a shape, way by way. Conditions: the sizes are right; the table of powers of ten is laid. -/
import Derived.Test.YtfgadjpdpocdbaaDoorHj
import Derived.Test.YtfgadjpdpocdbaaDoorHk
namespace Go.Proofs.YtfgadjpdpocdbaaDoor
open Go.RowKit Go.Shelf

/-- No parameter has this name. -/
def Noname (zs : List Int) (l : List UInt8) : Prop := ∀ i k r c, At zs i k r c → nmL k r c ≠ l
theorem str_eq {s t : ByteArray} : (s.toList == t.toList) = decide (s = t) := by
  rw [Lib.toList_data, Lib.toList_data]
  by_cases h : s = t
  · subst h; simp
  · rw [decide_eq_false h, beq_eq_false_iff_ne]
    intro e
    exact h (ByteArray.ext (Array.toList_inj.1 e))
theorem str_same (s : ByteArray) : (s.toList == s.toList) = true := by rw [str_eq]; simp
theorem name_other {D b : Nat} {i : Int} {zs : List Int} {w : World} (hR : Right zs) (h : Shp D w b zs) (s : ByteArray) (hs : 0 < s.size) (hno : Noname zs s.data.toList) (hT : Lib.TabIs Tryd.prog w "internal/strconv.uint64pow10" .u64 Lib.pow10Tab) :
    Calls Tryd.prog 24 #[.pointer (some ⟨b, 0, none⟩), .int .i64 i] w fun e w' => (∃ t : ByteArray, e = .returned (.string t) ∧ (t.toList == s.toList) = false) ∧ Grew w w' := by
  by_cases ho : i < 0 ∨ cnt zs ≤ i
  · refine (name_no hR h ho).mono ?_
    rintro e w1 ⟨rfl, g⟩
    refine ⟨⟨_, rfl, ?_⟩, g⟩
    rw [str_eq, decide_eq_false_iff_not]
    rintro rfl
    exact absurd hs (by decide)
  · obtain ⟨k, r, c, ha⟩ := at_ex (i := i) hR.2.2.1 (by omega) (by omega)
    refine (name_at hR h ha hT).mono ?_
    rintro e w1 ⟨rfl, g⟩
    refine ⟨⟨_, rfl, ?_⟩, g⟩
    rw [str_eq, decide_eq_false_iff_not]
    intro e
    exact hno i k r c ha (by rw [← e])

theorem index_nil (s : ByteArray) (w : World) : Calls Tryd.prog 25 #[.pointer none, .string s] w fun e w' => e = .returned (.tuple #[.int .i64 0, .bool false]) ∧ Grew w w' := by
  go_enter Tryd.func25, Tryd.ntmps25
  go_wp2_with fail
  refine (read_any s _).mono ?_
  rintro e w1 ⟨rfl, g1⟩
  go_wp2_with fail
  refine (has_nil _ _).mono ?_
  rintro e w2 ⟨rfl, rfl⟩
  go_wp2
  go_ret2
  exact ⟨rfl, g1⟩
theorem hasPrefix_n (s p : ByteArray) (v : Bool) (w : World) (h : Lib.hasPrefix s.data.toList p.data.toList = v) :
    Calls Tryd.prog 36 #[.string s, .string p] w fun e w' => e = .returned (.bool v) ∧ w = w' := by
  subst h
  exact (Tryd.strings_HasPrefix s p w).mono fun e w' ⟨h1, h2⟩ => ⟨h1, h2.symm⟩

set_option maxHeartbeats 4000000 in
theorem index_no {D b : Nat} {zs : List Int} {w : World} (hR : Right zs) (h : Shp D w b zs) (s : ByteArray) (hs : 0 < s.size) (hno : Noname zs s.data.toList) (hT : Lib.TabIs Tryd.prog w "internal/strconv.uint64pow10" .u64 Lib.pow10Tab) :
    Calls Tryd.prog 25 #[.pointer (some ⟨b, 0, none⟩), .string s] w fun e w' => e = .returned (.tuple #[.int .i64 0, .bool false]) ∧ Grew w w' := by
  have HS := Lib.hid h
  have HNo := Lib.hid hno
  have HSz := Lib.hid hs
  clear h hno hs
  rcases link_or zs (rdS s).1 with ⟨k, hk, hkm⟩ | hk
  · have HK := Lib.hid hk
    have HKm := Lib.hid hkm
    have hkz : k < zs.length := by unfold lnk at hkm; omega
    obtain ⟨v, hv⟩ : ∃ v, Lib.hasPrefix s.data.toList [98] = v := ⟨_, rfl⟩
    have HV := Lib.hid hv
    clear hk hv
    go_enter Tryd.func25, Tryd.ntmps25
    go_wp2_with fail
    refine (read_any s _).mono ?_
    rintro e w1 ⟨rfl, g1⟩
    rw [HK.out]
    have HS1 := Lib.hid (HS.out.grow g1)
    have HG1 := Lib.hid g1
    clear g1
    go_wp2_with fail
    refine (has_yes HS1.out HKm.out).mono ?_
    rintro e w2 ⟨rfl, rfl⟩
    obtain ⟨_, sa, cs, aw, cw, ab, cb, h1, h2, h3, h4⟩ := HS1.out
    obtain ⟨gs, rfl, _, hgs, d0, _⟩ := h2.at hkz
    obtain ⟨gw, rfl, _, hgw⟩ := h3.block (by omega)
    obtain ⟨gb, rfl, _, hgb⟩ := h4.block (by omega)
    have d1 := (h3.at hkm).1
    have d2 := (h4.at hkm).1
    have c0 := h1.c0
    have c1 := h1.c1
    have c2 := h1.c2
    have hlt := h1.lt
    obtain ⟨L, hL⟩ : ∃ L, zs.length = L := ⟨_, rfl⟩
    obtain ⟨m, hm⟩ : ∃ m, lnk zs = m := ⟨_, rfl⟩
    rw [hL] at c0 hkz
    rw [hm] at c1 c2 hkm
    generalize (rg (wts zs (lnk zs)) k).1 = lw at *
    generalize (rg (bss zs (lnk zs)) k).1 = lb at *
    generalize el zs k = x at *
    generalize (rdS s).2.1 = row at *
    generalize (rdS s).2.2 = col at *
    clear h1 h2 h3 h4 hL hm HK
    go_wp2
    go_quiet (fail)
    go_wp2_with fail
    refine (hasPrefix_n s ⟨#[98]⟩ v _ HV.out).mono ?_
    rintro e w2 ⟨rfl, rfl⟩
    cases v with
    | true =>
      go_wp2_with fail
      refine (name_other hR (HS1.out.grow ((Grew.refl _).drewN _)) s HSz.out HNo.out (tab_below hT (Nat.le_refl _) (HG1.out.drewN _))).mono ?_
      rintro e w2 ⟨⟨t, rfl, ht⟩, g2⟩
      go_wp2
      go_ret2
      exact ⟨rfl, (HG1.out.drewN _).trans g2⟩
    | false =>
      go_wp2_with fail
      refine (name_other hR (HS1.out.grow ((Grew.refl _).drewN _)) s HSz.out HNo.out (tab_below hT (Nat.le_refl _) (HG1.out.drewN _))).mono ?_
      rintro e w2 ⟨⟨t, rfl, ht⟩, g2⟩
      go_wp2
      go_ret2
      exact ⟨rfl, (HG1.out.drewN _).trans g2⟩
  · have HK := Lib.hid hk
    clear hk
    go_enter Tryd.func25, Tryd.ntmps25
    go_wp2_with fail
    refine (read_any s _).mono ?_
    rintro e w1 ⟨rfl, g1⟩
    have HS1 := Lib.hid (HS.out.grow g1)
    go_wp2_with fail
    refine (has_no HS1.out HK.out).mono ?_
    rintro e w2 ⟨rfl, rfl⟩
    go_wp2
    go_ret2
    exact ⟨rfl, g1⟩

theorem rdS_name {k r : Nat} {c : Int} (hk : k ≤ 1048576) (hr : r ≤ 1048576) (hc : c ≤ 1048576) : rdS ⟨(nmL k r c).toArray⟩ = ((k : Int), (r : Int), if c < 0 then 0 else c) := by
  rw [← rd_name hk hr hc]
  unfold nmL
  split
  · exact rdS_ascii (by decide)
  · exact rdS_ascii (by decide)
theorem prefix_w {k r : Nat} {c : Int} (h : 0 ≤ c) : Lib.hasPrefix (nmL k r c) [98] = false := by
  rw [nmL_w h]
  show (List.isPrefixOf [98] _) = false
  rfl
theorem prefix_b (k r : Nat) : Lib.hasPrefix (nmL k r (-1)) [98] = true := by
  rw [nmL_b]
  show (List.isPrefixOf [98] _) = true
  rfl

set_option maxHeartbeats 4000000 in
theorem index_w {D b k r : Nat} {i c : Int} {zs : List Int} {w : World} (hR : Right zs) (h : Shp D w b zs) (ha : At zs i k r c) (hc : 0 ≤ c) (hT : Lib.TabIs Tryd.prog w "internal/strconv.uint64pow10" .u64 Lib.pow10Tab) :
    Calls Tryd.prog 25 #[.pointer (some ⟨b, 0, none⟩), .string ⟨(nmL k r c).toArray⟩] w fun e w' => e = .returned (.tuple #[.int .i64 i, .bool true]) ∧ Grew w w' := by
  have HS := Lib.hid h
  have HA := Lib.hid ha
  obtain ⟨hk16, hr20, hc20, hi0, hi1⟩ := at_lim hR ha
  have HD := Lib.hid (rdS_name (k := k) (r := r) (c := c) (by omega) hr20 hc20)
  have hkm : k < lnk zs := ha.1
  have HKm := Lib.hid hkm
  have hkz : k < zs.length := by unfold lnk at hkm; omega
  have hx := this_in hR.2.2.1 hkm
  have hn := cntN_in hR.2.2.1 (Nat.le_of_lt hkm)
  have hP : ∃ P, (r : Int) * el zs k = P ∧ 0 ≤ P ∧ cntN zs k + P + c = i := by
    obtain ⟨_, hr, ⟨_, h1, rfl⟩ | ⟨rfl, _⟩⟩ := ha
    · exact ⟨(r : Int) * el zs k, rfl, Int.mul_nonneg (by omega) (by omega), by omega⟩
    · omega
  obtain ⟨P, hP, hP0, hPi⟩ := hP
  have HV := Lib.hid (prefix_w (k := k) (r := r) hc)
  have HI : Hid (wrap64 (wrap64 (cntN zs k + wrap64 P) + c) = i) := Lib.hid (by rw [IntWalk.wrap64_in P ⟨by omega, by omega⟩, IntWalk.wrap64_in (cntN zs k + P) ⟨by omega, by omega⟩, hPi, IntWalk.wrap64_in i ⟨by omega, by omega⟩])
  clear h ha
  go_enter Tryd.func25, Tryd.ntmps25
  go_wp2_with fail
  refine (read_any _ _).mono ?_
  rintro e w1 ⟨rfl, g1⟩
  rw [HD.out]
  simp only [show ¬ c < 0 by omega, if_false]
  have HS1 := Lib.hid (HS.out.grow g1)
  have HG1 := Lib.hid g1
  clear g1
  go_wp2_with fail
  refine (has_yes HS1.out HKm.out).mono ?_
  rintro e w2 ⟨rfl, rfl⟩
  obtain ⟨_, sa, cs, aw, cw, ab, cb, h1, h2, h3, h4⟩ := HS1.out
  obtain ⟨gs, rfl, _, hgs, d0, _⟩ := h2.at hkz
  obtain ⟨gw, rfl, _, hgw⟩ := h3.block (by omega)
  have d1 := (h3.at hkm).1
  rw [wts_at hkm, show (rangeW zs k).1 = cntN zs k from rfl] at d1
  have c0 := h1.c0
  have c1 := h1.c1
  have hlt := h1.lt
  obtain ⟨L, hL⟩ : ∃ L, zs.length = L := ⟨_, rfl⟩
  obtain ⟨m, hm⟩ : ∃ m, lnk zs = m := ⟨_, rfl⟩
  rw [hL] at c0 hkz
  rw [hm] at c1 hkm
  generalize cntN zs k = N at *
  generalize el zs k = x at *
  clear h1 h2 h3 h4 hL hm
  go_wp2
  go_quiet (fail)
  go_wp2_with fail
  refine (hasPrefix_n _ ⟨#[98]⟩ false _ HV.out).mono ?_
  rintro e w2 ⟨rfl, rfl⟩
  go_wp2_with fail
  refine (name_at hR (HS1.out.grow ((Grew.refl _).drewN _)) HA.out (tab_below hT (Nat.le_refl _) (HG1.out.drewN _))).mono ?_
  rintro e w2 ⟨rfl, g2⟩
  have hq := str_same (⟨(nmL k r c).toArray⟩ : ByteArray)
  go_wp2
  go_ret2
  exact ⟨rfl, (HG1.out.drewN _).trans g2⟩
set_option maxHeartbeats 4000000 in
theorem index_b {D b k r : Nat} {i : Int} {zs : List Int} {w : World} (hR : Right zs) (h : Shp D w b zs) (ha : At zs i k r (-1)) (hT : Lib.TabIs Tryd.prog w "internal/strconv.uint64pow10" .u64 Lib.pow10Tab) :
    Calls Tryd.prog 25 #[.pointer (some ⟨b, 0, none⟩), .string ⟨(nmL k r (-1)).toArray⟩] w fun e w' => e = .returned (.tuple #[.int .i64 i, .bool true]) ∧ Grew w w' := by
  have HS := Lib.hid h
  have HA := Lib.hid ha
  obtain ⟨hk16, hr20, hc20, hi0, hi1⟩ := at_lim hR ha
  have HD := Lib.hid (rdS_name (k := k) (r := r) (c := -1) (by omega) hr20 hc20)
  have hkm : k < lnk zs := ha.1
  have HKm := Lib.hid hkm
  have hkz : k < zs.length := by unfold lnk at hkm; omega
  have hx := this_in hR.2.2.1 hkm
  have hn := cntN_in hR.2.2.1 (Nat.le_of_lt hkm)
  have hw := wgt_in hR.2.2.1 hkm
  have hP : cntN zs k + wgt zs k + (r : Int) = i := by
    obtain ⟨_, hr, ⟨h0, _⟩ | ⟨_, rfl⟩⟩ := ha
    · omega
    · rfl
  have HV := Lib.hid (prefix_b k r)
  have HI : Hid (wrap64 i = i) := Lib.hid (IntWalk.wrap64_in i ⟨by omega, by omega⟩)
  clear h ha
  go_enter Tryd.func25, Tryd.ntmps25
  go_wp2_with fail
  refine (read_any _ _).mono ?_
  rintro e w1 ⟨rfl, g1⟩
  rw [HD.out]
  simp only [show (-1 : Int) < 0 by omega, if_true]
  have HS1 := Lib.hid (HS.out.grow g1)
  have HG1 := Lib.hid g1
  clear g1
  go_wp2_with fail
  refine (has_yes HS1.out HKm.out).mono ?_
  rintro e w2 ⟨rfl, rfl⟩
  obtain ⟨_, sa, cs, aw, cw, ab, cb, h1, h2, h3, h4⟩ := HS1.out
  obtain ⟨gs, rfl, _, hgs, d0, _⟩ := h2.at hkz
  obtain ⟨gw, rfl, _, hgw⟩ := h3.block (by omega)
  have d1 := (h3.at hkm).1
  obtain ⟨gb, rfl, _, hgb⟩ := h4.block (by omega)
  have d2 := (h4.at hkm).1
  rw [bss_at hkm, show (rangeB zs k).1 = cntN zs k + wgt zs k from rfl] at d2
  generalize (rg (wts zs (lnk zs)) k).1 = lw at *
  have c0 := h1.c0
  have c1 := h1.c1
  have c2 := h1.c2
  have hlt := h1.lt
  obtain ⟨L, hL⟩ : ∃ L, zs.length = L := ⟨_, rfl⟩
  obtain ⟨m, hm⟩ : ∃ m, lnk zs = m := ⟨_, rfl⟩
  rw [hL] at c0 hkz
  rw [hm] at c1 c2 hkm
  generalize cntN zs k + wgt zs k = N at *
  generalize el zs k = x at *
  clear h1 h2 h3 h4 hL hm
  go_wp2
  go_quiet (fail)
  go_wp2_with fail
  refine (hasPrefix_n _ ⟨#[98]⟩ true _ HV.out).mono ?_
  rintro e w2 ⟨rfl, rfl⟩
  go_wp2_with fail
  refine (name_at hR (HS1.out.grow ((Grew.refl _).drewN _)) HA.out (tab_below hT (Nat.le_refl _) (HG1.out.drewN _))).mono ?_
  rintro e w2 ⟨rfl, g2⟩
  have hq := str_same (⟨(nmL k r (-1)).toArray⟩ : ByteArray)
  go_wp2
  go_ret2
  exact ⟨rfl, (HG1.out.drewN _).trans g2⟩
theorem index_at {D b k r : Nat} {i c : Int} {zs : List Int} {w : World} (hR : Right zs) (h : Shp D w b zs) (ha : At zs i k r c) (hT : Lib.TabIs Tryd.prog w "internal/strconv.uint64pow10" .u64 Lib.pow10Tab) :
    Calls Tryd.prog 25 #[.pointer (some ⟨b, 0, none⟩), .string ⟨(nmL k r c).toArray⟩] w fun e w' => e = .returned (.tuple #[.int .i64 i, .bool true]) ∧ Grew w w' := by
  by_cases hc : 0 ≤ c
  · exact index_w hR h ha hc hT
  · obtain rfl : c = -1 := by have := at_low ha; omega
    exact index_b hR h ha hT
set_option maxHeartbeats 4000000 in
theorem index_empty {D b : Nat} {zs : List Int} {w : World} (hR : Right zs) (h : Shp D w b zs) (hT : Lib.TabIs Tryd.prog w "internal/strconv.uint64pow10" .u64 Lib.pow10Tab) :
    Calls Tryd.prog 25 #[.pointer (some ⟨b, 0, none⟩), .string ⟨#[]⟩] w fun e w' => e = .returned (.tuple #[.int .i64 0, .bool false]) ∧ Grew w w' := by
  have HS := Lib.hid h
  have hkm : 0 < lnk zs := by have := hR.1; unfold lnk; omega
  have hx := this_in hR.2.2.1 hkm
  have hy := next_in hR.2.2.1 hkm
  have HA : Hid (At zs 0 0 0 0) := Lib.hid ⟨hkm, by show (0 : Int) < _; omega, .inl ⟨Int.le_refl _, by omega, by simp [cntN]⟩⟩
  have HD : Hid (rdS ⟨#[]⟩ = (((0 : Nat) : Int), 0, 0)) := Lib.hid (rdS_empty rfl)
  have HKm := Lib.hid hkm
  have hkz : 0 < zs.length := by unfold lnk at hkm; omega
  have HV : Hid (Lib.hasPrefix (⟨#[]⟩ : ByteArray).data.toList [98] = false) := Lib.hid rfl
  have HN : Hid (cntN zs 0 = 0) := Lib.hid rfl
  clear h
  go_enter Tryd.func25, Tryd.ntmps25
  go_wp2_with fail
  refine (read_any _ _).mono ?_
  rintro e w1 ⟨rfl, g1⟩
  rw [HD.out]
  have HS1 := Lib.hid (HS.out.grow g1)
  have HG1 := Lib.hid g1
  clear g1
  go_wp2_with fail
  refine (has_yes HS1.out HKm.out).mono ?_
  rintro e w2 ⟨rfl, rfl⟩
  obtain ⟨_, sa, cs, aw, cw, ab, cb, h1, h2, h3, h4⟩ := HS1.out
  obtain ⟨gs, rfl, _, hgs, d0, _⟩ := h2.at hkz
  obtain ⟨gw, rfl, _, hgw⟩ := h3.block (by omega)
  have d1 := (h3.at hkm).1
  rw [wts_at hkm, show (rangeW zs 0).1 = cntN zs 0 from rfl, HN.out] at d1
  have c0 := h1.c0
  have c1 := h1.c1
  have hlt := h1.lt
  obtain ⟨L, hL⟩ : ∃ L, zs.length = L := ⟨_, rfl⟩
  obtain ⟨m, hm⟩ : ∃ m, lnk zs = m := ⟨_, rfl⟩
  rw [hL] at c0 hkz
  rw [hm] at c1 hkm
  generalize el zs 0 = x at *
  clear h1 h2 h3 h4 hL hm
  go_wp2
  go_quiet (fail)
  go_wp2_with fail
  refine (hasPrefix_n _ ⟨#[98]⟩ false _ HV.out).mono ?_
  rintro e w2 ⟨rfl, rfl⟩
  go_wp2_with fail
  refine (name_at hR (HS1.out.grow ((Grew.refl _).drewN _)) HA.out (tab_below hT (Nat.le_refl _) (HG1.out.drewN _))).mono ?_
  rintro e w2 ⟨rfl, g2⟩
  have hq : ((⟨(nmL 0 0 0).toArray⟩ : ByteArray).toList == (⟨#[]⟩ : ByteArray).toList) = false := by
    rw [str_eq, decide_eq_false_iff_not]
    intro e
    exact nmL_ne 0 0 0 (by have := congrArg (fun z => z.data.toList) e; simpa using this)
  go_wp2
  go_ret2
  exact ⟨rfl, (HG1.out.drewN _).trans g2⟩
theorem index_none {D b : Nat} {zs : List Int} {w : World} (hR : Right zs) (h : Shp D w b zs) (s : ByteArray) (hno : Noname zs s.data.toList) (hT : Lib.TabIs Tryd.prog w "internal/strconv.uint64pow10" .u64 Lib.pow10Tab) :
    Calls Tryd.prog 25 #[.pointer (some ⟨b, 0, none⟩), .string s] w fun e w' => e = .returned (.tuple #[.int .i64 0, .bool false]) ∧ Grew w w' := by
  by_cases hs : s.size = 0
  · obtain rfl : s = ⟨#[]⟩ := ByteArray.ext (Array.eq_empty_of_size_eq_zero hs)
    exact index_empty hR h hT
  · exact index_no hR h s (by omega) hno hT
end Go.Proofs.YtfgadjpdpocdbaaDoor
