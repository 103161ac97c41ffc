/- write and Text of package data: the texts of numbers with spaces between them, the text of an example, or none; the chapter's example. Conditions: at most 1000 numbers on a side, each within the bounds of int64; the table of powers of ten holds its numbers. -/
import Derived.Test.YthdkanmpapioeaaDoorEf
import Derived.Test.YthdkanmpapioeaaDoorYr
namespace Go.Proofs.YthdkanmpapioeaaDoor
open Go.RowKit Go.Shelf
attribute [local go_sem] Oper.semAt_some

theorem grew_none {a b : World} (h : a.grownBy b none) : Grew a b := ⟨h.os, h.tape, h.output, h.size, fun k hk => h.block k hk (fun e => by cases e)⟩
theorem boxed_kept {W W' : World} {B : Nat} {t : TypeId} {v : Value} (h : Boxed W B t v) (g : Grew W W') : Boxed W' B t v := (Below.block g B h.lt).trans h

/-- What write answers. -/
def wrS (zs : List Int) (q : Int) : List UInt8 × Bool := if qOk q ∨ zs = [] then (sideL q.toNat zs, true) else ([], false)
theorem wrS_ok {zs : List Int} {q : Int} (h : qOk q) : wrS zs q = (sideL q.toNat zs, true) := if_pos (.inl h)
theorem wrS_nil {q : Int} : wrS [] q = ([], true) := if_pos (.inr rfl)
theorem wrS_no {zs : List Int} {q : Int} (h : ¬ qOk q) (h0 : zs ≠ []) : wrS zs q = ([], false) := if_neg (fun e => e.elim h h0)
/-- The strings that mapped has made are the texts. -/
theorem texts_of {zs : List Int} {q : Int} {ms : List ByteArray} (hq : qOk q) (hl : ms.length = zs.length) (h : ∀ j, j < zs.length → wB q (el zs j) = some (ms[j]?.getD ⟨#[]⟩)) : ms.map (·.data.toList) = zs.map (fun x => textL x q.toNat) := by
  apply List.ext_getElem?
  intro j
  rw [List.getElem?_map, List.getElem?_map]
  by_cases hj : j < zs.length
  · have h1 := h j hj
    rw [el_lt hj, List.getElem?_eq_getElem (by omega : j < ms.length)]
    rw [List.getElem?_eq_getElem (by omega : j < ms.length)] at h1
    unfold wB at h1
    rw [if_pos hq] at h1
    have h2 := Option.some.inj h1
    simp only [Option.getD_some] at h2
    simp [← h2]
  · rw [List.getElem?_eq_none (by omega), List.getElem?_eq_none (by omega)]; rfl
theorem join_lens (sep : List UInt8) (B : Nat) : ∀ (ps : List (List UInt8)), (∀ p ∈ ps, p.length ≤ B) → (Lib.join ps sep).length ≤ ps.length * (B + sep.length)
  | [], _ => by simp [Lib.join]
  | p :: r, h => by
    have hp := h p (by simp)
    have hr : ∀ (l : List (List UInt8)), (∀ x ∈ l, x.length ≤ B) → (Lib.joinTail sep l).length ≤ l.length * (B + sep.length) := fun l => by
      induction l with
      | nil => intro _; simp [Lib.joinTail]
      | cons x l ih =>
        intro hx
        have h1 := ih (fun y hy => hx y (by simp [hy]))
        have h2 := hx x (by simp)
        simp only [Lib.joinTail, List.map_cons, List.flatten_cons, List.length_append, List.length_cons] at h1 ⊢
        rw [Nat.succ_mul]; omega
    have := hr r (fun x hx => h x (by simp [hx]))
    rw [Lib.join_cons, List.length_append, List.length_cons, Nat.succ_mul]
    omega
theorem side_len {zs : List Int} {q : Nat} (hq : q ≤ 62) (h : FitL zs) : (sideL q zs).length ≤ zs.length * 84 := by
  unfold sideL
  have := join_lens [32] 83 (zs.map (fun x => textL x q)) (fun p hp => by obtain ⟨x, hx, rfl⟩ := List.mem_map.1 hp; exact text_len hq (h x hx).1 (h x hx).2)
  simpa using this

set_option maxHeartbeats 2000000 in
theorem write_any {n : Nat} (a : Option Addr) (c : Nat) (zs : List Int) (q : Int) (w : World) (hn : zs.length = n) (hl : n ≤ 1000) (hz : FitL zs) (hr : RdK .i64 w.heap.size w a zs) (hT : Lib.TabIs Tryd.prog w "internal/strconv.uint64pow10" .u64 Lib.pow10Tab) :
    Calls Tryd.prog 26 #[.slice a n c, .int .i64 q] w fun e w' => e = .returned (.tuple #[.string ⟨(wrS zs q).1.toArray⟩, .bool (wrS zs q).2]) ∧ Grew w w' := by
  have hg : Grew w ((w.alloc (.cells #[.int .i64 q] 3)).alloc (.cells #[.slice a n c] 22)) := ((Grew.refl w).alloc _).alloc _
  have b1 := (Boxed.new w 3 (.int .i64 q)).alloc (.cells #[.slice a n c] 22)
  have b2 := Boxed.new (w.alloc (.cells #[.int .i64 q] 3)) 22 (.slice a n c)
  rw [World.size_alloc] at b2
  have hsz : ((w.alloc (.cells #[.int .i64 q] 3)).alloc (.cells #[.slice a n c] 22)).heap.size = w.heap.size + 1 + 1 := by simp
  have HG := Lib.hid hg
  have HT1 := Lib.hid (tab_below hT (Nat.le_refl _) hg)
  have HR := Lib.hid (hr.grow hg)
  have B1 := Lib.hid b1
  have B2 := Lib.hid b2
  have HSZ := Lib.hid hsz
  have HN := Lib.hid hn
  have HZ := Lib.hid hz
  clear hg b1 b2 hsz hr hn hz
  go_enter Tryd.func26, Tryd.ntmps26
  go_wp2_with fail
  refine (valsL_any a n c _).mono ?_
  rintro e w1 ⟨rfl, rfl⟩
  rw [World.size_alloc]
  generalize (w.alloc (.cells #[.int .i64 q] 3)).alloc (.cells #[.slice a n c] 22) = W0 at *
  generalize w.heap.size = L at *
  go_wp2_with fail
  refine (mapS (gf := 57) (gs := 42) (lb := #[.pointer (some ⟨L + 1, 0, none⟩)]) (caps := #[.pointer (some ⟨L, 0, none⟩)]) (enters_of Tryd.func57 (by kernel_rfl) rfl) (enters_of Tryd.func42 (by kernel_rfl) rfl)
    (E := fun k => el zs k) (o := fun k => wB q (el zs k)) (N := n) (rr := none) W0 (by omega) (fun x e => by cases e)
    (fun W g => valsL_yields 8 (by omega) HN.out (by omega) W (by rw [HSZ.out]; omega) g.size (boxed_kept B2.out g) (HR.out.below g) _)
    (fun k W hk g => writeF_any (el zs k) q L W (fit_at HZ.out (by rw [HN.out]; exact hk)) (boxed_kept B1.out (grew_none g)) (tab_below HT1.out (Nat.le_refl _) (grew_none g)))).mono ?_
  rintro e w2 ⟨⟨v, ms, rfl, hml, hmo, hrow⟩ | ⟨rfl, j, hj, hno⟩, g2⟩
  · have HG2 := Lib.hid (HG.out.trans (grew_none g2))
    by_cases h0 : n = 0
    · subst h0
      obtain rfl : zs = [] := List.eq_nil_of_length_eq_zero HN.out
      obtain ⟨a', c', rfl⟩ := own_form hrow
      clear hrow hmo hml g2 HG HR B1 B2 HSZ
      have HE := Lib.hid (wrS_nil (q := q))
      go_wp2_with fail
      refine (Tryd.strings_Join_none a' c' ⟨#[32]⟩ _).mono ?_
      rintro e w3 ⟨rfl, rfl⟩
      go_wp2
      go_ret2
      exact ⟨by simp [HE.out], HG2.out⟩
    · have hq : qOk q := by
        have h1 := hmo 0 (by omega)
        unfold wB at h1
        split at h1
        · assumption
        · cases h1
      have HQ := Lib.hid hq
      have htx := texts_of hq (by rw [hml, HN.out]) (by rw [HN.out]; exact hmo)
      have hjl : (Lib.join (ms.map (·.data.toList)) [32]) = sideL q.toNat zs := by rw [htx]; rfl
      have hsl := side_len (zs := zs) (toNat_le hq) HZ.out
      rw [HN.out] at hsl
      obtain ⟨g, cap, hv⟩ : ∃ g cap, v = .slice (some ⟨g, 0, none⟩) n cap := by
        rcases hrow.2 with ⟨_, h⟩ | ⟨g, cap, cur, e, _⟩
        · exact absurd h h0
        · exact ⟨g, cap, e⟩
      subst hv
      have hlt := (World.ownsRow.lt hrow g rfl).2
      have hcap : n ≤ cap := by
        rcases hrow.2 with ⟨_, h⟩ | ⟨g', cap', cur, e, _, _, hc, _⟩
        · exact absurd h h0
        · injection e with _ _ e3; omega
      have hjn := Tryd.strings_Join g 0 cap ms ⟨#[32]⟩ w2 (fun j x hx => by
        have hj : j < ms.length := (List.getElem?_eq_some_iff.1 hx).1
        rw [Nat.zero_add, World.ownsRow.cellAt hrow j (by omega), List.getElem?_map, hx]; rfl) hlt (by omega) (by omega) (by
          show (Lib.join (ms.map (·.data.toList)) [32]).length ≤ _
          rw [hjl]; omega)
      rw [hml] at hjn
      rw [show Lib.join (ms.map (·.data.toList)) (⟨#[32]⟩ : ByteArray).data.toList = sideL q.toNat zs from hjl] at hjn
      have HJ := Lib.hid hjn
      have HE := Lib.hid (wrS_ok (zs := zs) hq)
      clear hjn hrow hmo hml g2 HG HR B1 B2 HSZ htx hjl hsl hq
      go_wp2_with fail
      refine HJ.out.mono ?_
      rintro e w3 ⟨rfl, g3⟩
      go_wp2
      go_ret2
      exact ⟨by simp [HE.out], HG2.out.trans g3⟩
  · have HG2 := Lib.hid (HG.out.trans (grew_none g2))
    have hq : ¬ qOk q := fun h => by unfold wB at hno; rw [if_pos h] at hno; cases hno
    have HE := Lib.hid (wrS_no (zs := zs) hq (fun e => by have := HN.out; rw [e] at this; simp at this; omega))
    clear hno hq g2 HG HR B1 B2 HSZ
    go_wp2_with fail
    refine (Tryd.strings_Join_none none 0 ⟨#[32]⟩ _).mono ?_
    rintro e w3 ⟨rfl, rfl⟩
    go_wp2
    go_ret2
    exact ⟨by simp [HE.out], HG2.out⟩

set_option maxHeartbeats 2000000 in
theorem dText_any {n m : Nat} (xa ya : Option Addr) (xc yc : Nat) (e : Ex) (q : Int) (w : World) (hx : e.1.length = n) (hy : e.2.length = m) (hn : n ≤ 1000) (hm : m ≤ 1000) (hi : InE e)
    (r1 : RdK .i64 w.heap.size w xa e.1) (r2 : RdK .i64 w.heap.size w ya e.2) (hT : Lib.TabIs Tryd.prog w "internal/strconv.uint64pow10" .u64 Lib.pow10Tab) :
    Calls Tryd.prog 11 #[.agg #[.slice xa n xc, .slice ya m yc], .int .i64 q] w fun u w' => u = .returned (.tuple #[.string ⟨(exT e q).1.toArray⟩, .bool (exT e q).2]) ∧ Grew w w' := by
  have hg : Grew w (w.alloc (.cells #[.slice xa n xc, .slice ya m yc] 24)) := (Grew.refl w).alloc _
  have ht := Two.new w 24 (.slice xa n xc) (.slice ya m yc)
  have HG := Lib.hid hg
  have HT := Lib.hid ht
  have HP := Lib.hid (tab_below hT (Nat.le_refl _) hg)
  have R1 := Lib.hid (r1.grow hg)
  have R2 := Lib.hid (r2.grow hg)
  have HX := Lib.hid hx
  have HY := Lib.hid hy
  have HI := Lib.hid hi
  clear hg ht r1 r2 hT hx hy hi
  by_cases h1 : n = 0
  · subst h1
    have HE := Lib.hid (exT_no (e := e) (q := q) (fun h => h.2.1 (List.eq_nil_of_length_eq_zero HX.out)))
    go_enter Tryd.func11, Tryd.ntmps11
    go_wp2
    go_ret2
    exact ⟨by simp [HE.out], HG.out⟩
  · by_cases h2 : m = 0
    · subst h2
      have HE := Lib.hid (exT_no (e := e) (q := q) (fun h => h.2.2 (List.eq_nil_of_length_eq_zero HY.out)))
      go_enter Tryd.func11, Tryd.ntmps11
      go_wp2
      go_ret2
      exact ⟨by simp [HE.out], HG.out⟩
    · have e1 : ((n : Int) == (0 : Int)) = false := by rw [beq_eq_false_iff_ne]; omega
      have e2 : ((m : Int) == (0 : Int)) = false := by rw [beq_eq_false_iff_ne]; omega
      have hxn : e.1 ≠ [] := fun h => by have := HX.out; rw [h] at this; simp at this; omega
      have hyn : e.2 ≠ [] := fun h => by have := HY.out; rw [h] at this; simp at this; omega
      by_cases hq : qOk q
      · have HE := Lib.hid (exT_yes (e := e) (q := q) ⟨hq, hxn, hyn⟩)
        have HW1 := Lib.hid (wrS_ok (zs := e.1) hq)
        have HW2 := Lib.hid (wrS_ok (zs := e.2) hq)
        have hl1 := side_len (zs := e.1) (toNat_le hq) HI.out.1
        have hl2 := side_len (zs := e.2) (toNat_le hq) HI.out.2
        rw [HX.out] at hl1
        rw [HY.out] at hl2
        have HS : Hid (exL q.toNat e = sideL q.toNat e.1 ++ [32, 62, 32] ++ sideL q.toNat e.2) := Lib.hid rfl
        clear hxn hyn hq
        go_enter Tryd.func11, Tryd.ntmps11
        go_wp2_with fail
        refine (write_any xa xc e.1 q _ HX.out hn HI.out.1 R1.out HP.out).mono ?_
        rintro u w1 ⟨rfl, g1⟩
        rw [HW1.out]
        have HT1 := HT.out.grow g1
        have c1 := HT1.c1
        have R21 := Lib.hid (R2.out.grow g1)
        have HP1 := Lib.hid (tab_below HP.out (Nat.le_refl _) g1)
        have HG1 := Lib.hid (HG.out.trans g1)
        generalize sideL q.toNat e.1 = s1 at *
        generalize sideL q.toNat e.2 = s2 at *
        clear g1 HT1
        go_wp2_with fail
        refine (write_any ya yc e.2 q _ HY.out hm HI.out.2 R21.out HP1.out).mono ?_
        rintro u w2 ⟨rfl, g2⟩
        rw [HW2.out]
        have hla : ¬ (9223372036854775807 : Int) < (s1.length : Int) + 3 := by omega
        have hlb : ¬ (9223372036854775807 : Int) < (s1.length : Int) + 3 + (s2.length : Int) := by omega
        go_wp2
        go_ret2
        refine ⟨?_, HG1.out.trans g2⟩
        show Ending.returned (.tuple #[.string ((⟨s1.toArray⟩ : ByteArray) ++ ⟨#[32, 62, 32]⟩ ++ ⟨s2.toArray⟩), .bool true]) = _
        have hst : (⟨s1.toArray⟩ : ByteArray) ++ ⟨#[32, 62, 32]⟩ ++ ⟨s2.toArray⟩ = ⟨(exL q.toNat e).toArray⟩ := by rw [HS.out, ← str_append, ← str_append]
        rw [hst, HE.out]
      · have HE := Lib.hid (exT_no (e := e) (q := q) (fun h => hq h.1))
        have HW1 := Lib.hid (wrS_no hq hxn)
        clear hxn hyn hq
        go_enter Tryd.func11, Tryd.ntmps11
        go_wp2_with fail
        refine (write_any xa xc e.1 q _ HX.out hn HI.out.1 R1.out HP.out).mono ?_
        rintro u w1 ⟨rfl, g1⟩
        rw [HW1.out]
        go_wp2
        go_ret2
        exact ⟨by simp [HE.out], HG.out.trans g1⟩

theorem ex_lit : exL 1 ([3, 2], [-1]) = [49, 46, 53, 32, 49, 32, 62, 32, 45, 48, 46, 53] := by decide +kernel
theorem lit_ok : exT ([3, 2], [-1]) 1 = ([49, 46, 53, 32, 49, 32, 62, 32, 45, 48, 46, 53], true) := by
  rw [exT_yes (by refine ⟨by decide, by decide, by decide⟩)]
  rw [show ((1 : Int)).toNat = 1 from rfl, ex_lit]
theorem lit_in : InE ([3, 2], [-1]) := by
  refine ⟨fun x hx => ?_, fun x hx => ?_⟩
  · simp at hx; rcases hx with rfl | rfl <;> exact ⟨by decide, by decide⟩
  · simp at hx; subst hx; exact ⟨by decide, by decide⟩
theorem rdk_lit {B b : Nat} {W : World} {zs : List Int} (h : W.heap[b]? = some (.cells (zs.map (Value.int .i64)).toArray 2 (0, 0))) (hb : b < B) : RdK .i64 B W (some ⟨b, 0, none⟩) zs := by
  refine .inr ⟨b, 0, rfl, hb, fun j hj => ?_⟩
  simp [World.cell?, h, el_lt hj]
set_option maxHeartbeats 1000000 in
theorem aliveE_any (w : World) (hT : Lib.TabIs Tryd.prog w "internal/strconv.uint64pow10" .u64 Lib.pow10Tab) : Calls Tryd.prog 10 #[] w fun e w' => e = .returned (.bool true) ∧ Grew w w' := by
  have hg : Grew w ((w.alloc (.cells #[.int .i64 3, .int .i64 2] 2)).alloc (.cells #[.int .i64 (-1)] 2)) := ((Grew.refl w).alloc _).alloc _
  have h1 : ((w.alloc (.cells #[.int .i64 3, .int .i64 2] 2)).alloc (.cells #[.int .i64 (-1)] 2)).heap[w.heap.size]? = some (.cells (([3, 2] : List Int).map (Value.int .i64)).toArray 2 (0, 0)) :=
    (Below.heap_alloc _ _ _ (by simp)).trans (World.alloc_heap_new w _)
  have h2 : ((w.alloc (.cells #[.int .i64 3, .int .i64 2] 2)).alloc (.cells #[.int .i64 (-1)] 2)).heap[w.heap.size + 1]? = some (.cells (([-1] : List Int).map (Value.int .i64)).toArray 2 (0, 0)) := by
    have := World.alloc_heap_new (w.alloc (.cells #[.int .i64 3, .int .i64 2] 2)) (.cells #[.int .i64 (-1)] 2)
    rwa [World.size_alloc] at this
  have hs : ((w.alloc (.cells #[.int .i64 3, .int .i64 2] 2)).alloc (.cells #[.int .i64 (-1)] 2)).heap.size = w.heap.size + 1 + 1 := by simp
  have HG := Lib.hid hg
  have R1 := Lib.hid (rdk_lit h1 (B := w.heap.size + 1 + 1) (by omega))
  have R2 := Lib.hid (rdk_lit h2 (B := w.heap.size + 1 + 1) (by omega))
  have HS := Lib.hid hs
  have HP := Lib.hid (tab_below hT (Nat.le_refl _) hg)
  clear hg h1 h2 hs
  go_enter Tryd.func10, Tryd.ntmps10
  go_wp2_with fail
  generalize (w.alloc (.cells #[.int .i64 3, .int .i64 2] 2)).alloc (.cells #[.int .i64 (-1)] 2) = W0 at *
  refine (dText_any (n := 2) (m := 1) _ _ _ _ ([3, 2], [-1]) 1 W0 rfl rfl (by decide) (by decide) lit_in (by rw [HS.out]; exact R1.out) (by rw [HS.out]; exact R2.out) HP.out).mono ?_
  rintro e w1 ⟨rfl, g1⟩
  rw [lit_ok]
  have HG1 := Lib.hid (HG.out.trans g1)
  clear g1
  go_wp2
  go_ret
  exact ⟨rfl, HG1.out⟩
end Go.Proofs.YthdkanmpapioeaaDoor
