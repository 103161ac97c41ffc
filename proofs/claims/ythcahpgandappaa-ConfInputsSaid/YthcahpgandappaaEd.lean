/- Few, Check and SameAll of the reference, Check of package data. Condition: at most 2^44 examples; their lists' lengths are within the bounds of int64. -/
import Derived.Test.YthcahpgandappaaEc
namespace Go.Proofs.Ythcahpgandappaa
open Go.RowKit

/-- No list is longer than memory. -/
def LenE (es : List Ex) : Prop := ∀ k, k < es.length → lx es k ≤ 9223372036854775807 ∧ ly es k ≤ 9223372036854775807
theorem SmE.len {es : List Ex} (h : SmE es) : LenE es := fun k hk => by have := h.2 k hk; omega

set_option maxHeartbeats 2000000 in
theorem rfewE_any (l : Option Addr) (c : Nat) (es : List Ex) (w : World) (hl : es.length ≤ 9223372036854775807) (hL : LenE es) (h : RdE w.heap.size w l es) :
    Calls Try.prog 20 #[.slice l es.length c] w fun e w' => e = .returned (.bool (fewE es)) ∧ Grew w w' := by
  have HX := Lib.hid h
  have HL := Lib.hid hL
  clear h hL
  go_enter Try.func20, Try.ntmps20
  go_wp2
  go_loopw [3, 4] (fun n i wr => ∃ k : Nat, k ≤ es.length ∧ k ≤ 100 ∧ i = .int .i64 k ∧ n = .int .i64 (fewK es k) ∧ Hid (Grew w wr)) (fun _ i _ => 100 - (intOf i).toNat)
  case atStart => exact ⟨0, Nat.zero_le _, Nat.zero_le _, rfl, rfl, Lib.hid (Grew.refl _)⟩
  case round =>
    obtain ⟨k, hk, hk2, rfl, rfl, HG⟩ := hrel
    have hn := fewK_le es k
    by_cases hlt : k < es.length
    · by_cases hlt2 : k < 100
      · obtain ⟨b, off, xa, xc, ya, yc, rfl, hb, c0, c1, _⟩ := (HX.out.grow HG.out).at hlt
        have HS : Hid (fewK es (k + 1) = fewK es k + min (lx es k) 1000 + min (ly es k) 1000) := Lib.hid rfl
        obtain ⟨m1, m2⟩ := HL.out k hlt
        generalize lx es k = m at *
        generalize ly es k = m' at *
        by_cases hm : m ≤ 1000
        · by_cases hm' : m' ≤ 1000
          · go_wp2
            go_quiet (fail)
            go_wp2
            go_roundw
            case rel => exact ⟨k + 1, by omega, by omega, by go_num, by rw [HS.out]; go_num, Lib.hid (HG.out.drewN _)⟩
            case measure => simp [intOf]; omega
          · go_wp2
            go_quiet (fail)
            go_wp2
            go_roundw
            case rel => exact ⟨k + 1, by omega, by omega, by go_num, by rw [HS.out]; go_num, Lib.hid (HG.out.drewN _)⟩
            case measure => simp [intOf]; omega
        · by_cases hm' : m' ≤ 1000
          · go_wp2
            go_quiet (fail)
            go_wp2
            go_roundw
            case rel => exact ⟨k + 1, by omega, by omega, by go_num, by rw [HS.out]; go_num, Lib.hid (HG.out.drewN _)⟩
            case measure => simp [intOf]; omega
          · go_wp2
            go_quiet (fail)
            go_wp2
            go_roundw
            case rel => exact ⟨k + 1, by omega, by omega, by go_num, by rw [HS.out]; go_num, Lib.hid (HG.out.drewN _)⟩
            case measure => simp [intOf]; omega
      · have HE : Hid (fewE es = false) := Lib.hid (by simp only [fewE]; rw [decide_eq_false (by omega)]; rfl)
        go_wp2
        all_goals (go_ret; exact ⟨ret_bool HE.out.symm, HG.out⟩)
    · have HE : Hid (fewE es = (decide (es.length ≤ 60) && decide (fewK es k ≤ 600))) := Lib.hid (by simp only [fewE]; rw [show min es.length 100 = k from by omega])
      go_wp2
      all_goals (go_ret; refine ⟨ret_bool ?_, HG.out⟩; rw [HE.out]; first | (rw [decide_eq_true (show es.length ≤ 60 by omega), Bool.true_and]; exact decide_eq_decide.2 (by omega)) | (rw [decide_eq_false (show ¬ es.length ≤ 60 by omega)]; rfl))

/-- What Check answers. -/
def badE (i o : Int) (e : Ex) : Bool := decide ((e.1.length : Int) ≠ i) || decide ((e.2.length : Int) ≠ o)
def chkV (es : List Ex) (i o : Int) : Int × Bool := match es.findIdx? (badE i o) with
  | some k => (k, false)
  | none => (0, true)
def okTill (es : List Ex) (i o : Int) (k : Nat) : Prop := ∀ j, j < k → (lx es j : Int) = i ∧ (ly es j : Int) = o
theorem okTill.step {es : List Ex} {i o : Int} {k : Nat} (h : okTill es i o k) (h1 : (lx es k : Int) = i) (h2 : (ly es k : Int) = o) : okTill es i o (k + 1) := fun j hj => by
  by_cases e : j = k
  · subst e; exact ⟨h1, h2⟩
  · exact h j (by omega)
theorem chk_here {es : List Ex} {i o : Int} {k : Nat} (hk : k < es.length) (h : okTill es i o k) (h1 : (lx es k : Int) ≠ i ∨ (ly es k : Int) ≠ o) : chkV es i o = ((k : Int), false) := by
  have : es.findIdx? (badE i o) = some k := by
    rw [List.findIdx?_eq_some_iff_getElem]
    have e : ∀ j (hj : j < es.length), es[j] = ex es j := fun j hj => by
      have := ex_lt hj
      rw [List.getElem?_eq_getElem hj] at this
      exact Option.some.inj this
    refine ⟨hk, ?_, fun j hj => ?_⟩
    · rw [e]
      unfold badE
      rcases h1 with h1 | h1
      · rw [show ((ex es k).1.length : Int) = lx es k from rfl, decide_eq_true h1]; rfl
      · rw [show ((ex es k).2.length : Int) = ly es k from rfl, decide_eq_true h1]; simp
    · rw [e]
      obtain ⟨q1, q2⟩ := h j hj
      unfold badE
      rw [show ((ex es j).1.length : Int) = lx es j from rfl, show ((ex es j).2.length : Int) = ly es j from rfl, q1, q2]
      simp
  unfold chkV
  rw [this]
theorem chk_none {es : List Ex} {i o : Int} (h : okTill es i o es.length) : chkV es i o = (0, true) := by
  have : es.findIdx? (badE i o) = none := by
    rw [List.findIdx?_eq_none_iff]
    intro e he
    obtain ⟨j, hj, rfl⟩ := List.getElem_of_mem he
    obtain ⟨q1, q2⟩ := h j hj
    have e : es[j] = ex es j := by
      have := ex_lt hj
      rw [List.getElem?_eq_getElem hj] at this
      exact Option.some.inj this
    rw [e]
    unfold badE
    rw [show ((ex es j).1.length : Int) = lx es j from rfl, show ((ex es j).2.length : Int) = ly es j from rfl, q1, q2]
    simp
  unfold chkV
  rw [this]

set_option maxHeartbeats 2000000 in
theorem dcheck_any (l : Option Addr) (c : Nat) (es : List Ex) (i o : Int) (w : World) (hl : es.length ≤ 17592186044416) (hL : LenE es) (h : RdE w.heap.size w l es) :
    Calls Try.prog 21 #[.slice l es.length c, .int .i64 i, .int .i64 o] w fun e w' => e = .returned (.tuple #[.int .i64 (chkV es i o).1, .bool (chkV es i o).2]) ∧ Grew w w' := by
  have HX := Lib.hid h
  have HL := Lib.hid hL
  clear h hL
  go_enter Try.func21, Try.ntmps21
  go_wp2
  go_loopw [12] (fun x wr => ∃ k : Nat, k ≤ es.length ∧ x = .int .i64 k ∧ Hid (okTill es i o k) ∧ Hid (Grew w wr)) (fun x _ => es.length - (intOf x).toNat)
  case atStart => exact ⟨0, Nat.zero_le _, rfl, Lib.hid (fun j hj => absurd hj (Nat.not_lt_zero _)), Lib.hid (Grew.refl _)⟩
  case round =>
    obtain ⟨k, hk, rfl, HM, HG⟩ := hrel
    by_cases hlt : k < es.length
    · obtain ⟨b, off, xa, xc, ya, yc, rfl, hb, c0, c1, _⟩ := (HX.out.grow HG.out).at hlt
      have HGA : Hid (∀ o1 : Obj, Grew w (wr.alloc o1)) := Lib.hid (fun o1 => HG.out.alloc o1)
      obtain ⟨m1, m2⟩ := HL.out k hlt
      by_cases h1 : (lx es k : Int) = i
      · by_cases h2 : (ly es k : Int) = o
        · have HM' := Lib.hid (HM.out.step h1 h2)
          have e1 : ((lx es k : Int) != i) = false := by rw [h1]; simp
          have e2 : ((ly es k : Int) != o) = false := by rw [h2]; simp
          generalize lx es k = m at *
          generalize ly es k = m' at *
          clear h1 h2
          go_wp2
          go_roundw
          case rel => exact ⟨k + 1, by omega, by go_num, HM', Lib.hid (HGA.out _)⟩
          case measure => simp [intOf]; omega
        · have HE := Lib.hid (chk_here hlt HM.out (.inr h2))
          have e1 : ((lx es k : Int) != i) = false := by rw [h1]; simp
          have e2 : ((ly es k : Int) != o) = true := by simp [h2]
          generalize lx es k = m at *
          generalize ly es k = m' at *
          clear h1 h2
          go_wp2
          go_ret2
          exact ⟨by simp [HE.out], HGA.out _⟩
      · have HE := Lib.hid (chk_here hlt HM.out (.inl h1))
        have e1 : ((lx es k : Int) != i) = true := by simp [h1]
        generalize lx es k = m at *
        generalize ly es k = m' at *
        clear h1
        go_wp2
        go_ret2
        exact ⟨by simp [HE.out], HGA.out _⟩
    · obtain rfl : k = es.length := by omega
      have HE := Lib.hid (chk_none HM.out)
      go_wp2
      go_ret2
      exact ⟨by simp [HE.out], HG.out⟩

set_option maxHeartbeats 2000000 in
theorem rcheckE_any (l : Option Addr) (c : Nat) (es : List Ex) (i o : Int) (w : World) (hl : es.length ≤ 17592186044416) (hL : LenE es) (h : RdE w.heap.size w l es) :
    Calls Try.prog 23 #[.slice l es.length c, .int .i64 i, .int .i64 o] w fun e w' => e = .returned (.tuple #[.int .i64 (chkV es i o).1, .bool (chkV es i o).2]) ∧ Grew w w' := by
  have HX := Lib.hid h
  have HL := Lib.hid hL
  clear h hL
  go_enter Try.func23, Try.ntmps23
  go_wp2
  go_loopw [8] (fun x wr => ∃ k : Nat, k ≤ es.length ∧ x = .int .i64 k ∧ Hid (okTill es i o k) ∧ Hid (Grew w wr)) (fun x _ => es.length - (intOf x).toNat)
  case atStart => exact ⟨0, Nat.zero_le _, rfl, Lib.hid (fun j hj => absurd hj (Nat.not_lt_zero _)), Lib.hid (Grew.refl _)⟩
  case round =>
    obtain ⟨k, hk, rfl, HM, HG⟩ := hrel
    by_cases hlt : k < es.length
    · obtain ⟨b, off, xa, xc, ya, yc, rfl, hb, c0, c1, _⟩ := (HX.out.grow HG.out).at hlt
      obtain ⟨m1, m2⟩ := HL.out k hlt
      by_cases h1 : (lx es k : Int) = i
      · by_cases h2 : (ly es k : Int) = o
        · have HM' := Lib.hid (HM.out.step h1 h2)
          have e1 : ((lx es k : Int) != i) = false := by rw [h1]; simp
          have e2 : ((ly es k : Int) != o) = false := by rw [h2]; simp
          generalize lx es k = m at *
          generalize ly es k = m' at *
          clear h1 h2
          go_wp2
          go_roundw
          case rel => exact ⟨k + 1, by omega, by go_num, HM', HG⟩
          case measure => simp [intOf]; omega
        · have HE := Lib.hid (chk_here hlt HM.out (.inr h2))
          have e1 : ((lx es k : Int) != i) = false := by rw [h1]; simp
          have e2 : ((ly es k : Int) != o) = true := by simp [h2]
          generalize lx es k = m at *
          generalize ly es k = m' at *
          clear h1 h2
          go_wp2
          go_ret2
          exact ⟨by simp [HE.out], HG.out⟩
      · have HE := Lib.hid (chk_here hlt HM.out (.inl h1))
        have e1 : ((lx es k : Int) != i) = true := by simp [h1]
        generalize lx es k = m at *
        generalize ly es k = m' at *
        clear h1
        go_wp2
        go_ret2
        exact ⟨by simp [HE.out], HG.out⟩
    · obtain rfl : k = es.length := by omega
      have HE := Lib.hid (chk_none HM.out)
      go_wp2
      go_ret2
      exact ⟨by simp [HE.out], HG.out⟩
end Go.Proofs.Ythcahpgandappaa
