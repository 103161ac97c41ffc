/- The reference's Same, number, numbers and Words. Conditions: at most 2^44 sizes; strings of at most 1000 bytes (Words: 10^6). -/
import Derived.Test.YthcahpgandappaaGreatDoorCu
import Derived.Test.YthcahpgandappaaGreatDoorYs
namespace Go.Proofs.YthcahpgandappaaGreatDoor
open Go.RowKit Go.Shelf

theorem sameC_ne {f g : Cf} (h : f ≠ g) : sameC f g = false := by
  cases e : sameC f g with
  | false => rfl
  | true => exact absurd (sameC_eq.1 e) h
theorem cf_ext {f g : Cf} (hz : f.z = g.z) (h2 : f.ra = g.ra) (h3 : f.mo = g.mo) (h : ∀ j, j < 9 → fl f j = fl g j) : f = g := by
  have h0 : f.sh = g.sh := h 0 (by decide)
  have k1 : f.wo = g.wo := h 1 (by decide)
  have k2 : f.ba = g.ba := h 2 (by decide)
  have k3 : f.mi = g.mi := h 3 (by decide)
  have k4 : f.st = g.st := h 4 (by decide)
  have k5 : f.bu = g.bu := h 5 (by decide)
  have k6 : f.ch = g.ch := h 6 (by decide)
  have k7 : f.wi = g.wi := h 7 (by decide)
  have k8 : f.ca = g.ca := h 8 (by decide)
  cases f
  cases g
  simp only at *
  simp only [Cf.mk.injEq]
  exact ⟨hz, h0, h2, h3, k1, k2, k3, k4, k5, k6, k7, k8⟩
set_option maxRecDepth 100000 in
set_option maxHeartbeats 4000000 in
theorem rsameC_any {n n' : Nat} (a a' : Option Addr) (c c' : Nat) (f g : Cf) (w : World) (hn : f.z.length = n) (hn' : g.z.length = n') (hl : n ≤ 17592186044416) (hl' : n' ≤ 17592186044416) (hr : RdK .i64 w.heap.size w a f.z) (hr' : RdK .i64 w.heap.size w a' g.z) :
    Calls Tryz.prog 10 #[.agg #[.slice a n c, .int .i64 f.sh, .int .i64 f.ra, .int .i64 f.mo, .int .i64 f.wo, .int .i64 f.ba, .int .i64 f.mi, .int .i64 f.st, .int .i64 f.bu, .int .i64 f.ch, .int .i64 f.wi, .int .i64 f.ca], .agg #[.slice a' n' c', .int .i64 g.sh, .int .i64 g.ra, .int .i64 g.mo, .int .i64 g.wo, .int .i64 g.ba, .int .i64 g.mi, .int .i64 g.st, .int .i64 g.bu, .int .i64 g.ch, .int .i64 g.wi, .int .i64 g.ca]] w fun e w' => e = .returned (.bool (sameC f g)) ∧ Grew w w' := by
  have g0 : Grew w ((w.alloc (.cells #[.slice a n c, .int .i64 f.sh, .int .i64 f.ra, .int .i64 f.mo, .int .i64 f.wo, .int .i64 f.ba, .int .i64 f.mi, .int .i64 f.st, .int .i64 f.bu, .int .i64 f.ch, .int .i64 f.wi, .int .i64 f.ca] 24)).alloc (.cells #[.slice a' n' c', .int .i64 g.sh, .int .i64 g.ra, .int .i64 g.mo, .int .i64 g.wo, .int .i64 g.ba, .int .i64 g.mi, .int .i64 g.st, .int .i64 g.bu, .int .i64 g.ch, .int .i64 g.wi, .int .i64 g.ca] 24)) := ((Grew.refl w).alloc _).alloc _
  have HM := Lib.hid ((CfM.new w a n c f).alloc (.cells #[.slice a' n' c', .int .i64 g.sh, .int .i64 g.ra, .int .i64 g.mo, .int .i64 g.wo, .int .i64 g.ba, .int .i64 g.mi, .int .i64 g.st, .int .i64 g.bu, .int .i64 g.ch, .int .i64 g.wi, .int .i64 g.ca] 24))
  have hm' := CfM.new (w.alloc (.cells #[.slice a n c, .int .i64 f.sh, .int .i64 f.ra, .int .i64 f.mo, .int .i64 f.wo, .int .i64 f.ba, .int .i64 f.mi, .int .i64 f.st, .int .i64 f.bu, .int .i64 f.ch, .int .i64 f.wi, .int .i64 f.ca] 24)) a' n' c' g
  rw [World.size_alloc] at hm'
  have HM' := Lib.hid hm'
  have HX := Lib.hid (hr.grow g0)
  have HX' := Lib.hid (hr'.grow g0)
  have HG := Lib.hid g0
  have HN := Lib.hid hn
  have HN' := Lib.hid hn'
  clear g0 hr hr' hn hn' hm'
  by_cases hlen : n = n'
  · subst hlen
    by_cases h2 : f.ra = g.ra
    · by_cases h3 : f.mo = g.mo
      · have HR2 := Lib.hid h2
        have HR3 := Lib.hid h3
        have b2 : (f.ra != g.ra) = false := by rw [h2]; simp
        have b3 : (f.mo != g.mo) = false := by rw [h3]; simp
        clear h2 h3
        go_enter Tryz.func10, Tryz.ntmps10
        go_wp2
        generalize hW0 : (w.alloc (.cells #[.slice a n c, .int .i64 f.sh, .int .i64 f.ra, .int .i64 f.mo, .int .i64 f.wo, .int .i64 f.ba, .int .i64 f.mi, .int .i64 f.st, .int .i64 f.bu, .int .i64 f.ch, .int .i64 f.wi, .int .i64 f.ca] 24)).alloc (.cells #[.slice a' n c', .int .i64 g.sh, .int .i64 g.ra, .int .i64 g.mo, .int .i64 g.wo, .int .i64 g.ba, .int .i64 g.mi, .int .i64 g.st, .int .i64 g.bu, .int .i64 g.ch, .int .i64 g.wi, .int .i64 g.ca] 24) = W0 at *
        generalize hb0 : w.heap.size = cb at *
        clear hW0 hb0
        go_loopw [5] (fun i W' => ∃ k : Nat, k ≤ n ∧ i = .int .i64 k ∧ Hid (∀ j, j < k → el f.z j = el g.z j) ∧ Hid (Grew W0 W')) (fun i _ => n - (intOf i).toNat)
        case atStart => exact ⟨0, Nat.zero_le _, rfl, Lib.hid (fun j hj => absurd hj (Nat.not_lt_zero _)), Lib.hid (Grew.refl _)⟩
        case round =>
          obtain ⟨k, hk, rfl, HE, HGr⟩ := hrel
          have c0 := (HM.out.grow HGr.out).c0
          have d0 := (HM'.out.grow HGr.out).c0
          by_cases hlt : k < n
          · obtain ⟨b, off, rfl, hb, hc⟩ := (HX.out.grow HGr.out).at (k := k) (by rw [HN.out]; exact hlt)
            obtain ⟨b', off', rfl, hb', hd⟩ := (HX'.out.grow HGr.out).at (k := k) (by rw [HN'.out]; exact hlt)
            by_cases h1 : el f.z k = el g.z k
            · have HE' : Hid (∀ j, j < k + 1 → el f.z j = el g.z j) := Lib.hid (fun j hj => by
                by_cases e : j = k
                · subst e; exact h1
                · exact HE.out j (by omega))
              rw [← h1] at hd
              generalize el f.z k = z at *
              clear h1
              go_wp2
              go_quiet (fail)
              go_wp2
              go_roundw
              case rel => exact ⟨k + 1, hlt, by go_num, HE', Lib.hid (HGr.out.drewN _)⟩
              case measure => simp [intOf]; omega
            · have HNE : Hid (sameC f g = false) := Lib.hid (sameC_ne (fun e => h1 (by rw [e])))
              have hb1 : (el f.z k != el g.z k) = true := by simp [h1]
              have hb2 : ¬ el f.z k = el g.z k := h1
              generalize el f.z k = z at *
              generalize el g.z k = z' at *
              go_wp2
              go_quiet (fail)
              go_wp2
              go_ret
              exact ⟨ret_bool HNE.out.symm, HG.out.trans (HGr.out.drewN _)⟩
          · obtain rfl : k = n := by omega
            have hz : f.z = g.z := el_ext (by rw [HN.out, HN'.out]) (by rw [HN.out]; exact HE.out)
            have HZ := Lib.hid hz
            rename World => w1
            have HM1 := HM.out.grow HGr.out
            have HM1' := Lib.hid (HM'.out.grow HGr.out)
            have HG1 := Lib.hid (HG.out.trans HGr.out)
            clear hz c0 d0
            have q0 := HM1.c0
            have q1 := HM1.c1
            have q2 := HM1.c2
            have q3 := HM1.c3
            have q4 := HM1.c4
            have q5 := HM1.c5
            have q6 := HM1.c6
            have q7 := HM1.c7
            have q8 := HM1.c8
            have q9 := HM1.c9
            have q10 := HM1.c10
            have q11 := HM1.c11
            go_wp2_with fail
            refine (fields_any a k c f w1).mono ?_
            rintro e w2 ⟨⟨fb, rfl, _, hfb, hfc⟩, g2⟩
            have HM2' := HM1'.out.grow g2
            have HG2 := Lib.hid (HG1.out.trans g2)
            have HF2 := Lib.hid hfc
            clear g2 hfc q0 q1 q2 q3 q4 q5 q6 q7 q8 q9 q10 q11
            have q0 := HM2'.c0
            have q1 := HM2'.c1
            have q2 := HM2'.c2
            have q3 := HM2'.c3
            have q4 := HM2'.c4
            have q5 := HM2'.c5
            have q6 := HM2'.c6
            have q7 := HM2'.c7
            have q8 := HM2'.c8
            have q9 := HM2'.c9
            have q10 := HM2'.c10
            have q11 := HM2'.c11
            go_wp2_with fail
            refine (fields_any a' k c' g w2).mono ?_
            rintro e w3 ⟨⟨gb, rfl, _, hgb, hgc⟩, g3⟩
            have HG3 := Lib.hid (HG2.out.trans g3)
            have HF3 : Hid (∀ j, j < 9 → w3.cell? ⟨fb, j, none⟩ = some (.int .i64 (fl f j))) := Lib.hid (fun j hj => stay g3 (HF2.out j hj))
            have HH3 := Lib.hid hgc
            clear g3 hgc q0 q1 q2 q3 q4 q5 q6 q7 q8 q9 q10 q11
            go_wp2
            go_loopw [8] (fun i W' => ∃ j : Nat, j ≤ 9 ∧ i = .int .i64 j ∧ Hid (∀ x, x < j → fl f x = fl g x) ∧ Hid (Grew w3 W')) (fun i _ => 9 - (intOf i).toNat)
            case atStart => exact ⟨0, Nat.zero_le _, rfl, Lib.hid (fun j hj => absurd hj (Nat.not_lt_zero _)), Lib.hid (Grew.refl _)⟩
            case round =>
              obtain ⟨j, hj, rfl, HE2, HGq⟩ := hrel
              by_cases hlt9 : j < 9
              · have hc := stay HGq.out (HF3.out j hlt9)
                have hd := stay HGq.out (HH3.out j hlt9)
                by_cases h1 : fl f j = fl g j
                · have HE' : Hid (∀ x, x < j + 1 → fl f x = fl g x) := Lib.hid (fun x hx => by
                    by_cases e : x = j
                    · subst e; exact h1
                    · exact HE2.out x (by omega))
                  rw [← h1] at hd
                  generalize fl f j = z at *
                  clear h1
                  go_wp2
                  go_quiet (fail)
                  go_wp2
                  go_roundw
                  case rel => exact ⟨j + 1, hlt9, by go_num, HE', Lib.hid (HGq.out.drewN _)⟩
                  case measure => simp [intOf]; omega
                · have HNE : Hid (sameC f g = false) := Lib.hid (sameC_ne (fun e => h1 (by rw [e])))
                  have hb1 : (fl f j != fl g j) = true := by simp [h1]
                  have hb2 : ¬ fl f j = fl g j := h1
                  generalize fl f j = z at *
                  generalize fl g j = z' at *
                  go_wp2
                  go_quiet (fail)
                  go_wp2
                  go_ret
                  exact ⟨ret_bool HNE.out.symm, HG3.out.trans (HGq.out.drewN _)⟩
              · obtain rfl : j = 9 := by omega
                have HY : Hid (sameC f g = true) := Lib.hid (sameC_eq.2 (cf_ext HZ.out HR2.out HR3.out HE2.out))
                go_wp2
                go_ret
                exact ⟨ret_bool HY.out.symm, HG3.out.trans HGq.out⟩
      · have HNE : Hid (sameC f g = false) := Lib.hid (sameC_ne (fun e => h3 (by rw [e])))
        have b2 : (f.ra != g.ra) = false := by rw [h2]; simp
        have b3 : (f.mo != g.mo) = true := by simp [h3]
        clear h2 h3
        go_enter Tryz.func10, Tryz.ntmps10
        go_wp2
        go_ret
        exact ⟨ret_bool HNE.out.symm, HG.out⟩
    · have HNE : Hid (sameC f g = false) := Lib.hid (sameC_ne (fun e => h2 (by rw [e])))
      have b2 : (f.ra != g.ra) = true := by simp [h2]
      clear h2
      go_enter Tryz.func10, Tryz.ntmps10
      go_wp2
      go_ret
      exact ⟨ret_bool HNE.out.symm, HG.out⟩
  · have HNE : Hid (sameC f g = false) := Lib.hid (sameC_ne (fun e => hlen (by rw [← HN.out, ← HN'.out, e])))
    have b1 : ((n : Int) != (n' : Int)) = true := by simp; omega
    have b2 : ¬ (n : Int) = (n' : Int) := by omega
    go_enter Tryz.func10, Tryz.ntmps10
    go_wp2
    go_ret
    exact ⟨ret_bool HNE.out.symm, HG.out⟩

/-! ### number, numbers -/
def numO (t : List UInt8) : Int := (natO t).getD 0
set_option maxHeartbeats 1000000 in
theorem rnum_any (s : ByteArray) (w : World) (hs : s.size ≤ 1000) : Calls Tryz.prog 23 #[.string s] w fun e w' => e = .returned (.int .i64 (numO s.data.toList)) ∧ Grew w w' := by
  obtain ⟨x, ok, hx⟩ : ∃ x ok, parseV s.data.toList 0 = (x, ok) := ⟨_, _, rfl⟩
  have hb := parse_range s.data.toList 0
  rw [hx] at hb
  have HC : Hid (Calls Tryz.prog 46 #[.string s] w fun e w' => e = .returned (.tuple #[.int .i64 x, .bool ok]) ∧ Grew w w') := Lib.hid (by
    have h := rnumber_any s w hs
    rw [num_same, hx] at h
    exact h)
  have HO : Hid (numO s.data.toList = if ok = true ∧ inR x 0 1048576 = true then x else 0) := Lib.hid (by
    unfold numO natO
    rw [hx]
    split <;> rfl)
  clear hx
  cases ok with
  | false =>
    go_enter Tryz.func23, Tryz.ntmps23
    go_wp2_with fail
    refine HC.out.mono ?_
    rintro e w1 ⟨rfl, g1⟩
    go_wp2
    go_ret
    exact ⟨ret_int (by rw [HO.out]; simp), g1⟩
  | true =>
    by_cases h1 : x < 0
    · have HE : Hid (numO s.data.toList = 0) := Lib.hid (by rw [HO.out, inR_no (by omega)]; simp)
      go_enter Tryz.func23, Tryz.ntmps23
      go_wp2_with fail
      refine HC.out.mono ?_
      rintro e w1 ⟨rfl, g1⟩
      go_wp2
      go_ret
      exact ⟨ret_int HE.out.symm, g1⟩
    · by_cases h2 : 1048576 < x
      · have HE : Hid (numO s.data.toList = 0) := Lib.hid (by rw [HO.out, inR_no (by omega)]; simp)
        go_enter Tryz.func23, Tryz.ntmps23
        go_wp2_with fail
        refine HC.out.mono ?_
        rintro e w1 ⟨rfl, g1⟩
        go_wp2
        go_ret
        exact ⟨ret_int HE.out.symm, g1⟩
      · have HE : Hid (numO s.data.toList = x) := Lib.hid (by rw [HO.out, inR_yes (by omega)]; simp)
        go_enter Tryz.func23, Tryz.ntmps23
        go_wp2_with fail
        refine HC.out.mono ?_
        rintro e w1 ⟨rfl, g1⟩
        go_wp2
        go_ret
        exact ⟨ret_int HE.out.symm, g1⟩
end Go.Proofs.YthcahpgandappaaGreatDoor
