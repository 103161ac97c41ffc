/- The reference's Text, fields and between. Conditions: at most 2000 sizes, all numbers within the bounds of int64. -/
import Derived.Test.YthcahpgandappaaGreatDoorCt
import Derived.Test.YthcahpgandappaaGreatDoorYr
namespace Go.Proofs.YthcahpgandappaaGreatDoor
open Go.RowKit Go.Shelf

theorem between_any (n lo hi : Int) (w : World) : Calls Tryz.prog 17 #[.int .i64 n, .int .i64 lo, .int .i64 hi] w fun e w' => e = .returned (.bool (inR n lo hi)) ∧ w = w' := by
  by_cases h1 : lo ≤ n
  · by_cases h2 : n ≤ hi
    · have HE := Lib.hid (inR_yes ⟨h1, h2⟩)
      go_enter Tryz.func17, Tryz.ntmps17
      go_wp2
      go_ret
      exact ⟨ret_bool HE.out.symm, rfl⟩
    · have HE := Lib.hid (inR_no (n := n) (lo := lo) (hi := hi) (by omega))
      go_enter Tryz.func17, Tryz.ntmps17
      go_wp2
      go_ret
      exact ⟨ret_bool HE.out.symm, rfl⟩
  · have HE := Lib.hid (inR_no (n := n) (lo := lo) (hi := hi) (by omega))
    go_enter Tryz.func17, Tryz.ntmps17
    go_wp2
    go_ret
    exact ⟨ret_bool HE.out.symm, rfl⟩
/-- The numbers of fields. -/
def fl (f : Cf) : Nat → Int
  | 0 => f.sh
  | 1 => f.wo
  | 2 => f.ba
  | 3 => f.mi
  | 4 => f.st
  | 5 => f.bu
  | 6 => f.ch
  | 7 => f.wi
  | 8 => f.ca
  | _ => 0
set_option maxRecDepth 100000 in
set_option maxHeartbeats 1000000 in
theorem fields_any (a : Option Addr) (n c : Nat) (f : Cf) (w : World) : Calls Tryz.prog 16 #[.agg #[.slice a n c, .int .i64 f.sh, .int .i64 f.ra, .int .i64 f.mo, .int .i64 f.wo, .int .i64 f.ba, .int .i64 f.mi, .int .i64 f.st, .int .i64 f.bu, .int .i64 f.ch, .int .i64 f.wi, .int .i64 f.ca]] w fun e w' => (∃ g, e = .returned (.slice (some ⟨g, 0, none⟩) 9 9) ∧ w.heap.size ≤ g ∧ g < w'.heap.size ∧ ∀ j, j < 9 → w'.cell? ⟨g, j, none⟩ = some (.int .i64 (fl f j))) ∧ Grew w w' := by
  have g0 : Grew w ((w.alloc (.cells #[.slice a n c, .int .i64 f.sh, .int .i64 f.ra, .int .i64 f.mo, .int .i64 f.wo, .int .i64 f.ba, .int .i64 f.mi, .int .i64 f.st, .int .i64 f.bu, .int .i64 f.ch, .int .i64 f.wi, .int .i64 f.ca] 24)).alloc (.cells #[.int .i64 f.sh, .int .i64 f.wo, .int .i64 f.ba, .int .i64 f.mi, .int .i64 f.st, .int .i64 f.bu, .int .i64 f.ch, .int .i64 f.wi, .int .i64 f.ca] 3)) := ((Grew.refl w).alloc _).alloc _
  have HG := Lib.hid g0
  have HC : Hid (∀ j, j < 9 → ((w.alloc (.cells #[.slice a n c, .int .i64 f.sh, .int .i64 f.ra, .int .i64 f.mo, .int .i64 f.wo, .int .i64 f.ba, .int .i64 f.mi, .int .i64 f.st, .int .i64 f.bu, .int .i64 f.ch, .int .i64 f.wi, .int .i64 f.ca] 24)).alloc (.cells #[.int .i64 f.sh, .int .i64 f.wo, .int .i64 f.ba, .int .i64 f.mi, .int .i64 f.st, .int .i64 f.bu, .int .i64 f.ch, .int .i64 f.wi, .int .i64 f.ca] 3)).cell? ⟨w.heap.size + 1, j, none⟩ = some (.int .i64 (fl f j))) := Lib.hid (fun j hj => by
    have h := World.cell?_alloc_new (w.alloc (.cells #[.slice a n c, .int .i64 f.sh, .int .i64 f.ra, .int .i64 f.mo, .int .i64 f.wo, .int .i64 f.ba, .int .i64 f.mi, .int .i64 f.st, .int .i64 f.bu, .int .i64 f.ch, .int .i64 f.wi, .int .i64 f.ca] 24)) #[.int .i64 f.sh, .int .i64 f.wo, .int .i64 f.ba, .int .i64 f.mi, .int .i64 f.st, .int .i64 f.bu, .int .i64 f.ch, .int .i64 f.wi, .int .i64 f.ca] 3 j
    rw [World.size_alloc] at h
    rw [h]
    match j, hj with
    | 0, _ => rfl
    | 1, _ => rfl
    | 2, _ => rfl
    | 3, _ => rfl
    | 4, _ => rfl
    | 5, _ => rfl
    | 6, _ => rfl
    | 7, _ => rfl
    | 8, _ => rfl
    )
  have hs : w.heap.size + 1 < ((w.alloc (.cells #[.slice a n c, .int .i64 f.sh, .int .i64 f.ra, .int .i64 f.mo, .int .i64 f.wo, .int .i64 f.ba, .int .i64 f.mi, .int .i64 f.st, .int .i64 f.bu, .int .i64 f.ch, .int .i64 f.wi, .int .i64 f.ca] 24)).alloc (.cells #[.int .i64 f.sh, .int .i64 f.wo, .int .i64 f.ba, .int .i64 f.mi, .int .i64 f.st, .int .i64 f.bu, .int .i64 f.ch, .int .i64 f.wi, .int .i64 f.ca] 3)).heap.size := by simp
  have HS := Lib.hid hs
  clear g0 hs
  go_enter Tryz.func16, Tryz.ntmps16
  go_wp2
  go_ret
  exact ⟨⟨_, rfl, Nat.le_succ _, HS.out, HC.out⟩, HG.out⟩
theorem dec_text (n : Nat) : textL (n : Int) 0 = Lib.decDigits n := by
  unfold textL
  rw [if_neg (by omega)]
  simp [fracL, Nat.mod_one]
theorem runsigned_any (x : Int) (w : World) (h : inR x 0 1048576 = true) : Calls Tryz.prog 18 #[.int .u64 x] w fun e w' => e = .returned (.string ⟨(textL x 0).toArray⟩) ∧ Grew w w' := by
  have hb := inR_of h
  obtain ⟨n, rfl⟩ := Int.eq_ofNat_of_zero_le hb.1
  rw [dec_text]
  exact unsigned_any n (by omega) w
theorem u64_in {x : Int} (h : inR x 0 1048576 = true) : IntKind.u64.wrap x = x := by
  have := inR_of h
  exact IntWalk.u64_in _ (by omega)
def confK (f : Cf) (k : Nat) : List UInt8 := Lib.join (wordsN f k) [32]
theorem confK_one (f : Cf) : confK f 1 = nm 0 ++ 32 :: wrV f 0 := by
  show Lib.join [nm 0, wrV f 0] [32] = _
  rw [join_cons2 _ (by simp), Lib.join_one]
theorem confK_succ (f : Cf) {k : Nat} (h : 1 ≤ k) : confK f (k + 1) = confK f k ++ 32 :: (nm k ++ 32 :: wrV f k) := by
  unfold confK
  rw [wordsN_succ, join_append _ _ (fun e => by have := congrArg List.length e; rw [words_len] at this; simp at this; omega) (by simp), join_cons2 _ (by simp), Lib.join_one]
theorem confK_len {f : Cf} (hz : f.z.length ≤ 2000) (hi : AllIn f) {k : Nat} (hk : k ≤ 12) : (confK f k).length ≤ 24 * 168001 := by
  have h := jlensC [32] 168000 (wordsN f k) (fun p hp => by
    unfold wordsN at hp
    obtain ⟨j, hj, hp⟩ := List.mem_flatMap.1 hp
    have hj' := List.mem_range.1 hj
    simp at hp
    rcases hp with rfl | rfl
    · have := nm_len j; omega
    · exact wrV_len hz hi (by omega))
  rw [words_len] at h
  unfold confK
  exact Nat.le_trans h (Nat.mul_le_mul_right _ (by omega))
theorem fl_no {f : Cf} {j : Nat} (hj : j < 9) (h : inR (fl f j) 0 1048576 = false) : textC f = ([], false) := textC_no (fun ho => by
  have hg := good_of ho
  match j, hj with
  | 0, _ => have e : inR f.sh 0 1048576 = false := h; rw [hg.sh] at e; cases e
  | 1, _ => have e : inR f.wo 0 1048576 = false := h; rw [hg.wo] at e; cases e
  | 2, _ => have e : inR f.ba 0 1048576 = false := h; rw [hg.ba] at e; cases e
  | 3, _ => have e : inR f.mi 0 1048576 = false := h; rw [hg.mi] at e; cases e
  | 4, _ => have e : inR f.st 0 1048576 = false := h; rw [hg.st] at e; cases e
  | 5, _ => have e : inR f.bu 0 1048576 = false := h; rw [hg.bu] at e; cases e
  | 6, _ => have e : inR f.ch 0 1048576 = false := h; rw [hg.ch] at e; cases e
  | 7, _ => have e : inR f.wi 0 1048576 = false := h; rw [hg.wi] at e; cases e
  | 8, _ => have e : inR f.ca 0 1048576 = false := h; rw [hg.ca] at e; cases e
  )
theorem good_fl {f : Cf} (hz : f.z ≠ []) (hzs : allIn f.z = true) (hq : f.sh ≤ 62) (h : ∀ j, j < 9 → inR (fl f j) 0 1048576 = true) : Good f :=
  ⟨hz, hzs, ⟨(inR_of (h 0 (by decide))).1, hq⟩, h 0 (by decide), h 1 (by decide), h 2 (by decide), h 3 (by decide), h 4 (by decide), h 5 (by decide), h 6 (by decide), h 7 (by decide), h 8 (by decide)⟩
theorem wrV_fl {f : Cf} (hg : Good f) {i : Nat} (h1 : 1 ≤ i) (h2 : i < 9) : wrV f (3 + i) = textL (fl f i) 0 := by
  match i, h1, h2 with
  | 1, _, _ => exact cntT_yes hg.wo
  | 2, _, _ => exact cntT_yes hg.ba
  | 3, _, _ => exact cntT_yes hg.mi
  | 4, _, _ => exact cntT_yes hg.st
  | 5, _, _ => exact cntT_yes hg.bu
  | 6, _, _ => exact cntT_yes hg.ch
  | 7, _, _ => exact cntT_yes hg.wi
  | 8, _, _ => exact cntT_yes hg.ca

theorem fl_in {f : Cf} (hg : Good f) {i : Nat} (h2 : i < 9) : inR (fl f i) 0 1048576 = true := by
  match i, h2 with
  | 0, _ => exact hg.sh
  | 1, _ => exact hg.wo
  | 2, _ => exact hg.ba
  | 3, _ => exact hg.mi
  | 4, _ => exact hg.st
  | 5, _ => exact hg.bu
  | 6, _ => exact hg.ch
  | 7, _ => exact hg.wi
  | 8, _ => exact hg.ca

/-- Sizes, the first k. -/
def zK (z : List Int) (k : Nat) : List UInt8 := sizesL (z.take k)
theorem zK_zero (z : List Int) : zK z 0 = [] := by simp [zK, sizesL, Lib.join]
theorem zK_one {z : List Int} (h : 0 < z.length) : zK z (0 + 1) = textL (el z 0) 0 := by
  unfold zK sizesL
  rw [List.take_add_one, el_lt h]
  simp [Lib.join_one]
theorem zK_succ {k : Nat} {z : List Int} (h : k < z.length) (h0 : k ≠ 0) : zK z (k + 1) = zK z k ++ 44 :: textL (el z k) 0 := by
  unfold zK sizesL
  rw [List.take_add_one, el_lt h, List.map_append]
  have hne : (z.take k).map (fun x => textL x 0) ≠ [] := by
    intro e
    have := congrArg List.length e
    rw [List.length_map, List.length_take, List.length_nil] at this
    omega
  rw [jb_append 44 _ _ hne (by simp)]
  simp [Lib.join_one]
theorem zK_len {z : List Int} {k : Nat} (h : allIn (z.take k) = true) : (zK z k).length ≤ k * 84 := by
  have := sizesL_len h
  rw [List.length_take] at this
  exact Nat.le_trans this (Nat.mul_le_mul_right _ (by omega))
theorem str_app (a b : List UInt8) : (⟨a.toArray⟩ : ByteArray) ++ ⟨b.toArray⟩ = ⟨(a ++ b).toArray⟩ := (str_append a b).symm

set_option maxRecDepth 100000 in
set_option maxHeartbeats 8000000 in
theorem rtextC_any {n : Nat} (a : Option Addr) (c : Nat) (f : Cf) (w : World) (hn : f.z.length = n) (hl : n ≤ 2000) (hi : AllIn f) (hr : RdK .i64 w.heap.size w a f.z) :
    Calls Tryz.prog 8 #[.agg #[.slice a n c, .int .i64 f.sh, .int .i64 f.ra, .int .i64 f.mo, .int .i64 f.wo, .int .i64 f.ba, .int .i64 f.mi, .int .i64 f.st, .int .i64 f.bu, .int .i64 f.ch, .int .i64 f.wi, .int .i64 f.ca]] w fun e w' => e = .returned (.tuple #[.string ⟨(textC f).1.toArray⟩, .bool (textC f).2]) ∧ Grew w w' := by
  have g0 : Grew w (w.alloc (.cells #[.slice a n c, .int .i64 f.sh, .int .i64 f.ra, .int .i64 f.mo, .int .i64 f.wo, .int .i64 f.ba, .int .i64 f.mi, .int .i64 f.st, .int .i64 f.bu, .int .i64 f.ch, .int .i64 f.wi, .int .i64 f.ca] 24)) := (Grew.refl w).alloc _
  have HM := Lib.hid (CfM.new w a n c f)
  have HX := Lib.hid (hr.grow g0)
  have HG := Lib.hid g0
  have HN := Lib.hid hn
  have HI := Lib.hid hi
  clear g0 hr hn hi
  go_enter Tryz.func8, Tryz.ntmps8
  go_wp2_with fail
  generalize hW0 : w.alloc (.cells #[.slice a n c, .int .i64 f.sh, .int .i64 f.ra, .int .i64 f.mo, .int .i64 f.wo, .int .i64 f.ba, .int .i64 f.mi, .int .i64 f.st, .int .i64 f.bu, .int .i64 f.ch, .int .i64 f.wi, .int .i64 f.ca] 24) = W0 at *
  generalize hb0 : w.heap.size = cb at *
  clear hW0 hb0
  refine (fields_any a n c f W0).mono ?_
  rintro e w1 ⟨⟨fb, rfl, _, hfb, hfc⟩, g1⟩
  have HM1 := Lib.hid (HM.out.grow g1)
  have HX1 := Lib.hid (HX.out.grow g1)
  have HG1 := Lib.hid (HG.out.trans g1)
  have HFC := Lib.hid hfc
  clear HM HX HG g1 hfc
  go_wp2
  go_loopw [5] (fun i W' => ∃ k : Nat, k ≤ 9 ∧ i = .int .i64 k ∧ Hid (∀ j, j < k → inR (fl f j) 0 1048576 = true) ∧ W' = w1) (fun i _ => 9 - (intOf i).toNat)
  case atStart => exact ⟨0, Nat.zero_le _, rfl, Lib.hid (fun j hj => absurd hj (Nat.not_lt_zero _)), rfl⟩
  case round =>
    obtain ⟨k, hk, rfl, HF, rfl⟩ := hrel
    by_cases hlt : k < 9
    · have hc := HFC.out k hlt
      cases h1 : inR (fl f k) 0 1048576 with
      | false =>
        have HNO := Lib.hid (fl_no hlt h1)
        generalize fl f k = x at *
        have H1 := Lib.hid h1
        clear h1
        go_wp2_with fail
        refine (between_any _ _ _ _).mono ?_
        rintro e wX ⟨rfl, rfl⟩
        rw [H1.out]
        go_wp2
        go_ret2
        exact ⟨by simp [HNO.out], HG1.out⟩
      | true =>
        have HF' : Hid (∀ j, j < k + 1 → inR (fl f j) 0 1048576 = true) := Lib.hid (fun j hj => by
          by_cases e : j = k
          · subst e; exact h1
          · exact HF.out j (by omega))
        generalize fl f k = x at *
        have H1 := Lib.hid h1
        clear h1
        go_wp2_with fail
        refine (between_any _ _ _ _).mono ?_
        rintro e wX ⟨rfl, rfl⟩
        rw [H1.out]
        go_wp2
        go_roundw
        case rel => exact ⟨k + 1, hlt, by go_num, HF', by simp⟩
        case measure => simp [intOf]; omega
    · obtain rfl : k = 9 := by omega
      rename World => w1
      have c0 := HM1.out.c0
      have c1 := HM1.out.c1
      have hcl := HM1.out.lt
      by_cases hz0 : n = 0
      · have hz : f.z = [] := List.eq_nil_of_length_eq_zero (by rw [HN.out]; exact hz0)
        have HNO : Hid (textC f = ([], false)) := Lib.hid (textC_no (fun ho => (good_of ho).z hz))
        subst hz0
        go_wp2
        go_ret2
        exact ⟨by simp [HNO.out], HG1.out⟩
      · by_cases hq : 62 < f.sh
        · have HNO : Hid (textC f = ([], false)) := Lib.hid (textC_no (fun ho => by have := (good_of ho).q.2; omega))
          have e1 : ((n : Int) == (0 : Int)) = false := by rw [beq_eq_false_iff_ne]; omega
          go_wp2
          go_ret2
          exact ⟨by simp [HNO.out], HG1.out⟩
        · have e1 : ((n : Int) == (0 : Int)) = false := by rw [beq_eq_false_iff_ne]; omega
          have hzn : f.z ≠ [] := fun e => by have h := HN.out; rw [e] at h; exact hz0 h.symm
          have HZN := Lib.hid hzn
          have HQ := Lib.hid (show f.sh ≤ 62 by omega)
          clear hzn
          go_wp2
          go_loopw [6, 7] (fun s i W' => ∃ k : Nat, k ≤ n ∧ i = .int .i64 k ∧ s = .string ⟨(nm 0 ++ 32 :: zK f.z k).toArray⟩ ∧ Hid (allIn (f.z.take k) = true) ∧ Hid (Grew w1 W')) (fun _ i _ => n - (intOf i).toNat)
          case atStart => exact ⟨0, Nat.zero_le _, rfl, by rw [zK_zero]; rfl, Lib.hid rfl, Lib.hid (Grew.refl _)⟩
          case round =>
            obtain ⟨k, hk, rfl, rfl, HA, HG⟩ := hrel
            have HGT := Lib.hid (HG1.out.trans HG.out)
            have c0' := stay HG.out c0
            have c1' := stay HG.out c1
            have hzl := zK_len HA.out
            by_cases hlt : k < n
            · have hkz : k < f.z.length := by rw [HN.out]; exact hlt
              obtain ⟨b, off, rfl, hb, hc⟩ := (HX1.out.grow HG.out).at hkz
              cases h1 : inR (el f.z k) 0 1048576 with
              | false =>
                have HNO : Hid (textC f = ([], false)) := Lib.hid (textC_no (fun ho => by have := (good_of ho).zs; rw [allIn_no hkz h1] at this; cases this))
                have H1 := Lib.hid h1
                clear h1
                generalize el f.z k = x at *
                go_wp2_with fail
                refine (between_any _ _ _ _).mono ?_
                rintro e wX ⟨rfl, rfl⟩
                rw [H1.out]
                go_wp2
                go_ret2
                exact ⟨by simp [HNO.out], HGT.out⟩
              | true =>
                have HA' := Lib.hid (allIn_take hkz HA.out h1)
                have hu := u64_in h1
                have htl := nat_len h1
                have HU := Lib.hid (fun W => runsigned_any (el f.z k) W h1)
                have H1 := Lib.hid h1
                clear h1
                by_cases h0 : k = 0
                · subst h0
                  have HS : Hid (nm 0 ++ 32 :: zK f.z (0 + 1) = (nm 0 ++ 32 :: zK f.z 0) ++ textL (el f.z 0) 0) := Lib.hid (by rw [zK_zero, zK_one hkz]; simp)
                  have hsl : (nm 0 ++ 32 :: zK f.z 0).length ≤ 1000000 := by rw [zK_zero]; simp [nm]
                  rw [Nat.add_zero] at hc
                  obtain ⟨s1, hs1⟩ : ∃ s1, nm 0 ++ 32 :: zK f.z (0 + 1) = s1 := ⟨_, rfl⟩
                  have HS1 := Lib.hid hs1
                  rw [hs1] at HS
                  clear hs1
                  generalize nm 0 ++ 32 :: zK f.z 0 = s0 at *
                  generalize textL (el f.z 0) 0 = t at *
                  generalize el f.z 0 = x at *
                  have hla : ¬ (9223372036854775807 : Int) < (s0.length : Int) + (t.length : Int) := by omega
                  have HST : Hid ((⟨s0.toArray⟩ : ByteArray) ++ ⟨t.toArray⟩ = ⟨s1.toArray⟩) := Lib.hid (by rw [HS.out, str_app])
                  go_wp2_with fail
                  refine (between_any _ _ _ _).mono ?_
                  rintro e wX ⟨rfl, rfl⟩
                  rw [H1.out]
                  go_wp2_with fail
                  refine (HU.out _).mono ?_
                  rintro e w3 ⟨rfl, g3⟩
                  have HG3 := Lib.hid (HG.out.trans g3)
                  clear g3
                  go_wp2
                  rw [HST.out]
                  go_roundw
                  case rel => exact ⟨1, by omega, by go_num, by rw [show zK f.z 1 = zK f.z (0 + 1) from rfl, HS1.out], HA', HG3⟩
                  case measure => simp [intOf]; omega
                · have HS : Hid (nm 0 ++ 32 :: zK f.z (k + 1) = (nm 0 ++ 32 :: zK f.z k) ++ [44] ++ textL (el f.z k) 0) := Lib.hid (by rw [zK_succ hkz h0]; simp)
                  have hsl : (nm 0 ++ 32 :: zK f.z k).length ≤ 1000000 := by
                    rw [List.length_append, List.length_cons]
                    have := nm_len 0
                    omega
                  have hpos : (0 : Int) < (k : Int) := by omega
                  have hpos2 : 0 < k := by omega
                  obtain ⟨s1, hs1⟩ : ∃ s1, nm 0 ++ 32 :: zK f.z (k + 1) = s1 := ⟨_, rfl⟩
                  have HS1 := Lib.hid hs1
                  rw [hs1] at HS
                  clear hs1
                  generalize nm 0 ++ 32 :: zK f.z k = s0 at *
                  generalize textL (el f.z k) 0 = t at *
                  generalize el f.z k = x at *
                  have hlb : ¬ (9223372036854775807 : Int) < (s0.length : Int) + 1 := by omega
                  have hla : ¬ (9223372036854775807 : Int) < (s0.length : Int) + 1 + (t.length : Int) := by omega
                  have hlc : ¬ 9223372036854775807 < s0.length + 1 := by omega
                  have hld : ¬ 9223372036854775807 < s0.length + 1 + t.length := by omega
                  have HST : Hid ((⟨s0.toArray⟩ : ByteArray) ++ ⟨#[44]⟩ ++ ⟨t.toArray⟩ = ⟨s1.toArray⟩) := Lib.hid (by rw [HS.out, ← str_app, ← str_app])
                  go_wp2_with fail
                  refine (between_any _ _ _ _).mono ?_
                  rintro e wX ⟨rfl, rfl⟩
                  rw [H1.out]
                  go_wp2_with fail
                  refine (HU.out _).mono ?_
                  rintro e w3 ⟨rfl, g3⟩
                  have HG3 := Lib.hid (HG.out.trans g3)
                  clear g3
                  go_wp2
                  rw [HST.out]
                  go_roundw
                  case rel => exact ⟨k + 1, by omega, by go_num, by rw [HS1.out], HA', HG3⟩
                  case measure => simp [intOf]; omega
            · obtain rfl : k = n := by omega
              have hta : f.z.take k = f.z := by rw [← HN.out, List.take_length]
              rw [hta] at HA
              have hGd : Good f := good_fl HZN.out HA.out HQ.out HF.out
              have HGD := Lib.hid hGd
              have HOK := Lib.hid (textC_yes hGd.ok)
              have HE1 : Hid (nm 0 ++ 32 :: zK f.z k = confK f 1) := Lib.hid (by rw [confK_one]; unfold zK; rw [hta]; show _ = nm 0 ++ 32 :: sizesT f.z; rw [sizesT_yes HZN.out HA.out])
              rw [HE1.out]
              clear hta hGd hzl
              rename World => w2
              have c2' := stay HG.out HM1.out.c2
              have c3' := stay HG.out HM1.out.c3
              have hu := u64_in HGD.out.sh
              have hq := (HGD.out.q)
              have hl1 := confK_len (f := f) (k := 1) (by rw [HN.out]; exact hl) HI.out (by decide)
              have hd1 := nat_len HGD.out.sh
              have hd2 := text_len (x := f.ra) (q := f.sh.toNat) (toNat_le hq) (HI.out.2 2 (by decide) (by decide)).1 (HI.out.2 2 (by decide) (by decide)).2
              have hd3 := text_len (x := f.mo) (q := f.sh.toNat) (toNat_le hq) (HI.out.2 3 (by decide) (by decide)).1 (HI.out.2 3 (by decide) (by decide)).2
              have HU1 := Lib.hid (fun W => runsigned_any f.sh W HGD.out.sh)
              have HU2 : Hid (∀ W, Calls Tryz.prog 19 #[.int .i64 f.ra, .int .i64 f.sh] W fun e w' => e = .returned (.string ⟨(textL f.ra f.sh.toNat).toArray⟩) ∧ Grew W w') := Lib.hid (fun W => by
                have h := rtext_any f.ra f.sh W (HI.out.2 2 (by decide) (by decide)).1 (HI.out.2 2 (by decide) (by decide)).2
                rwa [textV_q hq] at h)
              have HU3 : Hid (∀ W, Calls Tryz.prog 19 #[.int .i64 f.mo, .int .i64 f.sh] W fun e w' => e = .returned (.string ⟨(textL f.mo f.sh.toNat).toArray⟩) ∧ Grew W w') := Lib.hid (fun W => by
                have h := rtext_any f.mo f.sh W (HI.out.2 3 (by decide) (by decide)).1 (HI.out.2 3 (by decide) (by decide)).2
                rwa [textV_q hq] at h)
              have HE4 : Hid (confK f 4 = confK f 1 ++ [32, 115, 104, 105, 102, 116, 32] ++ textL f.sh 0 ++ [32, 114, 97, 116, 101, 32] ++ textL f.ra f.sh.toNat ++ [32, 109, 111, 109, 101, 110, 116, 117, 109, 32] ++ textL f.mo f.sh.toNat) := Lib.hid (by
                rw [confK_succ f (by decide), confK_succ f (by decide), confK_succ f (by decide)]
                rw [show wrV f 1 = textL f.sh 0 from cntT_yes HGD.out.sh, show wrV f 2 = textL f.ra f.sh.toNat from textV_q hq, show wrV f 3 = textL f.mo f.sh.toNat from textV_q hq]
                simp [nm])
              generalize textL f.sh 0 = d1 at *
              generalize textL f.ra f.sh.toNat = d2 at *
              generalize textL f.mo f.sh.toNat = d3 at *
              generalize confK f 1 = s0 at *
              generalize hs4 : confK f 4 = s4 at *
              have HS4 := Lib.hid hs4
              clear hs4
              have HST : Hid ((⟨s0.toArray⟩ : ByteArray) ++ ⟨#[32, 115, 104, 105, 102, 116, 32]⟩ ++ ⟨d1.toArray⟩ ++ ⟨#[32, 114, 97, 116, 101, 32]⟩ ++ ⟨d2.toArray⟩ ++ ⟨#[32, 109, 111, 109, 101, 110, 116, 117, 109, 32]⟩ ++ ⟨d3.toArray⟩ = ⟨s4.toArray⟩) := Lib.hid (by rw [HE4.out, ← str_app, ← str_app, ← str_app, ← str_app, ← str_app, ← str_app])
              have k1 : ¬ (9223372036854775807 : Int) < (s0.length : Int) + 7 := by omega
              have k2 : ¬ (9223372036854775807 : Int) < (s0.length : Int) + 7 + (d1.length : Int) := by omega
              have k3 : ¬ (9223372036854775807 : Int) < (s0.length : Int) + 7 + (d1.length : Int) + 6 := by omega
              have k4 : ¬ (9223372036854775807 : Int) < (s0.length : Int) + 7 + (d1.length : Int) + 6 + (d2.length : Int) := by omega
              have k5 : ¬ (9223372036854775807 : Int) < (s0.length : Int) + 7 + (d1.length : Int) + 6 + (d2.length : Int) + 10 := by omega
              have k6 : ¬ (9223372036854775807 : Int) < (s0.length : Int) + 7 + (d1.length : Int) + 6 + (d2.length : Int) + 10 + (d3.length : Int) := by omega
              have m1 : ¬ 9223372036854775807 < s0.length + 7 := by omega
              have m2 : ¬ 9223372036854775807 < s0.length + 7 + d1.length := by omega
              have m3 : ¬ 9223372036854775807 < s0.length + 7 + d1.length + 6 := by omega
              have m4 : ¬ 9223372036854775807 < s0.length + 7 + d1.length + 6 + d2.length := by omega
              have m5 : ¬ 9223372036854775807 < s0.length + 7 + d1.length + 6 + d2.length + 10 := by omega
              have m6 : ¬ 9223372036854775807 < s0.length + 7 + d1.length + 6 + d2.length + 10 + d3.length := by omega
              have c0 := c0'
              have c1 := c1'
              go_upto_region 18 with fail
              refine wp_region_held_drew (S := (fun W' => Grew w2 W' ∧ W'.cell? ⟨cb, 1, none⟩ = some (.int .i64 f.sh) ∧ W'.cell? ⟨cb, 2, none⟩ = some (.int .i64 f.ra) ∧ W'.cell? ⟨cb, 3, none⟩ = some (.int .i64 f.mo))) (by kernel_rfl) ⟨Grew.drew' (Grew.refl _), c1', c2', c3'⟩ (fun hHeld => ?_)
              refine wpAnyH_take (i := 0) (oi := { dst := some 60, op := Go.Op.move (Go.Operand.tmp 6), type := 9, pos := _, after := #[], guard := none }) (v := ?v1) rfl (by kernel_rfl) (by kernel_rfl) (by kernel_rfl) (fun _ _ _ h => h) (Or.inl ⟨by kernel_rfl, ?hy1⟩) (by assumption) ?_
              case hy1 => intro w hSw; (try dsimp only at hSw); first | (go_simp; done) | (go_simp; with_reducible rfl)
              (try simp only [Act.put, List.setIfInBounds_toArray, List.set_cons_zero, List.set_cons_succ])
              refine wpAnyH_take (i := 1) (oi := { dst := some 61, op := Go.Op.binOp Go.BinOp.add 9 (Go.Operand.tmp 60) (Go.Operand.const (Go.Value.string { data := #[32, 115, 104, 105, 102, 116, 32] })) 9, type := 9, pos := _, after := #[{ on := 0, ground := Go.Ground.data }], guard := none }) (v := ?v2) rfl (by kernel_rfl) (by kernel_rfl) (by kernel_rfl) (fun _ _ _ h => h) (Or.inl ⟨by kernel_rfl, ?hy2⟩) (by assumption) ?_
              case hy2 => intro w hSw; (try dsimp only at hSw); first | (go_simp; done) | (go_simp; with_reducible rfl)
              (try simp only [Act.put, List.setIfInBounds_toArray, List.set_cons_zero, List.set_cons_succ])
              refine wpAnyH_take (i := 2) (oi := { dst := some 62, op := Go.Op.fieldAddr 24 (Go.Operand.tmp 1) 1, type := 0, pos := _, after := #[], guard := none }) (v := ?v3) rfl (by kernel_rfl) (by kernel_rfl) (by kernel_rfl) (fun _ _ _ h => h) (Or.inl ⟨by kernel_rfl, ?hy3⟩) (by assumption) ?_
              case hy3 => intro w hSw; (try dsimp only at hSw); first | (go_simp; done) | (go_simp; with_reducible rfl)
              (try simp only [Act.put, List.setIfInBounds_toArray, List.set_cons_zero, List.set_cons_succ])
              refine wpAnyH_take (i := 3) (oi := { dst := some 63, op := Go.Op.load 3 (Go.Operand.tmp 62), type := 3, pos := _, after := #[{ on := 2, ground := Go.Ground.data }], guard := none }) (v := ?v4) rfl (by kernel_rfl) (by kernel_rfl) (by kernel_rfl) (fun _ _ _ h => h) (Or.inl ⟨by kernel_rfl, ?hy4⟩) (by assumption) ?_
              case hy4 => intro w hSw; (try dsimp only at hSw); first | (go_simp; done) | (go_simp; with_reducible rfl)
              (try simp only [Act.put, List.setIfInBounds_toArray, List.set_cons_zero, List.set_cons_succ])
              refine wpAnyH_take (i := 4) (oi := { dst := some 64, op := Go.Op.convert 3 48 (Go.Operand.tmp 63), type := 48, pos := _, after := #[{ on := 3, ground := Go.Ground.data }], guard := none }) (v := ?v5) rfl (by kernel_rfl) (by kernel_rfl) (by kernel_rfl) (fun _ _ _ h => h) (Or.inl ⟨by kernel_rfl, ?hy5⟩) (by assumption) ?_
              case hy5 => intro w hSw; (try dsimp only at hSw); first | (go_simp; done) | (go_simp; with_reducible rfl)
              (try simp only [Act.put, List.setIfInBounds_toArray, List.set_cons_zero, List.set_cons_succ])
              refine wpAnyH_take (i := 8) (oi := { dst := some 68, op := Go.Op.fieldAddr 24 (Go.Operand.tmp 1) 2, type := 0, pos := _, after := #[], guard := none }) (v := ?v6) rfl (by kernel_rfl) (by kernel_rfl) (by kernel_rfl) (fun _ _ _ h => h) (Or.inl ⟨by kernel_rfl, ?hy6⟩) (by assumption) ?_
              case hy6 => intro w hSw; (try dsimp only at hSw); first | (go_simp; done) | (go_simp; with_reducible rfl)
              (try simp only [Act.put, List.setIfInBounds_toArray, List.set_cons_zero, List.set_cons_succ])
              refine wpAnyH_take (i := 9) (oi := { dst := some 69, op := Go.Op.load 2 (Go.Operand.tmp 68), type := 2, pos := _, after := #[{ on := 8, ground := Go.Ground.data }], guard := none }) (v := ?v7) rfl (by kernel_rfl) (by kernel_rfl) (by kernel_rfl) (fun _ _ _ h => h) (Or.inl ⟨by kernel_rfl, ?hy7⟩) (by assumption) ?_
              case hy7 => intro w hSw; (try dsimp only at hSw); first | (go_simp; done) | (go_simp; with_reducible rfl)
              (try simp only [Act.put, List.setIfInBounds_toArray, List.set_cons_zero, List.set_cons_succ])
              refine wpAnyH_take (i := 10) (oi := { dst := some 70, op := Go.Op.fieldAddr 24 (Go.Operand.tmp 1) 1, type := 0, pos := _, after := #[], guard := none }) (v := ?v8) rfl (by kernel_rfl) (by kernel_rfl) (by kernel_rfl) (fun _ _ _ h => h) (Or.inl ⟨by kernel_rfl, ?hy8⟩) (by assumption) ?_
              case hy8 => intro w hSw; (try dsimp only at hSw); first | (go_simp; done) | (go_simp; with_reducible rfl)
              (try simp only [Act.put, List.setIfInBounds_toArray, List.set_cons_zero, List.set_cons_succ])
              refine wpAnyH_take (i := 11) (oi := { dst := some 71, op := Go.Op.load 3 (Go.Operand.tmp 70), type := 3, pos := _, after := #[{ on := 10, ground := Go.Ground.data }], guard := none }) (v := ?v9) rfl (by kernel_rfl) (by kernel_rfl) (by kernel_rfl) (fun _ _ _ h => h) (Or.inl ⟨by kernel_rfl, ?hy9⟩) (by assumption) ?_
              case hy9 => intro w hSw; (try dsimp only at hSw); first | (go_simp; done) | (go_simp; with_reducible rfl)
              (try simp only [Act.put, List.setIfInBounds_toArray, List.set_cons_zero, List.set_cons_succ])
              refine wpAnyH_take (i := 15) (oi := { dst := some 75, op := Go.Op.fieldAddr 24 (Go.Operand.tmp 1) 3, type := 0, pos := _, after := #[], guard := none }) (v := ?v10) rfl (by kernel_rfl) (by kernel_rfl) (by kernel_rfl) (fun _ _ _ h => h) (Or.inl ⟨by kernel_rfl, ?hy10⟩) (by assumption) ?_
              case hy10 => intro w hSw; (try dsimp only at hSw); first | (go_simp; done) | (go_simp; with_reducible rfl)
              (try simp only [Act.put, List.setIfInBounds_toArray, List.set_cons_zero, List.set_cons_succ])
              refine wpAnyH_take (i := 16) (oi := { dst := some 76, op := Go.Op.load 2 (Go.Operand.tmp 75), type := 2, pos := _, after := #[{ on := 15, ground := Go.Ground.data }], guard := none }) (v := ?v11) rfl (by kernel_rfl) (by kernel_rfl) (by kernel_rfl) (fun _ _ _ h => h) (Or.inl ⟨by kernel_rfl, ?hy11⟩) (by assumption) ?_
              case hy11 => intro w hSw; (try dsimp only at hSw); first | (go_simp; done) | (go_simp; with_reducible rfl)
              (try simp only [Act.put, List.setIfInBounds_toArray, List.set_cons_zero, List.set_cons_succ])
              refine wpAnyH_take (i := 17) (oi := { dst := some 77, op := Go.Op.fieldAddr 24 (Go.Operand.tmp 1) 1, type := 0, pos := _, after := #[], guard := none }) (v := ?v12) rfl (by kernel_rfl) (by kernel_rfl) (by kernel_rfl) (fun _ _ _ h => h) (Or.inl ⟨by kernel_rfl, ?hy12⟩) (by assumption) ?_
              case hy12 => intro w hSw; (try dsimp only at hSw); first | (go_simp; done) | (go_simp; with_reducible rfl)
              (try simp only [Act.put, List.setIfInBounds_toArray, List.set_cons_zero, List.set_cons_succ])
              refine wpAnyH_take (i := 18) (oi := { dst := some 78, op := Go.Op.load 3 (Go.Operand.tmp 77), type := 3, pos := _, after := #[{ on := 17, ground := Go.Ground.data }], guard := none }) (v := ?v13) rfl (by kernel_rfl) (by kernel_rfl) (by kernel_rfl) (fun _ _ _ h => h) (Or.inl ⟨by kernel_rfl, ?hy13⟩) (by assumption) ?_
              case hy13 => intro w hSw; (try dsimp only at hSw); first | (go_simp; done) | (go_simp; with_reducible rfl)
              (try simp only [Act.put, List.setIfInBounds_toArray, List.set_cons_zero, List.set_cons_succ])
              refine wpAnyH_ready (rs := [5]) (by kernel_rfl) (by simp) ?_
              refine AllReadyH.cons (o := { dst := some 65, op := Go.Op.call { callee := Go.Callee.value (Go.Operand.func 18), args := #[Go.Operand.tmp 64], argTypes := #[48] }, type := 9, pos := _, after := #[{ on := 4, ground := Go.Ground.data }], guard := none }) rfl (fun K hK => ?_) AllReadyH.nil
              go_simp
              (go_at_call 18; refine (HU1.out _).mono ?_; rintro e w3 ⟨rfl, g3⟩)
              (try go_wp2_with fail)
              refine hK.out _ _ ?hS15 (fun hHeld => ?_)
              case hS15 => (try dsimp only); exact keep3 g3 (by assumption)
              clear hK K
              (try simp only [Act.put, List.setIfInBounds_toArray, List.set_cons_zero, List.set_cons_succ])
              refine wpAnyH_take (i := 6) (oi := { dst := some 66, op := Go.Op.binOp Go.BinOp.add 9 (Go.Operand.tmp 61) (Go.Operand.tmp 65) 9, type := 9, pos := _, after := #[{ on := 1, ground := Go.Ground.data }, { on := 5, ground := Go.Ground.data }], guard := none }) (v := ?v16) rfl (by kernel_rfl) (by kernel_rfl) (by kernel_rfl) (fun _ _ _ h => h) (Or.inl ⟨by kernel_rfl, ?hy16⟩) (by assumption) ?_
              case hy16 => intro w hSw; (try dsimp only at hSw); first | (go_simp; done) | (go_simp; with_reducible rfl)
              (try simp only [Act.put, List.setIfInBounds_toArray, List.set_cons_zero, List.set_cons_succ])
              refine wpAnyH_take (i := 7) (oi := { dst := some 67, op := Go.Op.binOp Go.BinOp.add 9 (Go.Operand.tmp 66) (Go.Operand.const (Go.Value.string { data := #[32, 114, 97, 116, 101, 32] })) 9, type := 9, pos := _, after := #[{ on := 6, ground := Go.Ground.data }], guard := none }) (v := ?v17) rfl (by kernel_rfl) (by kernel_rfl) (by kernel_rfl) (fun _ _ _ h => h) (Or.inl ⟨by kernel_rfl, ?hy17⟩) (by assumption) ?_
              case hy17 => intro w hSw; (try dsimp only at hSw); first | (go_simp; done) | (go_simp; with_reducible rfl)
              (try simp only [Act.put, List.setIfInBounds_toArray, List.set_cons_zero, List.set_cons_succ])
              refine wpAnyH_ready (rs := [12]) (by kernel_rfl) (by simp) ?_
              refine AllReadyH.cons (o := { dst := some 72, op := Go.Op.call { callee := Go.Callee.value (Go.Operand.func 19), args := #[Go.Operand.tmp 69, Go.Operand.tmp 71], argTypes := #[2, 3] }, type := 9, pos := _, after := #[{ on := 9, ground := Go.Ground.data }, { on := 11, ground := Go.Ground.data }, { on := 5, ground := Go.Ground.chain }], guard := none }) rfl (fun K hK => ?_) AllReadyH.nil
              go_simp
              (go_at_call 19; refine (HU2.out _).mono ?_; rintro e w4 ⟨rfl, g4⟩)
              (try go_wp2_with fail)
              refine hK.out _ _ ?hS19 (fun hHeld => ?_)
              case hS19 => (try dsimp only); exact keep3 g4 (by assumption)
              clear hK K
              (try simp only [Act.put, List.setIfInBounds_toArray, List.set_cons_zero, List.set_cons_succ])
              refine wpAnyH_take (i := 13) (oi := { dst := some 73, op := Go.Op.binOp Go.BinOp.add 9 (Go.Operand.tmp 67) (Go.Operand.tmp 72) 9, type := 9, pos := _, after := #[{ on := 7, ground := Go.Ground.data }, { on := 12, ground := Go.Ground.data }], guard := none }) (v := ?v20) rfl (by kernel_rfl) (by kernel_rfl) (by kernel_rfl) (fun _ _ _ h => h) (Or.inl ⟨by kernel_rfl, ?hy20⟩) (by assumption) ?_
              case hy20 => intro w hSw; (try dsimp only at hSw); first | (go_simp; done) | (go_simp; with_reducible rfl)
              (try simp only [Act.put, List.setIfInBounds_toArray, List.set_cons_zero, List.set_cons_succ])
              refine wpAnyH_take (i := 14) (oi := { dst := some 74, op := Go.Op.binOp Go.BinOp.add 9 (Go.Operand.tmp 73) (Go.Operand.const (Go.Value.string { data := #[32, 109, 111, 109, 101, 110, 116, 117, 109, 32] })) 9, type := 9, pos := _, after := #[{ on := 13, ground := Go.Ground.data }], guard := none }) (v := ?v21) rfl (by kernel_rfl) (by kernel_rfl) (by kernel_rfl) (fun _ _ _ h => h) (Or.inl ⟨by kernel_rfl, ?hy21⟩) (by assumption) ?_
              case hy21 => intro w hSw; (try dsimp only at hSw); first | (go_simp; done) | (go_simp; with_reducible rfl)
              (try simp only [Act.put, List.setIfInBounds_toArray, List.set_cons_zero, List.set_cons_succ])
              refine wpAnyH_ready (rs := [19]) (by kernel_rfl) (by simp) ?_
              refine AllReadyH.cons (o := { dst := some 79, op := Go.Op.call { callee := Go.Callee.value (Go.Operand.func 19), args := #[Go.Operand.tmp 76, Go.Operand.tmp 78], argTypes := #[2, 3] }, type := 9, pos := _, after := #[{ on := 16, ground := Go.Ground.data }, { on := 18, ground := Go.Ground.data }, { on := 12, ground := Go.Ground.chain }], guard := none }) rfl (fun K hK => ?_) AllReadyH.nil
              go_simp
              (go_at_call 19; refine (HU3.out _).mono ?_; rintro e w5 ⟨rfl, g5⟩)
              (try go_wp2_with fail)
              refine hK.out _ _ ?hS23 (fun hHeld => ?_)
              case hS23 => (try dsimp only); exact keep3 g5 (by assumption)
              clear hK K
              (try simp only [Act.put, List.setIfInBounds_toArray, List.set_cons_zero, List.set_cons_succ])
              refine wpAnyH_take (i := 20) (oi := { dst := some 80, op := Go.Op.binOp Go.BinOp.add 9 (Go.Operand.tmp 74) (Go.Operand.tmp 79) 9, type := 9, pos := _, after := #[{ on := 14, ground := Go.Ground.data }, { on := 19, ground := Go.Ground.data }], guard := none }) (v := ?v24) rfl (by kernel_rfl) (by kernel_rfl) (by kernel_rfl) (fun _ _ _ h => h) (Or.inl ⟨by kernel_rfl, ?hy24⟩) (by assumption) ?_
              case hy24 => intro w hSw; (try dsimp only at hSw); first | (go_simp; done) | (go_simp; with_reducible rfl)
              (try simp only [Act.put, List.setIfInBounds_toArray, List.set_cons_zero, List.set_cons_succ])
              refine wpAnyH_take (i := 21) (oi := { dst := some 6, op := Go.Op.assign (Go.Operand.tmp 80), type := 9, pos := _, after := #[{ on := 20, ground := Go.Ground.data }, { on := 19, ground := Go.Ground.chain }, { on := 0, ground := Go.Ground.phase }, { on := 1, ground := Go.Ground.phase }, { on := 2, ground := Go.Ground.phase }, { on := 3, ground := Go.Ground.phase }, { on := 4, ground := Go.Ground.phase }, { on := 5, ground := Go.Ground.phase }, { on := 6, ground := Go.Ground.phase }, { on := 7, ground := Go.Ground.phase }, { on := 8, ground := Go.Ground.phase }, { on := 9, ground := Go.Ground.phase }, { on := 10, ground := Go.Ground.phase }, { on := 11, ground := Go.Ground.phase }, { on := 12, ground := Go.Ground.phase }, { on := 13, ground := Go.Ground.phase }, { on := 14, ground := Go.Ground.phase }, { on := 15, ground := Go.Ground.phase }, { on := 16, ground := Go.Ground.phase }, { on := 17, ground := Go.Ground.phase }, { on := 18, ground := Go.Ground.phase }, { on := 19, ground := Go.Ground.phase }, { on := 20, ground := Go.Ground.phase }], guard := none }) (v := ?v25) rfl (by kernel_rfl) (by kernel_rfl) (by kernel_rfl) (fun _ _ _ h => h) (Or.inl ⟨by kernel_rfl, ?hy25⟩) (by assumption) ?_
              case hy25 => intro w hSw; (try dsimp only at hSw); first | (go_simp; done) | (go_simp; with_reducible rfl)
              (try simp only [Act.put, List.setIfInBounds_toArray, List.set_cons_zero, List.set_cons_succ])
              refine wpAnyH_done (by kernel_rfl) ?_ _
              rw [HST.out]
              have HG5 := Lib.hid (HGT.out.trans ((Grew.drew' (Grew.refl w2)).trans (g3.trans (g4.trans g5))))
              have HFC5 : Hid (∀ j, j < 9 → w5.cell? ⟨fb, j, none⟩ = some (.int .i64 (fl f j))) := Lib.hid (fun j hj => stay (HG.out.trans ((Grew.drew' (Grew.refl w2)).trans (g3.trans (g4.trans g5)))) (HFC.out j hj))
              clear hHeld g3 g4 g5 c0 c1 c0' c1' c2' c3' k1 k2 k3 k4 k5 k6 m1 m2 m3 m4 m5 m6 hu
              have HW6 : Hid (∀ j, 1 ≤ j → j < 9 → (w5.alloc (.cells #[.string ⟨#[]⟩, .string ⟨#[119, 111, 114, 107, 101, 114, 115]⟩, .string ⟨#[98, 97, 116, 99, 104]⟩, .string ⟨#[109, 105, 99, 114, 111, 115]⟩, .string ⟨#[115, 116, 101, 112, 115]⟩, .string ⟨#[98, 117, 99, 107, 101, 116]⟩, .string ⟨#[99, 104, 117, 110, 107]⟩, .string ⟨#[119, 105, 110, 100, 111, 119]⟩, .string ⟨#[99, 97, 112, 97, 99, 105, 116, 121]⟩] 9)).cell? ⟨w5.heap.size, j, none⟩ = some (.string ⟨(nm (3 + j)).toArray⟩)) := Lib.hid (fun j h1 h2 => by
                rw [World.cell?_alloc_new]
                match j, h1, h2 with
                | 1, _, _ => rfl
                | 2, _, _ => rfl
                | 3, _, _ => rfl
                | 4, _, _ => rfl
                | 5, _, _ => rfl
                | 6, _, _ => rfl
                | 7, _, _ => rfl
                | 8, _, _ => rfl)
              have HG6 : Hid (Grew w (w5.alloc (.cells #[.string ⟨#[]⟩, .string ⟨#[119, 111, 114, 107, 101, 114, 115]⟩, .string ⟨#[98, 97, 116, 99, 104]⟩, .string ⟨#[109, 105, 99, 114, 111, 115]⟩, .string ⟨#[115, 116, 101, 112, 115]⟩, .string ⟨#[98, 117, 99, 107, 101, 116]⟩, .string ⟨#[99, 104, 117, 110, 107]⟩, .string ⟨#[119, 105, 110, 100, 111, 119]⟩, .string ⟨#[99, 97, 112, 97, 99, 105, 116, 121]⟩] 9))) := Lib.hid (HG5.out.alloc _)
              have HFC6 : Hid (∀ j, j < 9 → (w5.alloc (.cells #[.string ⟨#[]⟩, .string ⟨#[119, 111, 114, 107, 101, 114, 115]⟩, .string ⟨#[98, 97, 116, 99, 104]⟩, .string ⟨#[109, 105, 99, 114, 111, 115]⟩, .string ⟨#[115, 116, 101, 112, 115]⟩, .string ⟨#[98, 117, 99, 107, 101, 116]⟩, .string ⟨#[99, 104, 117, 110, 107]⟩, .string ⟨#[119, 105, 110, 100, 111, 119]⟩, .string ⟨#[99, 97, 112, 97, 99, 105, 116, 121]⟩] 9)).cell? ⟨fb, j, none⟩ = some (.int .i64 (fl f j))) := Lib.hid (fun j hj => stay ((Grew.refl w5).alloc _) (HFC5.out j hj))
              clear HG5 HFC5 HE4 HST HU1 HU2 HU3 hq hl1 hd1 hd2 hd3
              go_wp2
              generalize w5.alloc (.cells #[.string ⟨#[]⟩, .string ⟨#[119, 111, 114, 107, 101, 114, 115]⟩, .string ⟨#[98, 97, 116, 99, 104]⟩, .string ⟨#[109, 105, 99, 114, 111, 115]⟩, .string ⟨#[115, 116, 101, 112, 115]⟩, .string ⟨#[98, 117, 99, 107, 101, 116]⟩, .string ⟨#[99, 104, 117, 110, 107]⟩, .string ⟨#[119, 105, 110, 100, 111, 119]⟩, .string ⟨#[99, 97, 112, 97, 99, 105, 116, 121]⟩] 9) = w6 at *
              generalize w5.heap.size = wb at *
              go_loopw [6, 9] (fun s i W' => ∃ k : Nat, 1 ≤ k ∧ k ≤ 9 ∧ i = .int .i64 k ∧ s = .string ⟨(confK f (3 + k)).toArray⟩ ∧ Hid (Grew w6 W')) (fun _ i _ => 9 - (intOf i).toNat)
              case atStart => exact ⟨1, by decide, by decide, rfl, by rw [show 3 + 1 = 4 from rfl, HS4.out], Lib.hid (Grew.refl _)⟩
              case round =>
                obtain ⟨k, hk1, hk9, rfl, rfl, HGR⟩ := hrel
                have HGZ := Lib.hid (HG6.out.trans HGR.out)
                by_cases hlt : k < 9
                · have q0 := stay HGR.out (HFC6.out k hlt)
                  have q1 := stay HGR.out (HW6.out k hk1 hlt)
                  have hin := fl_in HGD.out hlt
                  have hu := u64_in hin
                  have hd1 := nat_len hin
                  have hnl := nm_len (3 + k)
                  have hl1 := confK_len (f := f) (k := 3 + k) (by rw [HN.out]; exact hl) HI.out (by omega)
                  have HU := Lib.hid (fun W => runsigned_any (fl f k) W hin)
                  have HS : Hid (confK f (3 + (k + 1)) = confK f (3 + k) ++ [32] ++ nm (3 + k) ++ [32] ++ textL (fl f k) 0) := Lib.hid (by
                    rw [show 3 + (k + 1) = (3 + k) + 1 from rfl, confK_succ f (by omega), wrV_fl HGD.out hk1 hlt]
                    simp)
                  obtain ⟨s1, hs1⟩ : ∃ s1, confK f (3 + (k + 1)) = s1 := ⟨_, rfl⟩
                  have HS1 := Lib.hid hs1
                  rw [hs1] at HS
                  clear hs1 hin
                  generalize confK f (3 + k) = s0 at *
                  generalize nm (3 + k) = nl at *
                  generalize textL (fl f k) 0 = d1 at *
                  generalize fl f k = x at *
                  have HST : Hid ((⟨s0.toArray⟩ : ByteArray) ++ ⟨#[32]⟩ ++ ⟨nl.toArray⟩ ++ ⟨#[32]⟩ ++ ⟨d1.toArray⟩ = ⟨s1.toArray⟩) := Lib.hid (by rw [HS.out, ← str_app, ← str_app, ← str_app, ← str_app])
                  have m1 : ¬ 9223372036854775807 < s0.length + 1 := by omega
                  have m2 : ¬ 9223372036854775807 < s0.length + 1 + nl.length := by omega
                  have m3 : ¬ 9223372036854775807 < s0.length + 1 + nl.length + 1 := by omega
                  have m4 : ¬ 9223372036854775807 < s0.length + 1 + nl.length + 1 + d1.length := by omega
                  go_upto_region 23 with fail
                  refine wp_region_held_drew (S := (fun W' => Grew wr W' ∧ W'.cell? ⟨fb, k, none⟩ = some (.int .i64 x) ∧ W'.cell? ⟨wb, k, none⟩ = some (.string ⟨nl.toArray⟩))) (by kernel_rfl) ⟨Grew.drew' (Grew.refl _), q0, q1⟩ (fun hHeld => ?_)
                  refine wpAnyH_take (i := 0) (oi := { dst := some 88, op := Go.Op.move (Go.Operand.tmp 6), type := 9, pos := _, after := #[], guard := none }) (v := ?v26) rfl (by kernel_rfl) (by kernel_rfl) (by kernel_rfl) (fun _ _ _ h => h) (Or.inl ⟨by kernel_rfl, ?hy26⟩) (by assumption) ?_
                  case hy26 => intro w hSw; (try dsimp only at hSw); first | (go_simp; done) | (go_simp; with_reducible rfl)
                  (try simp only [Act.put, List.setIfInBounds_toArray, List.set_cons_zero, List.set_cons_succ])
                  refine wpAnyH_take (i := 1) (oi := { dst := some 89, op := Go.Op.binOp Go.BinOp.add 9 (Go.Operand.tmp 88) (Go.Operand.const (Go.Value.string { data := #[32] })) 9, type := 9, pos := _, after := #[{ on := 0, ground := Go.Ground.data }], guard := none }) (v := ?v27) rfl (by kernel_rfl) (by kernel_rfl) (by kernel_rfl) (fun _ _ _ h => h) (Or.inl ⟨by kernel_rfl, ?hy27⟩) (by assumption) ?_
                  case hy27 => intro w hSw; (try dsimp only at hSw); first | (go_simp; done) | (go_simp; with_reducible rfl)
                  (try simp only [Act.put, List.setIfInBounds_toArray, List.set_cons_zero, List.set_cons_succ])
                  refine wpAnyH_take (i := 2) (oi := { dst := some 90, op := Go.Op.move (Go.Operand.tmp 8), type := 35, pos := _, after := #[], guard := none }) (v := ?v28) rfl (by kernel_rfl) (by kernel_rfl) (by kernel_rfl) (fun _ _ _ h => h) (Or.inl ⟨by kernel_rfl, ?hy28⟩) (by assumption) ?_
                  case hy28 => intro w hSw; (try dsimp only at hSw); first | (go_simp; done) | (go_simp; with_reducible rfl)
                  (try simp only [Act.put, List.setIfInBounds_toArray, List.set_cons_zero, List.set_cons_succ])
                  refine wpAnyH_take (i := 3) (oi := { dst := some 91, op := Go.Op.move (Go.Operand.tmp 9), type := 3, pos := _, after := #[], guard := none }) (v := ?v29) rfl (by kernel_rfl) (by kernel_rfl) (by kernel_rfl) (fun _ _ _ h => h) (Or.inl ⟨by kernel_rfl, ?hy29⟩) (by assumption) ?_
                  case hy29 => intro w hSw; (try dsimp only at hSw); first | (go_simp; done) | (go_simp; with_reducible rfl)
                  (try simp only [Act.put, List.setIfInBounds_toArray, List.set_cons_zero, List.set_cons_succ])
                  refine wpAnyH_take (i := 4) (oi := { dst := some 92, op := Go.Op.indexAddr 35 (Go.Operand.tmp 90) (Go.Operand.tmp 91), type := 0, pos := _, after := #[{ on := 2, ground := Go.Ground.data }, { on := 3, ground := Go.Ground.data }], guard := none }) (v := ?v30) rfl (by kernel_rfl) (by kernel_rfl) (by kernel_rfl) (fun _ _ _ h => h) (Or.inl ⟨by kernel_rfl, ?hy30⟩) (by assumption) ?_
                  case hy30 => intro w hSw; (try dsimp only at hSw); first | (go_simp; done) | (go_simp; with_reducible rfl)
                  (try simp only [Act.put, List.setIfInBounds_toArray, List.set_cons_zero, List.set_cons_succ])
                  refine wpAnyH_take (i := 5) (oi := { dst := some 93, op := Go.Op.load 9 (Go.Operand.tmp 92), type := 9, pos := _, after := #[{ on := 4, ground := Go.Ground.data }], guard := none }) (v := ?v31) rfl (by kernel_rfl) (by kernel_rfl) (by kernel_rfl) (fun _ _ _ h => h) (Or.inl ⟨by kernel_rfl, ?hy31⟩) (by assumption) ?_
                  case hy31 => intro w hSw; (try dsimp only at hSw); first | (go_simp; done) | (go_simp; with_reducible rfl)
                  (try simp only [Act.put, List.setIfInBounds_toArray, List.set_cons_zero, List.set_cons_succ])
                  refine wpAnyH_take (i := 6) (oi := { dst := some 94, op := Go.Op.binOp Go.BinOp.add 9 (Go.Operand.tmp 89) (Go.Operand.tmp 93) 9, type := 9, pos := _, after := #[{ on := 1, ground := Go.Ground.data }, { on := 5, ground := Go.Ground.data }], guard := none }) (v := ?v32) rfl (by kernel_rfl) (by kernel_rfl) (by kernel_rfl) (fun _ _ _ h => h) (Or.inl ⟨by kernel_rfl, ?hy32⟩) (by assumption) ?_
                  case hy32 => intro w hSw; (try dsimp only at hSw); first | (go_simp; done) | (go_simp; with_reducible rfl)
                  (try simp only [Act.put, List.setIfInBounds_toArray, List.set_cons_zero, List.set_cons_succ])
                  refine wpAnyH_take (i := 7) (oi := { dst := some 95, op := Go.Op.binOp Go.BinOp.add 9 (Go.Operand.tmp 94) (Go.Operand.const (Go.Value.string { data := #[32] })) 9, type := 9, pos := _, after := #[{ on := 6, ground := Go.Ground.data }], guard := none }) (v := ?v33) rfl (by kernel_rfl) (by kernel_rfl) (by kernel_rfl) (fun _ _ _ h => h) (Or.inl ⟨by kernel_rfl, ?hy33⟩) (by assumption) ?_
                  case hy33 => intro w hSw; (try dsimp only at hSw); first | (go_simp; done) | (go_simp; with_reducible rfl)
                  (try simp only [Act.put, List.setIfInBounds_toArray, List.set_cons_zero, List.set_cons_succ])
                  refine wpAnyH_take (i := 8) (oi := { dst := some 96, op := Go.Op.move (Go.Operand.tmp 4), type := 22, pos := _, after := #[], guard := none }) (v := ?v34) rfl (by kernel_rfl) (by kernel_rfl) (by kernel_rfl) (fun _ _ _ h => h) (Or.inl ⟨by kernel_rfl, ?hy34⟩) (by assumption) ?_
                  case hy34 => intro w hSw; (try dsimp only at hSw); first | (go_simp; done) | (go_simp; with_reducible rfl)
                  (try simp only [Act.put, List.setIfInBounds_toArray, List.set_cons_zero, List.set_cons_succ])
                  refine wpAnyH_take (i := 9) (oi := { dst := some 97, op := Go.Op.move (Go.Operand.tmp 9), type := 3, pos := _, after := #[], guard := none }) (v := ?v35) rfl (by kernel_rfl) (by kernel_rfl) (by kernel_rfl) (fun _ _ _ h => h) (Or.inl ⟨by kernel_rfl, ?hy35⟩) (by assumption) ?_
                  case hy35 => intro w hSw; (try dsimp only at hSw); first | (go_simp; done) | (go_simp; with_reducible rfl)
                  (try simp only [Act.put, List.setIfInBounds_toArray, List.set_cons_zero, List.set_cons_succ])
                  refine wpAnyH_take (i := 10) (oi := { dst := some 98, op := Go.Op.indexAddr 22 (Go.Operand.tmp 96) (Go.Operand.tmp 97), type := 0, pos := _, after := #[{ on := 8, ground := Go.Ground.data }, { on := 9, ground := Go.Ground.data }], guard := none }) (v := ?v36) rfl (by kernel_rfl) (by kernel_rfl) (by kernel_rfl) (fun _ _ _ h => h) (Or.inl ⟨by kernel_rfl, ?hy36⟩) (by assumption) ?_
                  case hy36 => intro w hSw; (try dsimp only at hSw); first | (go_simp; done) | (go_simp; with_reducible rfl)
                  (try simp only [Act.put, List.setIfInBounds_toArray, List.set_cons_zero, List.set_cons_succ])
                  refine wpAnyH_take (i := 11) (oi := { dst := some 99, op := Go.Op.load 3 (Go.Operand.tmp 98), type := 3, pos := _, after := #[{ on := 10, ground := Go.Ground.data }], guard := none }) (v := ?v37) rfl (by kernel_rfl) (by kernel_rfl) (by kernel_rfl) (fun _ _ _ h => h) (Or.inl ⟨by kernel_rfl, ?hy37⟩) (by assumption) ?_
                  case hy37 => intro w hSw; (try dsimp only at hSw); first | (go_simp; done) | (go_simp; with_reducible rfl)
                  (try simp only [Act.put, List.setIfInBounds_toArray, List.set_cons_zero, List.set_cons_succ])
                  refine wpAnyH_take (i := 12) (oi := { dst := some 100, op := Go.Op.convert 3 48 (Go.Operand.tmp 99), type := 48, pos := _, after := #[{ on := 11, ground := Go.Ground.data }], guard := none }) (v := ?v38) rfl (by kernel_rfl) (by kernel_rfl) (by kernel_rfl) (fun _ _ _ h => h) (Or.inl ⟨by kernel_rfl, ?hy38⟩) (by assumption) ?_
                  case hy38 => intro w hSw; (try dsimp only at hSw); first | (go_simp; done) | (go_simp; with_reducible rfl)
                  (try simp only [Act.put, List.setIfInBounds_toArray, List.set_cons_zero, List.set_cons_succ])
                  refine wpAnyH_ready (rs := [13]) (by kernel_rfl) (by simp) ?_
                  refine AllReadyH.cons (o := { dst := some 101, op := Go.Op.call { callee := Go.Callee.value (Go.Operand.func 18), args := #[Go.Operand.tmp 100], argTypes := #[48] }, type := 9, pos := _, after := #[{ on := 12, ground := Go.Ground.data }], guard := none }) rfl (fun K hK => ?_) AllReadyH.nil
                  go_simp
                  (go_at_call 18; refine (HU.out _).mono ?_; rintro e w7 ⟨rfl, g7⟩)
                  (try go_wp2_with fail)
                  refine hK.out _ _ ?hS40 (fun hHeld => ?_)
                  case hS40 => (try dsimp only); exact keep2 g7 (by assumption)
                  clear hK K
                  (try simp only [Act.put, List.setIfInBounds_toArray, List.set_cons_zero, List.set_cons_succ])
                  refine wpAnyH_take (i := 14) (oi := { dst := some 102, op := Go.Op.binOp Go.BinOp.add 9 (Go.Operand.tmp 95) (Go.Operand.tmp 101) 9, type := 9, pos := _, after := #[{ on := 7, ground := Go.Ground.data }, { on := 13, ground := Go.Ground.data }], guard := none }) (v := ?v41) rfl (by kernel_rfl) (by kernel_rfl) (by kernel_rfl) (fun _ _ _ h => h) (Or.inl ⟨by kernel_rfl, ?hy41⟩) (by assumption) ?_
                  case hy41 => intro w hSw; (try dsimp only at hSw); first | (go_simp; done) | (go_simp; with_reducible rfl)
                  (try simp only [Act.put, List.setIfInBounds_toArray, List.set_cons_zero, List.set_cons_succ])
                  refine wpAnyH_take (i := 15) (oi := { dst := some 6, op := Go.Op.assign (Go.Operand.tmp 102), type := 9, pos := _, after := #[{ on := 14, ground := Go.Ground.data }, { on := 13, ground := Go.Ground.chain }, { on := 0, ground := Go.Ground.phase }, { on := 1, ground := Go.Ground.phase }, { on := 2, ground := Go.Ground.phase }, { on := 3, ground := Go.Ground.phase }, { on := 4, ground := Go.Ground.phase }, { on := 5, ground := Go.Ground.phase }, { on := 6, ground := Go.Ground.phase }, { on := 7, ground := Go.Ground.phase }, { on := 8, ground := Go.Ground.phase }, { on := 9, ground := Go.Ground.phase }, { on := 10, ground := Go.Ground.phase }, { on := 11, ground := Go.Ground.phase }, { on := 12, ground := Go.Ground.phase }, { on := 13, ground := Go.Ground.phase }, { on := 14, ground := Go.Ground.phase }], guard := none }) (v := ?v42) rfl (by kernel_rfl) (by kernel_rfl) (by kernel_rfl) (fun _ _ _ h => h) (Or.inl ⟨by kernel_rfl, ?hy42⟩) (by assumption) ?_
                  case hy42 => intro w hSw; (try dsimp only at hSw); first | (go_simp; done) | (go_simp; with_reducible rfl)
                  (try simp only [Act.put, List.setIfInBounds_toArray, List.set_cons_zero, List.set_cons_succ])
                  refine wpAnyH_done (by kernel_rfl) ?_ _
                  rw [HST.out]
                  have HGN := Lib.hid (HGR.out.trans ((Grew.drew' (Grew.refl wr)).trans g7))
                  clear hHeld g7
                  go_wp2
                  go_roundw
                  case rel => exact ⟨k + 1, by omega, by omega, by go_num, by rw [HS1.out], HGN⟩
                  case measure => simp [intOf]; omega
                · obtain rfl : k = 9 := by omega
                  have HEND : Hid (confK f (3 + 9) = confL f) := Lib.hid rfl
                  rw [HEND.out]
                  go_wp2
                  go_ret2
                  exact ⟨by simp [HOK.out], HGZ.out⟩
end Go.Proofs.YthcahpgandappaaGreatDoor
