/-
  For every string s, sakialaw11.ConfParses(s) returns true. No condition.
-/
import Derived.Test.YthcahpgandappaaGreatDoorCards
import Derived.Test.YthcahpgandappaaGreatDoorTie
import Derived.Test.YthcahpgandappaaGreatDoorCd
import Derived.Test.YthcahpgandappaaGreatDoorCx
import Derived.Deep.DeepHandedRow
import Derived.Lib.LaidTab
import Derived.Lay
import Derived.Stop.LaidErr
import Derived.Lib.ItoaNum
import Derived.WalkKit
import Derived.ProofKit
import Derived.OpenShut
import Derived.ShutString
import Derived.ChangeOld
import Derived.Below
import Derived.Lib.SmallJoins
namespace Go.Proofs.YthcahpgandappaaGreatDoor.confParses
open Go.ChangeShapes Go.WideShapes Go.ChangeAt Go.RowKit Go.Shelf
open Go.ChangeMaps (open_string shut_string)
open Go.Proofs.YthcahpgandappaaGreatDoor
set_option linter.unusedVariables false

theorem own : ownKnob Tryz.prog.godebug = none := by kernel_rfl
theorem laidOut : laidOutB Tryz.prog = true := by kernel_rfl

theorem allIn_of {f : Cf} (h : ∀ x ∈ f.z, i64c x) (h1 : i64c f.sh) (h2 : i64c f.ra) (h3 : i64c f.mo) (h4 : i64c f.wo) (h5 : i64c f.ba) (h6 : i64c f.mi) (h7 : i64c f.st) (h8 : i64c f.bu) (h9 : i64c f.ch) (h10 : i64c f.wi) (h11 : i64c f.ca) : AllIn f :=
  ⟨h, fun k e1 e2 => match k, e1, e2 with
    | 1, _, _ => h1 | 2, _, _ => h2 | 3, _, _ => h3 | 4, _, _ => h4 | 5, _, _ => h5 | 6, _, _ => h6 | 7, _, _ => h7 | 8, _, _ => h8 | 9, _, _ => h9 | 10, _, _ => h10 | 11, _, _ => h11⟩
set_option maxHeartbeats 1000000 in
theorem check99 (w : World) : Calls Tryz.prog 13 #[.agg #[.slice none 0 0, .int .i64 99, .int .i64 0, .int .i64 0, .int .i64 0, .int .i64 0, .int .i64 0, .int .i64 0, .int .i64 0, .int .i64 0, .int .i64 0, .int .i64 0]] w fun e w' => e = .returned (.int .i64 6) ∧ Grew w w' := by
  have HG := Lib.hid ((Grew.refl w).alloc (.cells #[.slice none 0 0, .int .i64 99, .int .i64 0, .int .i64 0, .int .i64 0, .int .i64 0, .int .i64 0, .int .i64 0, .int .i64 0, .int .i64 0, .int .i64 0, .int .i64 0] 24))
  have H1 : Hid (inR 0 1 64 = false) := Lib.hid (by decide +kernel)
  go_enter Tryz.func13, Tryz.ntmps13
  go_wp2_with fail
  refine (within_any _ _ _ _).mono ?_
  rintro e wX ⟨rfl, rfl⟩
  rw [H1.out]
  go_wp2
  go_ret
  exact ⟨rfl, HG.out⟩
set_option maxHeartbeats 1000000 in
theorem aliveC_any (w : World) : Calls Tryz.prog 6 #[] w fun e w' => e = .returned (.bool true) ∧ Grew w w' := by
  have HK := Lib.hid (check99 w)
  go_enter Tryz.func6, Tryz.ntmps6
  go_wp2_with fail
  refine HK.out.mono ?_
  rintro e w1 ⟨rfl, g1⟩
  go_wp2
  go_ret
  exact ⟨rfl, g1⟩
/-- What a parsed configuration is: its numbers are in their ranges, it has not many sizes, and its text is the string. -/
theorem parsed {l : List UInt8} {f : Cf} (hl : l.length ≤ 800) (h : parseC l = some f) : AllIn f ∧ f.z.length ≤ 801 ∧ textC f = (l, true) := by
  obtain ⟨ho, hi, he⟩ := parseC_some h
  have hg := good_of ho
  refine ⟨allIn_of (fun x hx => inR_i64 (allIn_mem hg.zs x hx)) (inR_i64 hg.sh) hi.1 hi.2 (inR_i64 hg.wo) (inR_i64 hg.ba) (inR_i64 hg.mi) (inR_i64 hg.st) (inR_i64 hg.bu) (inR_i64 hg.ch) (inR_i64 hg.wi) (inR_i64 hg.ca), ?_, ?_⟩
  · have h1 : sizesL f.z ∈ splitSp l := by
      rw [← he, split_conf]
      exact List.mem_flatMap.2 ⟨0, List.mem_range.2 (by decide), by rw [show wrV f 0 = sizesL f.z from sizesT_yes hg.z hg.zs]; simp⟩
    have h2 := word_sizes _ l (Nat.le_refl _) _ h1
    have h3 := by_len 44 _ (sizesL f.z) (Nat.le_refl _)
    have h4 : splitBy 44 (sizesL f.z) = f.z.map (fun x => textL x 0) := by
      refine jb_split 44 _ (fun h => hg.z (List.map_eq_nil_iff.1 h)) (fun p hp => ?_)
      obtain ⟨x, _, rfl⟩ := List.mem_map.1 hp
      exact text_no44 x 0
    rw [h4, List.length_map] at h3
    omega
  · rw [textC_yes ho, he]
theorem zero_in : AllIn zeroC := allIn_of (fun x hx => by cases hx) ⟨by decide, by decide⟩ ⟨by decide, by decide⟩ ⟨by decide, by decide⟩ ⟨by decide, by decide⟩ ⟨by decide, by decide⟩ ⟨by decide, by decide⟩ ⟨by decide, by decide⟩ ⟨by decide, by decide⟩ ⟨by decide, by decide⟩ ⟨by decide, by decide⟩ ⟨by decide, by decide⟩
theorem zero_text : textC zeroC = ([], false) := textC_no (fun h => h 0 (by decide) (by decide +kernel))

theorem gTab : Tryz.prog.globalNamed "internal/strconv.uint64pow10" = some 3 := by kernel_rfl
theorem gTabType : (Tryz.prog.globals[3]?).map (·.type) = some 150 := by kernel_rfl
theorem cellsTab : Tryz.prog.cellsOf 150 = 20 := by kernel_rfl
theorem cellsElem : Tryz.prog.cellsOf 48 = 1 := by kernel_rfl
theorem powTab : Lib.pow10Tab = [1, 10, 100, 1000, 10000, 100000, 1000000, 10000000, 100000000, 1000000000, 10000000000, 100000000000, 1000000000000, 10000000000000, 100000000000000, 1000000000000000, 10000000000000000, 100000000000000000, 1000000000000000000, 10000000000000000000] := by decide +kernel
/-- What the row's list gives: the table of powers of ten. -/
theorem table {W : World} (h0 : laidMetH Tryz.prog Rows.confParsesRow.laid W) : Lib.TabIs Tryz.prog W "internal/strconv.uint64pow10" .u64 Lib.pow10Tab := by
  have h : laidMet Tryz.prog Rows.confParsesRow.laid W := h0
  rw [powTab]
  exact Lib.tabIs_of_head (rest := _) gTab gTabType Tryz.underlying150 Tryz.underlying48 cellsElem cellsTab (h.tail.tail)

set_option maxRecDepth 100000 in
set_option maxHeartbeats 4000000 in
theorem walk (a0 : ByteArray) (w : World) (w0 : a0.size ≤ maxLen)
    (hT : Lib.TabIs Tryz.prog w "internal/strconv.uint64pow10" .u64 Lib.pow10Tab) (hC : SplitOk w) :
    Calls Tryz.prog 4 #[.string a0] w fun e w' => e = .returned (.bool true) ∧ Below w.heap.size w w' := by
  obtain ⟨l, rfl⟩ : ∃ l : List UInt8, a0 = ⟨l.toArray⟩ := ⟨a0.data.toList, rfl⟩
  have hsz : (⟨l.toArray⟩ : ByteArray).size = l.length := rfl
  have HP := Lib.hid hT
  have HC := Lib.hid hC
  clear hT hC
  by_cases h8 : 800 < l.length
  · skip
    go_enter Tryz.func4, Tryz.ntmps4
    go_wp2_with fail
    refine (aliveC_any _).mono ?_
    rintro e w2 ⟨rfl, g2⟩
    go_wp2
    go_ret
    exact ⟨rfl, g2⟩
  · skip
    have hl8 : l.length ≤ 800 := by omega
    cases hpc : parseC l with
    | none =>
      have HPC : Hid (parseC (⟨l.toArray⟩ : ByteArray).data.toList = none) := Lib.hid hpc
      have HI := Lib.hid zero_in
      have HXT := Lib.hid zero_text
      clear hpc
      go_enter Tryz.func4, Tryz.ntmps4
      go_wp2_with fail
      refine (cparse_any ⟨l.toArray⟩ w (by show l.length ≤ 1000000; omega) HP.out HC.out).mono ?_
      rintro e w1 ⟨hd, k1⟩
      obtain rfl : e = .returned (.tuple #[.agg #[.slice none 0 0, .int .i64 0, .int .i64 0, .int .i64 0, .int .i64 0, .int .i64 0, .int .i64 0, .int .i64 0, .int .i64 0, .int .i64 0, .int .i64 0, .int .i64 0], .bool false]) := by
        rcases hd with ⟨g, a, n, c, hf, _⟩ | ⟨_, h⟩
        · exact absurd (hf.symm.trans HPC.out) (fun h => by cases h)
        · exact h
      clear hd
      have gA : Grew w1 (w1.alloc (.cells #[.slice none 0 0, .int .i64 0, .int .i64 0, .int .i64 0, .int .i64 0, .int .i64 0, .int .i64 0, .int .i64 0, .int .i64 0, .int .i64 0, .int .i64 0, .int .i64 0] 24)) := (Grew.refl _).alloc _
      have hA : CfM (w1.alloc (.cells #[.slice none 0 0, .int .i64 0, .int .i64 0, .int .i64 0, .int .i64 0, .int .i64 0, .int .i64 0, .int .i64 0, .int .i64 0, .int .i64 0, .int .i64 0, .int .i64 0] 24)) w1.heap.size none 0 0 zeroC := CfM.new w1 none 0 0 zeroC
      have HG1 := Lib.hid (k1.trans gA)
      have HA := Lib.hid hA
      clear k1 gA hA
      go_wp2_with fail
      generalize hW1 : w1.alloc (.cells #[.slice none 0 0, .int .i64 0, .int .i64 0, .int .i64 0, .int .i64 0, .int .i64 0, .int .i64 0, .int .i64 0, .int .i64 0, .int .i64 0, .int .i64 0, .int .i64 0] 24) = W1 at *
      generalize hb1 : w1.heap.size = b1 at *
      clear hW1 hb1
      refine (rparseC_any ⟨l.toArray⟩ W1 (by show l.length ≤ 1000; omega)).mono ?_
      rintro e w2 ⟨hd, k2⟩
      obtain rfl : e = .returned (.tuple #[.agg #[.slice none 0 0, .int .i64 0, .int .i64 0, .int .i64 0, .int .i64 0, .int .i64 0, .int .i64 0, .int .i64 0, .int .i64 0, .int .i64 0, .int .i64 0, .int .i64 0], .bool false]) := by
        rcases hd with ⟨g, a, n, c, hf, _⟩ | ⟨_, h⟩
        · exact absurd (hf.symm.trans HPC.out) (fun h => by cases h)
        · exact h
      clear hd
      have gA : Grew w2 (w2.alloc (.cells #[.slice none 0 0, .int .i64 0, .int .i64 0, .int .i64 0, .int .i64 0, .int .i64 0, .int .i64 0, .int .i64 0, .int .i64 0, .int .i64 0, .int .i64 0, .int .i64 0] 24)) := (Grew.refl _).alloc _
      have hA : CfM (w2.alloc (.cells #[.slice none 0 0, .int .i64 0, .int .i64 0, .int .i64 0, .int .i64 0, .int .i64 0, .int .i64 0, .int .i64 0, .int .i64 0, .int .i64 0, .int .i64 0, .int .i64 0] 24)) w2.heap.size none 0 0 zeroC := CfM.new w2 none 0 0 zeroC
      have kk := k2.trans gA
      have HG2 := Lib.hid (HG1.out.trans kk)
      have HA2 := Lib.hid (HA.out.grow kk)
      have HF2 := Lib.hid hA
      clear k2 gA hA kk HA HG1
      have q0 := (HA2.out).c0
      have q1 := (HA2.out).c1
      have q2 := (HA2.out).c2
      have q3 := (HA2.out).c3
      have q4 := (HA2.out).c4
      have q5 := (HA2.out).c5
      have q6 := (HA2.out).c6
      have q7 := (HA2.out).c7
      have q8 := (HA2.out).c8
      have q9 := (HA2.out).c9
      have q10 := (HA2.out).c10
      have q11 := (HA2.out).c11
      dsimp only [zeroC] at q0 q1 q2 q3 q4 q5 q6 q7 q8 q9 q10 q11
      go_wp2_with fail
      generalize hW2 : w2.alloc (.cells #[.slice none 0 0, .int .i64 0, .int .i64 0, .int .i64 0, .int .i64 0, .int .i64 0, .int .i64 0, .int .i64 0, .int .i64 0, .int .i64 0, .int .i64 0, .int .i64 0] 24) = W2 at *
      generalize hb2 : w2.heap.size = b2 at *
      clear hW2 hb2
      refine (ctext_any none 0 zeroC W2 rfl (by first | omega | exact Nat.zero_le _) HI.out (.inl rfl) (tab_below HP.out (Nat.le_refl _) HG2.out)).mono ?_
      rintro e w3 ⟨rfl, k3⟩
      rw [HXT.out]
      have HG3 := Lib.hid (HG2.out.trans k3)
      have HA3 := Lib.hid (HA2.out.grow k3)
      have HF3 := Lib.hid (HF2.out.grow k3)
      clear k3 HA2 HF2 HG2
      clear q0 q1 q2 q3 q4 q5 q6 q7 q8 q9 q10 q11
      go_wp2_with fail
      refine (aliveC_any _).mono ?_
      rintro e w4 ⟨rfl, k4⟩
      have HG4 := Lib.hid (HG3.out.trans k4)
      have HA4 := Lib.hid (HA3.out.grow k4)
      have HF4 := Lib.hid (HF3.out.grow k4)
      clear k4 HA3 HF3 HG3
      have q0 := (HA4.out).c0
      have q1 := (HA4.out).c1
      have q2 := (HA4.out).c2
      have q3 := (HA4.out).c3
      have q4 := (HA4.out).c4
      have q5 := (HA4.out).c5
      have q6 := (HA4.out).c6
      have q7 := (HA4.out).c7
      have q8 := (HA4.out).c8
      have q9 := (HA4.out).c9
      have q10 := (HA4.out).c10
      have q11 := (HA4.out).c11
      have r0 := (HF4.out).c0
      have r1 := (HF4.out).c1
      have r2 := (HF4.out).c2
      have r3 := (HF4.out).c3
      have r4 := (HF4.out).c4
      have r5 := (HF4.out).c5
      have r6 := (HF4.out).c6
      have r7 := (HF4.out).c7
      have r8 := (HF4.out).c8
      have r9 := (HF4.out).c9
      have r10 := (HF4.out).c10
      have r11 := (HF4.out).c11
      dsimp only [zeroC] at q0 q1 q2 q3 q4 q5 q6 q7 q8 q9 q10 q11 r0 r1 r2 r3 r4 r5 r6 r7 r8 r9 r10 r11
      go_wp2_with fail
      refine (rsameC_any none none 0 0 zeroC zeroC w4 rfl rfl (by first | omega | exact Nat.zero_le _) (by first | omega | exact Nat.zero_le _) (.inl rfl) (.inl rfl)).mono ?_
      rintro e w5 ⟨rfl, k5⟩
      rw [sameC_eq.2 rfl]
      have HG5 := Lib.hid (HG4.out.trans k5)
      clear k5
      clear q0 q1 q2 q3 q4 q5 q6 q7 q8 q9 q10 q11 r0 r1 r2 r3 r4 r5 r6 r7 r8 r9 r10 r11
      go_wp2
      go_ret
      exact ⟨ret_bool (by simp), HG5.out⟩
    | some f =>
      obtain ⟨hi, hz, hx⟩ := parsed hl8 hpc
      have HPC : Hid (parseC (⟨l.toArray⟩ : ByteArray).data.toList = some f) := Lib.hid hpc
      have HI := Lib.hid hi
      have HXT := Lib.hid hx
      have hll : (l == l) = true := by simp
      clear hpc hi hx
      go_enter Tryz.func4, Tryz.ntmps4
      go_wp2_with fail
      refine (cparse_any ⟨l.toArray⟩ w (by show l.length ≤ 1000000; omega) HP.out HC.out).mono ?_
      rintro e w1 ⟨hd, k1⟩
      obtain ⟨a, c, rfl, hb⟩ : ∃ a c, e = .returned (.tuple #[.agg #[.slice a f.z.length c, .int .i64 f.sh, .int .i64 f.ra, .int .i64 f.mo, .int .i64 f.wo, .int .i64 f.ba, .int .i64 f.mi, .int .i64 f.st, .int .i64 f.bu, .int .i64 f.ch, .int .i64 f.wi, .int .i64 f.ca], .bool true]) ∧ BufK .i64 3 w.heap.size w1 a f.z.length c f.z := by
        rcases hd with ⟨g, a, n, c, hf, h, hn, hb⟩ | ⟨hf, _⟩
        · obtain rfl : g = f := Option.some.inj (hf.symm.trans HPC.out)
          subst hn
          exact ⟨a, c, h, hb⟩
        · exact absurd (hf.symm.trans HPC.out) (fun h => by cases h)
      clear hd
      have gA : Grew w1 (w1.alloc (.cells #[.slice a f.z.length c, .int .i64 f.sh, .int .i64 f.ra, .int .i64 f.mo, .int .i64 f.wo, .int .i64 f.ba, .int .i64 f.mi, .int .i64 f.st, .int .i64 f.bu, .int .i64 f.ch, .int .i64 f.wi, .int .i64 f.ca] 24)) := (Grew.refl _).alloc _
      have hA : CfM (w1.alloc (.cells #[.slice a f.z.length c, .int .i64 f.sh, .int .i64 f.ra, .int .i64 f.mo, .int .i64 f.wo, .int .i64 f.ba, .int .i64 f.mi, .int .i64 f.st, .int .i64 f.bu, .int .i64 f.ch, .int .i64 f.wi, .int .i64 f.ca] 24)) w1.heap.size a f.z.length c f := CfM.new w1 a f.z.length c f
      have HG1 := Lib.hid (k1.trans gA)
      have HB := Lib.hid (hb.grow gA)
      clear hb
      have HA := Lib.hid hA
      clear k1 gA hA
      go_wp2_with fail
      generalize hW1 : w1.alloc (.cells #[.slice a f.z.length c, .int .i64 f.sh, .int .i64 f.ra, .int .i64 f.mo, .int .i64 f.wo, .int .i64 f.ba, .int .i64 f.mi, .int .i64 f.st, .int .i64 f.bu, .int .i64 f.ch, .int .i64 f.wi, .int .i64 f.ca] 24) = W1 at *
      generalize hb1 : w1.heap.size = b1 at *
      clear hW1 hb1
      refine (rparseC_any ⟨l.toArray⟩ W1 (by show l.length ≤ 1000; omega)).mono ?_
      rintro e w2 ⟨hd, k2⟩
      obtain ⟨a', c', rfl, hb⟩ : ∃ a' c', e = .returned (.tuple #[.agg #[.slice a' f.z.length c', .int .i64 f.sh, .int .i64 f.ra, .int .i64 f.mo, .int .i64 f.wo, .int .i64 f.ba, .int .i64 f.mi, .int .i64 f.st, .int .i64 f.bu, .int .i64 f.ch, .int .i64 f.wi, .int .i64 f.ca], .bool true]) ∧ BufK .i64 3 W1.heap.size w2 a' f.z.length c' f.z := by
        rcases hd with ⟨g, a', n, c', hf, h, hn, hb⟩ | ⟨hf, _⟩
        · obtain rfl : g = f := Option.some.inj (hf.symm.trans HPC.out)
          subst hn
          exact ⟨a', c', h, hb⟩
        · exact absurd (hf.symm.trans HPC.out) (fun h => by cases h)
      clear hd
      have gA : Grew w2 (w2.alloc (.cells #[.slice a' f.z.length c', .int .i64 f.sh, .int .i64 f.ra, .int .i64 f.mo, .int .i64 f.wo, .int .i64 f.ba, .int .i64 f.mi, .int .i64 f.st, .int .i64 f.bu, .int .i64 f.ch, .int .i64 f.wi, .int .i64 f.ca] 24)) := (Grew.refl _).alloc _
      have hA : CfM (w2.alloc (.cells #[.slice a' f.z.length c', .int .i64 f.sh, .int .i64 f.ra, .int .i64 f.mo, .int .i64 f.wo, .int .i64 f.ba, .int .i64 f.mi, .int .i64 f.st, .int .i64 f.bu, .int .i64 f.ch, .int .i64 f.wi, .int .i64 f.ca] 24)) w2.heap.size a' f.z.length c' f := CfM.new w2 a' f.z.length c' f
      have kk := k2.trans gA
      have HG2 := Lib.hid (HG1.out.trans kk)
      have HA2 := Lib.hid (HA.out.grow kk)
      have HB2 := Lib.hid (HB.out.grow kk)
      have HE2 := Lib.hid (hb.grow gA)
      clear hb
      have HF2 := Lib.hid hA
      clear k2 gA hA kk HA HG1
      generalize hW2 : w2.alloc (.cells #[.slice a' f.z.length c', .int .i64 f.sh, .int .i64 f.ra, .int .i64 f.mo, .int .i64 f.wo, .int .i64 f.ba, .int .i64 f.mi, .int .i64 f.st, .int .i64 f.bu, .int .i64 f.ch, .int .i64 f.wi, .int .i64 f.ca] 24) = W2 at *
      have q0 := (HA2.out).c0
      have q1 := (HA2.out).c1
      have q2 := (HA2.out).c2
      have q3 := (HA2.out).c3
      have q4 := (HA2.out).c4
      have q5 := (HA2.out).c5
      have q6 := (HA2.out).c6
      have q7 := (HA2.out).c7
      have q8 := (HA2.out).c8
      have q9 := (HA2.out).c9
      have q10 := (HA2.out).c10
      have q11 := (HA2.out).c11
      go_wp2_with fail
      generalize hb2 : w2.heap.size = b2 at *
      clear hW2 hb2
      refine (ctext_any a c f W2 rfl (by first | omega | exact Nat.zero_le _) HI.out HB2.out.rd (tab_below HP.out (Nat.le_refl _) HG2.out)).mono ?_
      rintro e w3 ⟨rfl, k3⟩
      rw [HXT.out]
      have HG3 := Lib.hid (HG2.out.trans k3)
      have HA3 := Lib.hid (HA2.out.grow k3)
      have HF3 := Lib.hid (HF2.out.grow k3)
      have HB3 := Lib.hid (HB2.out.grow k3)
      have HE3 := Lib.hid (HE2.out.grow k3)
      clear HB2 HE2
      clear k3 HA2 HF2 HG2
      clear q0 q1 q2 q3 q4 q5 q6 q7 q8 q9 q10 q11
      go_wp2_with fail
      refine (aliveC_any _).mono ?_
      rintro e w4 ⟨rfl, k4⟩
      have HG4 := Lib.hid (HG3.out.trans k4)
      have HA4 := Lib.hid (HA3.out.grow k4)
      have HF4 := Lib.hid (HF3.out.grow k4)
      have HB4 := Lib.hid (HB3.out.grow k4)
      have HE4 := Lib.hid (HE3.out.grow k4)
      clear HB3 HE3
      clear k4 HA3 HF3 HG3
      have q0 := (HA4.out).c0
      have q1 := (HA4.out).c1
      have q2 := (HA4.out).c2
      have q3 := (HA4.out).c3
      have q4 := (HA4.out).c4
      have q5 := (HA4.out).c5
      have q6 := (HA4.out).c6
      have q7 := (HA4.out).c7
      have q8 := (HA4.out).c8
      have q9 := (HA4.out).c9
      have q10 := (HA4.out).c10
      have q11 := (HA4.out).c11
      have r0 := (HF4.out).c0
      have r1 := (HF4.out).c1
      have r2 := (HF4.out).c2
      have r3 := (HF4.out).c3
      have r4 := (HF4.out).c4
      have r5 := (HF4.out).c5
      have r6 := (HF4.out).c6
      have r7 := (HF4.out).c7
      have r8 := (HF4.out).c8
      have r9 := (HF4.out).c9
      have r10 := (HF4.out).c10
      have r11 := (HF4.out).c11
      go_wp2_with fail
      refine (rsameC_any a a' c c' f f w4 rfl rfl (by first | omega | exact Nat.zero_le _) (by first | omega | exact Nat.zero_le _) HB4.out.rd HE4.out.rd).mono ?_
      rintro e w5 ⟨rfl, k5⟩
      rw [sameC_eq.2 rfl]
      have HG5 := Lib.hid (HG4.out.trans k5)
      clear k5
      clear q0 q1 q2 q3 q4 q5 q6 q7 q8 q9 q10 q11 r0 r1 r2 r3 r4 r5 r6 r7 r8 r9 r10 r11
      go_wp2
      go_ret
      exact ⟨ret_bool (by simp), HG5.out⟩

/-- The listed variables hold what they list in a world where the program's start has laid them. -/
theorem laid_met (os : Os) : laidMet Tryz.prog Rows.confParsesRow.laid ((World.laidAll Tryz.prog os Rows.confParsesRow.laid).forCall (fun _ _ => 0) ⟨#[], #[.string ByteArray.empty], []⟩).memory :=
  laidMet_of_run' 8 (by kernel_rfl) (by kernel_rfl)
theorem reads (os : Os) {H : Type} (enc : TypeId × Value → H) : ∃ places, DataW.whole enc Tryz.prog ((World.laidAll Tryz.prog os Rows.confParsesRow.laid).forCall (fun _ _ => 0) ⟨#[], #[.string ByteArray.empty], []⟩).memory Tryz.f4.params.toList Rows.confParsesSpec.vars false (#[.string ByteArray.empty] : Array Value).toList 8 = some ([.lit (.string [])], [], places) :=
  ⟨[], by kernel_rfl⟩

set_option maxRecDepth 100000 in
theorem lifted (os : Os) (started : os.Started) (H : Type) (enc : TypeId × Value → H) (F : Stop.Interp) :
    ReturnsInHanded {} Tryz.checked os 4 .any ((OpenSpec.ofChange Rows.confParsesSpec).preRow enc Tryz.prog Tryz.f4 Rows.confParsesRow.domain false Rows.confParsesRow.laid) (((OpenSpec.ofChange Rows.confParsesSpec).at F).post enc Tryz.prog Tryz.f4 false true false false) := by
  obtain ⟨places, hx⟩ := reads os enc
  refine returnsInHanded_of_row (C := Tryz.checked) (s := (OpenSpec.ofChange Rows.confParsesSpec)) own started (by kernel_rfl) Tryz.func4
    (witness_row_at (enc := enc) (C := Tryz.checked) false (World.laidAll Tryz.prog os Rows.confParsesRow.laid) #[.string ByteArray.empty] rfl (by kernel_rfl) (by kernel_rfl) (by kernel_rfl)
      (OpenSpec.preRow_of_cond 8 hx (by kernel_rfl) (fun k hk => by cases hk) (by kernel_rfl) (laid_met os))) ?_
  intro W base args ds gs before hval0 hW _ _ hsz0 hL hsh _
  have hval : ∀ (j : Nat) t v, Tryz.f4.params[j]? = some t → args[j]? = some v → Value.okWide Tryz.prog W .any base t v := hval0
  have hW' := hW
  obtain ⟨p, q, hA0, hV, rfl, hfz, hnd⟩ := hW
  have hA : DataW.TrodAll enc Tryz.prog W 0 (fun _ => true) true Tryz.f4.params.toList args.toList ds p := hA0
  rw [Tryz.params4] at hA hval
  obtain ⟨v0, vs0, d0, ds0, p0, q0, hargs, rfl, rfl, h0, r0⟩ := trodAll_cons hA
  obtain ⟨rfl, rfl, rfl⟩ := trodAll_nil r0
  obtain rfl : args = #[v0] := by cases args; simp_all
  obtain ⟨rfl, rfl⟩ := trodVars_none hV
  obtain ⟨a0, rfl, rfl, rfl, w0⟩ := open_string Tryz.underlying9 (hval 0 9 v0 rfl rfl) h0
  clear hA0 hval0 hsz0
  have hwalk := walk a0 W w0 (table hL) (splitOk_of W hsh)
  refine hwalk.mono fun e W' ⟨he, bel⟩ => ?_
  subst he
  exact ⟨_, rfl, _, _, _, [], _, [], hW', trodAll_mk1 (shut_bool Tryz.underlying4 _), (trodAll_cons_mk (shut_string Tryz.underlying9 w0) trodAll_mk0), rfl, bel.frame _, fun h => by cases h⟩

theorem said : Rows.ConfParsesSaid :=
  OpenClaim.holds_of_cond 4 Tryz.f4 rfl rfl rfl rfl rfl rfl rfl ⟨rfl, rfl, rfl, rfl, rfl⟩ rfl rfl rfl rfl rfl (by kernel_rfl) Tryz.func4 (by kernel_rfl)
    (of_decide_eq_true (by kernel_rfl)) (by unfold Func.isWrapper; first | (rw [if_pos (by decide +kernel)]; kernel_rfl) | (rw [if_neg (by decide +kernel)]; exact ⟨rfl, rfl⟩))
    (fun os started H enc _ F => by rw [OpenClaim.pre_eq_preRow]; exact lifted os started H enc F)
theorem plain (f : FuncId) (fn : Func) (hf : Tryz.pinned.checked.prog.funcNamed "sakia/sakialaw11.ConfParses" = some f) (hfn : Tryz.pinned.checked.prog.funcs[f]? = some fn) :
    false = Tryz.pinned.checked.prog.looks [] ∧ ∀ (j : Nat) t, fn.params[j]? = some t → Tryz.pinned.checked.prog.wantsStandIn t = false := by
  obtain rfl : f = 4 := Option.some.inj ((show Tryz.prog.funcNamed "sakia/sakialaw11.ConfParses" = some 4 by kernel_rfl).symm.trans hf) |>.symm
  obtain rfl : fn = Tryz.f4 := (Option.some.inj (Tryz.func4.symm.trans hfn)).symm
  refine ⟨by kernel_rfl, fun j t ht => ?_⟩
  rw [Tryz.params4] at ht
  have hm : t = 9 := by simpa using Array.mem_of_getElem? ht
  obtain rfl := hm
  · exact (show Tryz.prog.wantsStandIn 9 = false by kernel_rfl)

/-- The card. -/
theorem proved : Rows.ConfParsesCardSaid :=
  Claim7.holds_tied_plain_at .later [] _ _ _ _ said (fun _ h => by cases h) (by kernel_rfl) (fun _ h => by cases h) confParses_row_tie rfl ⟨rfl, rfl⟩ (by kernel_rfl) rfl plain (by kernel_rfl)
end Go.Proofs.YthcahpgandappaaGreatDoor.confParses
