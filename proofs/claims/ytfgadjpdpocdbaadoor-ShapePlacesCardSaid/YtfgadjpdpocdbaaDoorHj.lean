/- read of package shape: three numbers out of any text. No condition. -/
import Derived.Test.YtfgadjpdpocdbaaDoorHc
import Derived.Test.YtfgadjpdpocdbaaDoorHb
import Derived.WalkMore
import Derived.ScopeJumps
import Derived.Laws.RangeAny
import Derived.Lib.OthersKept
import Derived.Lib.Strings
import Derived.Deep.CutBlock
import Derived.Deep.DeepCutAuto
namespace Go.Proofs.YtfgadjpdpocdbaaDoor
open Go.RowKit

/-- What a text is read as: the first character is passed over. -/
def rdS (s : ByteArray) : Int × Int × Int := if s.size = 0 then (0, 0, 0) else rdGo 0 (0, 0, 0) (s.data.toList.drop (Utf8.decode s 0).2)
theorem rdS_empty {s : ByteArray} (h : s.size = 0) : rdS s = (0, 0, 0) := by unfold rdS; rw [if_pos h]
theorem rdS_some {s : ByteArray} (h : 0 < s.size) : rdS s = rdGo 0 (0, 0, 0) (s.data.toList.drop (Utf8.decode s 0).2) := by unfold rdS; rw [if_neg (by omega)]
theorem drop_at {s : ByteArray} {k : Nat} (h : k < s.size) : s.data.toList.drop k = s[k] :: s.data.toList.drop (k + 1) := List.drop_eq_getElem_cons (by simpa using h)
/-- At a text whose first character is one of ASCII. -/
theorem rdS_ascii {c : UInt8} {t : List UInt8} (h : c.toNat < 128) : rdS ⟨(c :: t).toArray⟩ = rdV (c :: t) := by
  have h0 : 0 < (⟨(c :: t).toArray⟩ : ByteArray).size := by show 0 < (c :: t).toArray.size; simp
  rw [rdS_some h0, decode_ascii _ 0 h0 h]
  rfl
theorem rdGo_point {a : Nat} {s : Int × Int × Int} {c : UInt8} {t : List UInt8} (hc : c.toNat = 46) (ha : a < 2) : rdGo a s (c :: t) = rdGo (a + 1) s t := by
  obtain rfl : c = 46 := UInt8.toNat_inj.1 hc
  exact rd_point s t ha
theorem rdGo_dig {a : Nat} {s : Int × Int × Int} {c : UInt8} {t : List UInt8} (hc : 48 ≤ c.toNat ∧ c.toNat ≤ 57) : rdGo a s (c :: t) = rdGo a (put3 a s (dig3 (get3 a s) c)) t := by
  have hd : isDig c = true := by simpa [isDig] using hc
  show (if c = 46 ∧ a < 2 then _ else if isDig c = true then _ else _) = _
  rw [if_neg (fun h => dig_no hd h.1), if_pos hd]
theorem rdGo_stop {a : Nat} {s : Int × Int × Int} {c : UInt8} {t : List UInt8} (h1 : ¬ (c.toNat = 46 ∧ a < 2)) (h2 : ¬ (48 ≤ c.toNat ∧ c.toNat ≤ 57)) : rdGo a s (c :: t) = s := by
  have hd : ¬ isDig c = true := fun h => h2 (by simpa [isDig] using h)
  show (if c = 46 ∧ a < 2 then _ else if isDig c = true then _ else _) = _
  rw [if_neg (fun h => h1 ⟨by rw [h.1]; rfl, h.2⟩), if_neg hd]
theorem rdGo_end (a : Nat) (s : Int × Int × Int) : rdGo a s [] = s := by unfold rdGo; rfl

/-- Three integers in a block. -/
def T3 (W : World) (b : Nat) (s : Int × Int × Int) : Prop := Three W b 69 (.int .i64 s.1) (.int .i64 s.2.1) (.int .i64 s.2.2)
section
variable {W W' : World} {b a : Nat} {s : Int × Int × Int}
theorem T3.cell (h : T3 W b s) (ha : a ≤ 2) : W.cell? ⟨b, a, none⟩ = some (.int .i64 (get3 a s)) := by
  rcases (show a = 0 ∨ a = 1 ∨ a = 2 by omega) with rfl | rfl | rfl
  · exact Three.c0 h
  · exact Three.c1 h
  · exact Three.c2 h
theorem T3.free (h : T3 W b s) (ha : a ≤ 2) : W.frozen? ⟨b, a, none⟩ = false := by
  rcases (show a = 0 ∨ a = 1 ∨ a = 2 by omega) with rfl | rfl | rfl
  · exact Three.f0 h
  · exact Three.f1 h
  · exact Three.f2 h
theorem T3.set (h : T3 W b s) (ha : a ≤ 2) (v : Int) : T3 (W.setCell ⟨b, a, none⟩ (.int .i64 v)) b (put3 a s v) := by
  rcases (show a = 0 ∨ a = 1 ∨ a = 2 by omega) with rfl | rfl | rfl
  · exact Three.set0 h _
  · exact Three.set1 h _
  · exact Three.set2 h _
end
/-- Where the reading stands: at the start, or in the rest. -/
def Reads (s : ByteArray) (pos a : Nat) (st : Int × Int × Int) : Prop := (pos = 0 → a = 0 ∧ st = (0, 0, 0)) ∧ (pos ≠ 0 → rdGo a st (s.data.toList.drop pos) = rdS s)
theorem Reads.done {s : ByteArray} {pos a : Nat} {st : Int × Int × Int} (h : Reads s pos a st) (hp : ¬ pos < s.size) : st = rdS s := by
  by_cases h0 : pos = 0
  · rw [(h.1 h0).2, rdS_empty (by omega)]
  · have := h.2 h0
    rw [List.drop_eq_nil_of_le (by rw [← Lib.size_eq]; omega), rdGo_end] at this
    exact this
theorem Reads.first {s : ByteArray} {a : Nat} {st : Int × Int × Int} (h : Reads s 0 a st) (hp : 0 < s.size) (hw : 1 ≤ (Utf8.decode s 0).2) : Reads s (0 + (Utf8.decode s 0).2) a st := by
  obtain ⟨rfl, rfl⟩ := h.1 rfl
  refine ⟨fun e => by omega, fun _ => ?_⟩
  rw [Nat.zero_add, rdS_some hp]
theorem Reads.point {s : ByteArray} {pos a : Nat} {st : Int × Int × Int} (h : Reads s pos a st) (h0 : pos ≠ 0) (hp : pos < s.size) (hc : (s[pos]'hp).toNat = 46) (ha : a < 2) : Reads s (pos + 1) (a + 1) st := by
  refine ⟨fun e => by omega, fun _ => ?_⟩
  rw [← h.2 h0, drop_at hp, rdGo_point hc ha]
theorem Reads.digit {s : ByteArray} {pos a : Nat} {st : Int × Int × Int} (h : Reads s pos a st) (h0 : pos ≠ 0) (hp : pos < s.size) (hc : 48 ≤ (s[pos]'hp).toNat ∧ (s[pos]'hp).toNat ≤ 57) : Reads s (pos + 1) a (put3 a st (dig3 (get3 a st) s[pos])) := by
  refine ⟨fun e => by omega, fun _ => ?_⟩
  rw [← h.2 h0, drop_at hp, rdGo_dig hc]
theorem Reads.stop {s : ByteArray} {pos a : Nat} {st : Int × Int × Int} (h : Reads s pos a st) (h0 : pos ≠ 0) (hp : pos < s.size) (h1 : ¬ ((s[pos]'hp).toNat = 46 ∧ a < 2)) (h2 : ¬ (48 ≤ (s[pos]'hp).toNat ∧ (s[pos]'hp).toNat ≤ 57)) : st = rdS s := by
  rw [← h.2 h0, drop_at hp, rdGo_stop h1 h2]
theorem decode_wide (s : ByteArray) (pos : Nat) (h : pos < s.size) : 1 ≤ (Utf8.decode s pos).2 := by
  by_cases ha : (s[pos]'h).toNat < 128
  · rw [decode_ascii s pos h ha]; exact Nat.le_refl _
  · exact (decode_high s pos h (by omega)).2

set_option maxHeartbeats 8000000 in
set_option maxRecDepth 100000 in
theorem read_any (s : ByteArray) (w : World) :
    Calls Tryd.prog 35 #[.string s] w fun e w' => e = .returned (.tuple #[.int .i64 (rdS s).1, .int .i64 (rdS s).2.1, .int .i64 (rdS s).2.2]) ∧ Grew w w' := by
  obtain ⟨b, hb⟩ : ∃ b, w.heap.size = b := ⟨_, rfl⟩
  have HT0 : Hid (T3 ((w.alloc (.cells #[.int .i64 0, .int .i64 0, .int .i64 0] 69)).iter s 0) b (0, 0, 0)) := Lib.hid (by rw [← hb]; exact (Three.new w 69 (.int .i64 0) (.int .i64 0) (.int .i64 0)).alloc (.stringIter s 0))
  have HG0 : Hid (Below b w ((w.alloc (.cells #[.int .i64 0, .int .i64 0, .int .i64 0] 69)).iter s 0)) := Lib.hid (by rw [← hb]; exact ((Grew.refl w).alloc _).alloc _)
  have HI0 : Hid (((w.alloc (.cells #[.int .i64 0, .int .i64 0, .int .i64 0] 69)).iter s 0).heap[b + 1]? = some (.stringIter s 0)) := Lib.hid (by
    have := World.iter_heap (w.alloc (.cells #[.int .i64 0, .int .i64 0, .int .i64 0] 69)) s 0
    rwa [World.size_alloc, hb] at this)
  have HB := Lib.hid hb
  go_enter Tryd.func35, Tryd.ntmps35
  go_wp2
  go_step3
  go_wp2
  go_step3
  go_wp2
  generalize (w.alloc (.cells #[.int .i64 0, .int .i64 0, .int .i64 0] 69)).iter s 0 = W0 at *
  clear hb
  go_loopw [6] (fun av wr => ∃ (pos a : Nat) (st : Int × Int × Int), a ≤ 2 ∧ av = .int .i64 a ∧ wr.heap[b + 1]? = some (.stringIter s pos) ∧ Hid (T3 wr b st) ∧ Hid (Below b w wr) ∧ Hid (Reads s pos a st)) (fun _ wr => s.size - wr.iterPos (b + 1))
  case atStart => exact ⟨0, 0, (0, 0, 0), by omega, rfl, HI0.out, HT0, HG0, Lib.hid ⟨fun _ => ⟨rfl, rfl⟩, fun h => absurd rfl h⟩⟩
  case round =>
    obtain ⟨pos, a, st, ha, rfl, hit, HT, HG, HV⟩ := hrel
    have hsz : b + 1 < wr.heap.size := (Array.getElem?_eq_some_iff.1 hit).1
    have HI := Lib.hid hit
    by_cases hp : pos < s.size
    · have hw1 := decode_wide s pos hp
      have hnx : ∀ ty, (Instr.next (.pointer (some ⟨b + 1, 0, none⟩)) true ty).run Tryd.prog wr = _ := fun ty => Lib.run_next_any_at wr (b + 1) s pos ty hit hp
      obtain ⟨wd, hwd⟩ : ∃ wd, (Utf8.decode s pos).2 = wd := ⟨_, rfl⟩
      obtain ⟨r, hr⟩ : ∃ r, (Utf8.decode s pos).1 = r := ⟨_, rfl⟩
      have hrc : ((s[pos]'hp).toNat < 128 ∧ r = (s[pos]'hp).toNat ∧ wd = 1) ∨ (128 ≤ (s[pos]'hp).toNat ∧ 128 ≤ r) := by
        by_cases h7 : (s[pos]'hp).toNat < 128
        · have := decode_ascii s pos hp h7
          rw [this] at hwd hr
          exact .inl ⟨h7, hr.symm, hwd.symm⟩
        · exact .inr ⟨by omega, by rw [← hr]; exact (decode_high s pos hp (by omega)).1⟩
      have hr31 : r ≤ 2147483647 := by rw [← hr]; exact decode_le s pos
      have HWd := Lib.hid hwd
      rw [hwd, hr] at hnx
      rw [hwd] at hw1
      have hit2 := Lib.hid (Lib.iterAt_heap wr (b + 1) s pos (pos + wd) HI.out)
      have HT1 : Hid (T3 (wr.iterAt (b + 1) s (pos + wd)) b st) := Lib.hid ((Lib.iterAt_other wr (b + 1) b s (pos + wd) (by omega)).trans HT.out)
      have HG1 : Hid (Below b w (wr.iterAt (b + 1) s (pos + wd))) := Lib.hid (Lib.below_iterAt HG.out (by omega) s _)
      have HM : Hid (s.size - (wr.iterAt (b + 1) s (pos + wd)).iterPos (b + 1) < s.size - wr.iterPos (b + 1)) := Lib.hid (by simp only [World.iterPos, hit2.out, HI.out]; omega)
      have hl1 := HT1.out.lt
      generalize wr.iterAt (b + 1) s (pos + wd) = W1 at *
      clear hit hwd hr
      by_cases h0 : pos = 0
      · subst h0
        have HV1 : Hid (Reads s (0 + wd) a st) := Lib.hid (by rw [← HWd.out]; exact HV.out.first hp (by rw [HWd.out]; exact hw1))
        clear hrc
        go_wp2
        exact ⟨⟨0 + wd, a, st, ha, rfl, hit2.out, HT1, HG1, HV1⟩, HM.out⟩
      · have h0i : ¬ (pos : Int) = 0 := by omega
        by_cases h46 : (s[pos]'hp).toNat = 46 ∧ a < 2
        · obtain ⟨h46, ha2⟩ := h46
          obtain ⟨rfl, rfl⟩ : r = 46 ∧ wd = 1 := by
            rcases hrc with ⟨_, h1, h2⟩ | ⟨h1, _⟩
            · exact ⟨by omega, h2⟩
            · omega
          have HV1 := Lib.hid (HV.out.point h0 hp h46 ha2)
          clear hrc h46
          go_wp2
          exact ⟨⟨pos + 1, a + 1, st, by omega, by go_num, hit2.out, HT1, HG1, HV1⟩, HM.out⟩
        · by_cases hdg : 48 ≤ (s[pos]'hp).toNat ∧ (s[pos]'hp).toNat ≤ 57
          · obtain ⟨rfl, rfl⟩ : r = (s[pos]'hp).toNat ∧ wd = 1 := by
              rcases hrc with ⟨_, h1, h2⟩ | ⟨h1, _⟩
              · exact ⟨h1, h2⟩
              · omega
            have HV1 := Lib.hid (HV.out.digit h0 hp hdg)
            have hca := HT1.out.cell ha
            have hfa := HT1.out.free ha
            have HD : Hid (dig3 (get3 a st) s[pos] = wrap64 (wrap64 (get3 a st * 10) + (((s[pos]'hp).toNat : Int) - 48))) := Lib.hid rfl
            have HTS : Hid (T3 (W1.setCell ⟨b, a, none⟩ (.int .i64 (dig3 (get3 a st) s[pos]))) b (put3 a st (dig3 (get3 a st) s[pos]))) := Lib.hid (HT1.out.set ha _)
            have hc46 : ¬ (s[pos]'hp).toNat = 46 := by omega
            rw [HD.out] at HTS HV1
            generalize get3 a st = g at *
            generalize (s[pos]'hp).toNat = c at *
            clear hrc h46
            have hit3 := Lib.hid ((heap_setCell_other W1 ⟨b, a, none⟩ (b + 1) (.int .i64 (wrap64 (wrap64 (g * 10) + ((c : Int) - 48)))) (by show b + 1 ≠ b; omega)).trans hit2.out)
            have HG2 := Lib.hid (HG1.out.setCell (p := ⟨b, a, none⟩) (Nat.le_refl _) (.int .i64 (wrap64 (wrap64 (g * 10) + ((c : Int) - 48)))))
            go_wp2
            exact ⟨⟨pos + 1, a, _, ha, rfl, hit3.out, HTS, HG2, HV1⟩, by simp only [World.iterPos, hit3.out, HI.out]; omega⟩
          · have HE := Lib.hid (HV.out.stop h0 hp h46 hdg)
            have hr1 : ¬ (r = 46 ∧ a < 2) := by
              rintro ⟨rfl, h2⟩
              rcases hrc with ⟨_, h1, _⟩ | ⟨_, h1⟩
              · exact h46 ⟨by omega, h2⟩
              · omega
            have hr2 : ¬ (48 ≤ r ∧ r ≤ 57) := by
              rintro ⟨h2, h3⟩
              rcases hrc with ⟨_, h1, _⟩ | ⟨_, h1⟩
              · exact hdg (by omega)
              · omega
            have HGE : Hid (Grew w W1) := Lib.hid (by show Below w.heap.size w W1; rw [HB.out]; exact HG1.out)
            have c0 : W1.cell? ⟨b, 0, none⟩ = some (.int .i64 st.1) := HT1.out.cell (a := 0) (by omega)
            have c1 : W1.cell? ⟨b, 1, none⟩ = some (.int .i64 st.2.1) := HT1.out.cell (a := 1) (by omega)
            have c2 : W1.cell? ⟨b, 2, none⟩ = some (.int .i64 st.2.2) := HT1.out.cell (a := 2) (by omega)
            clear hrc
            by_cases h46 : r = 46
            · have ha2 : ¬ a < 2 := fun h => hr1 ⟨h46, h⟩
              clear hr1 hr2
              subst h46
              go_wp2
              go_quiet (fail)
              go_wp2
              (try rw [Exit.noGoto_ret])
              exact bodyPost_ret (v := .tuple #[.int .i64 st.1, .int .i64 st.2.1, .int .i64 st.2.2]) (by simp [results, Tryd.results35, go_sem]) rfl ⟨by rw [← HE.out], HGE.out.drewN _⟩
            · by_cases h48 : 48 ≤ r
              · have h57 : ¬ r ≤ 57 := fun h => hr2 ⟨h48, h⟩
                clear hr1 hr2
                go_wp2
                go_quiet (fail)
                go_wp2
                (try rw [Exit.noGoto_ret])
                exact bodyPost_ret (v := .tuple #[.int .i64 st.1, .int .i64 st.2.1, .int .i64 st.2.2]) (by simp [results, Tryd.results35, go_sem]) rfl ⟨by rw [← HE.out], HGE.out.drewN _⟩
              · clear hr1 hr2
                go_wp2
                go_quiet (fail)
                go_wp2
                (try rw [Exit.noGoto_ret])
                exact bodyPost_ret (v := .tuple #[.int .i64 st.1, .int .i64 st.2.1, .int .i64 st.2.2]) (by simp [results, Tryd.results35, go_sem]) rfl ⟨by rw [← HE.out], HGE.out.drewN _⟩
    · have HE := Lib.hid (HV.out.done hp)
      have hnx : ∀ ty, (Instr.next (.pointer (some ⟨b + 1, 0, none⟩)) true ty).run Tryd.prog wr = _ := fun ty => Lib.run_next_end_at wr (b + 1) s pos ty hit hp
      have HGE : Hid (Grew w wr) := Lib.hid (by show Below w.heap.size w wr; rw [HB.out]; exact HG.out)
      have c0 : wr.cell? ⟨b, 0, none⟩ = some (.int .i64 st.1) := HT.out.cell (a := 0) (by omega)
      have c1 : wr.cell? ⟨b, 1, none⟩ = some (.int .i64 st.2.1) := HT.out.cell (a := 1) (by omega)
      have c2 : wr.cell? ⟨b, 2, none⟩ = some (.int .i64 st.2.2) := HT.out.cell (a := 2) (by omega)
      have hl0 := HT.out.lt
      clear hit
      go_wp2
      go_quiet (fail)
      go_wp2
      (try rw [Exit.noGoto_ret])
      exact bodyPost_ret (v := .tuple #[.int .i64 st.1, .int .i64 st.2.1, .int .i64 st.2.2]) (by simp [results, Tryd.results35, go_sem]) rfl ⟨by rw [← HE.out], HGE.out.drewN _⟩
end Go.Proofs.YtfgadjpdpocdbaaDoor
