/- Parse of package data: the example of a text, or none. Conditions: strings of at most 10^6 bytes; the table of powers of ten holds its numbers; strings.Cut does what it should in every world that has grown (CutOk: so where the world has its shape). -/
import Derived.Test.YthdkanmpapioeaaDoorEh
namespace Go.Proofs.YthdkanmpapioeaaDoor
open Go.RowKit Go.Shelf

/-- strings.Cut at the sign, in whatever world has grown out of this one. -/
def CutOk (w : World) : Prop := ∀ (s : ByteArray) (W : World), s.size ≤ 1000000 → Grew w W →
  Calls Tryd.prog 28 #[.string s, .string ⟨#[32, 62, 32]⟩] W fun e w' => e = .returned (.tuple #[.string ⟨(Lib.cut s.data.toList SEP).1.toArray⟩, .string ⟨(Lib.cut s.data.toList SEP).2.1.toArray⟩, .bool (Lib.cut s.data.toList SEP).2.2]) ∧ Grew W w'
theorem cutOk_of (w : World) (h : w.ShapedOpen Tryd.prog) : CutOk w := by
  obtain ⟨m, hm⟩ := Tryd.laysM145.s1_3 w h
  intro s W hs g
  refine (Tryd.strings_Cut s ⟨#[32, 62, 32]⟩ m W (by omega) ((Below.cell g (World.block_lt_of_cell? w _ hm)).trans hm)).mono ?_
  rintro e w' ⟨rfl, n, rfl⟩
  exact ⟨rfl, grew_drewN W n⟩
theorem CutOk.grow {w w' : World} (h : CutOk w) (g : Grew w w') : CutOk w' := fun s W hs k => h s W hs (g.trans k)
theorem cut_sizes (l : List UInt8) : (Lib.cut l SEP).1.length ≤ l.length ∧ (Lib.cut l SEP).2.1.length ≤ l.length := by
  unfold Lib.cut
  split
  · constructor
    · simp; omega
    · simp
  · simp

set_option maxHeartbeats 2000000 in
theorem dParse_any (s : ByteArray) (q : Int) (w : World) (hs : s.size ≤ 1000000) (hT : Lib.TabIs Tryd.prog w "internal/strconv.uint64pow10" .u64 Lib.pow10Tab) (hC : CutOk w) :
    Calls Tryd.prog 13 #[.string s, .int .i64 q] w fun u w' => ((∃ e xa xc ya yc, readE s.data.toList q = some e ∧ u = .returned (.tuple #[.agg #[.slice xa e.1.length xc, .slice ya e.2.length yc], .bool true]) ∧ BufK .i64 2 w.heap.size w' xa e.1.length xc e.1 ∧ BufK .i64 2 w.heap.size w' ya e.2.length yc e.2) ∨
      (readE s.data.toList q = none ∧ u = .returned (.tuple #[.agg #[.slice none 0 0, .slice none 0 0], .bool false]))) ∧ Grew w w' := by
  have hg : Grew w (w.alloc (.cells #[.slice none 0 0, .slice none 0 0] 24)) := (Grew.refl w).alloc _
  have ht := Two.new w 24 (.slice none 0 0) (.slice none 0 0)
  obtain ⟨q1, q2⟩ := cut_sizes s.data.toList
  have hb : s.data.toList.length = s.size := (size_data s).symm
  have HRE : Hid (readE s.data.toList q = match readS q (Lib.cut s.data.toList SEP).1, readS q (Lib.cut s.data.toList SEP).2.1 with | some x, some y => some (x, y) | _, _ => none) := Lib.hid rfl
  have HCC := Lib.hid (hC s _ hs hg)
  generalize (Lib.cut s.data.toList SEP).1 = l1 at *
  generalize (Lib.cut s.data.toList SEP).2.1 = l2 at *
  generalize (Lib.cut s.data.toList SEP).2.2 = b at *
  have hz1 : (⟨l1.toArray⟩ : ByteArray).size ≤ 1000000 := by rw [size_data]; show l1.length ≤ _; omega
  have hz2 : (⟨l2.toArray⟩ : ByteArray).size ≤ 1000000 := by rw [size_data]; show l2.length ≤ _; omega
  have HZ1 := Lib.hid hz1
  have HZ2 := Lib.hid hz2
  have HG := Lib.hid hg
  have HT := Lib.hid ht
  have HP := Lib.hid (tab_below hT (Nat.le_refl _) hg)
  clear hg ht hT hC hz1 hz2 q1 q2 hb
  go_enter Tryd.func13, Tryd.ntmps13
  go_wp2_with fail
  refine HCC.out.mono ?_
  rintro u w1 ⟨rfl, g1⟩
  have HT1 := Lib.hid (HT.out.grow g1)
  have HP1 := Lib.hid (tab_below HP.out (Nat.le_refl _) g1)
  have HG1 := Lib.hid (HG.out.trans g1)
  clear g1 HCC HT HP HG
  go_wp2_with fail
  refine (read_any ⟨l1.toArray⟩ q _ HZ1.out HP1.out).mono ?_
  rintro u w2 ⟨⟨x, xa, xc, hx, rfl, hbx⟩ | ⟨hx, rfl⟩, g2⟩
  · have HX : Hid (readS q l1 = some x) := Lib.hid hx
    have HBX := Lib.hid hbx
    have HT2 := Lib.hid (HT1.out.grow g2)
    have HP2 := Lib.hid (tab_below HP1.out (Nat.le_refl _) g2)
    have HG2 := Lib.hid (HG1.out.trans g2)
    have HS1 := Lib.hid HT1.out.lt
    clear g2 hx hbx HT1 HP1
    go_wp2_with fail
    refine (read_any ⟨l2.toArray⟩ q _ HZ2.out HP2.out).mono ?_
    rintro u w3 ⟨⟨y, ya, yc, hy, rfl, hby⟩ | ⟨hy, rfl⟩, g3⟩
    · have HE : Hid (readE s.data.toList q = some (x, y)) := Lib.hid (by rw [HRE.out, HX.out, show readS q l2 = some y from hy])
      have HT3 := HT2.out.grow g3
      have t0 := HT3.c0
      have t1 := HT3.c1
      have f0 := HT3.f0
      have f1 := HT3.f1
      have hT4 := (HT3.set0 (.slice xa x.length xc)).set1 (.slice ya y.length yc)
      have gB : Below w.heap.size w3 ((w3.setCell ⟨w.heap.size, 0, none⟩ (.slice xa x.length xc)).setCell ⟨w.heap.size, 1, none⟩ (.slice ya y.length yc)) := ((Below.refl w.heap.size w3).setCell (p := ⟨w.heap.size, 0, none⟩) (Nat.le_refl _) _).setCell (p := ⟨w.heap.size, 1, none⟩) (Nat.le_refl _) _
      have gS : w3.grownBy ((w3.setCell ⟨w.heap.size, 0, none⟩ (.slice xa x.length xc)).setCell ⟨w.heap.size, 1, none⟩ (.slice ya y.length yc)) (some w.heap.size) := grownBy_trans (grownBy_setCell1 w3 ⟨w.heap.size, 0, none⟩ _) (grownBy_setCell1 _ ⟨w.heap.size, 1, none⟩ _)
      have HG4 := Lib.hid ((HG2.out.trans g3).trans_below gB (Nat.le_refl _))
      have HBX4 := Lib.hid (BufK.mono (own_aside (HBX.out.grow g3) gS HS1.out) (Nat.le_of_lt HS1.out))
      have HBY4 := Lib.hid (BufK.mono (own_aside hby gS HT2.out.lt) (Nat.le_of_lt HT2.out.lt))
      have HT4 := Lib.hid hT4
      clear hT4 gB gS HT3 g3 hby hy
      go_wp2
      have r0 := HT4.out.c0
      have r1 := HT4.out.c1
      exact bodyPost_ret (v := .tuple #[.agg #[.slice xa x.length xc, .slice ya y.length yc], .bool true]) (by simp [results, Tryd.results13, go_sem, r0, r1]) rfl ⟨.inl ⟨(x, y), xa, xc, ya, yc, HE.out, rfl, HBX4.out, HBY4.out⟩, HG4.out⟩
    · have HE : Hid (readE s.data.toList q = none) := Lib.hid (by rw [HRE.out, HX.out, show readS q l2 = none from hy])
      have HT3 := HT2.out.grow g3
      have t0 := HT3.c0
      have t1 := HT3.c1
      have f0 := HT3.f0
      have f1 := HT3.f1
      have hT4 := (HT3.set0 (.slice none 0 0)).set1 (.slice none 0 0)
      have gB : Below w.heap.size w3 ((w3.setCell ⟨w.heap.size, 0, none⟩ (.slice none 0 0)).setCell ⟨w.heap.size, 1, none⟩ (.slice none 0 0)) := ((Below.refl w.heap.size w3).setCell (p := ⟨w.heap.size, 0, none⟩) (Nat.le_refl _) _).setCell (p := ⟨w.heap.size, 1, none⟩) (Nat.le_refl _) _
      have HG4 := Lib.hid ((HG2.out.trans g3).trans_below gB (Nat.le_refl _))
      have HT4 := Lib.hid hT4
      clear hT4 gB HT3 g3 hy
      go_wp2
      have r0 := HT4.out.c0
      have r1 := HT4.out.c1
      exact bodyPost_ret (v := .tuple #[.agg #[.slice none 0 0, .slice none 0 0], .bool false]) (by simp [results, Tryd.results13, go_sem, r0, r1]) rfl ⟨.inr ⟨HE.out, rfl⟩, HG4.out⟩
  · have HE : Hid (readE s.data.toList q = none) := Lib.hid (by rw [HRE.out, show readS q l1 = none from hx])
    have HT3 := HT1.out.grow g2
    have t0 := HT3.c0
    have t1 := HT3.c1
    have f0 := HT3.f0
    have f1 := HT3.f1
    have hT4 := (HT3.set0 (.slice none 0 0)).set1 (.slice none 0 0)
    have gB : Below w.heap.size w2 ((w2.setCell ⟨w.heap.size, 0, none⟩ (.slice none 0 0)).setCell ⟨w.heap.size, 1, none⟩ (.slice none 0 0)) := ((Below.refl w.heap.size w2).setCell (p := ⟨w.heap.size, 0, none⟩) (Nat.le_refl _) _).setCell (p := ⟨w.heap.size, 1, none⟩) (Nat.le_refl _) _
    have HG4 := Lib.hid ((HG1.out.trans g2).trans_below gB (Nat.le_refl _))
    have HT4 := Lib.hid hT4
    clear hT4 gB HT3 g2 hx
    go_wp2
    have r0 := HT4.out.c0
    have r1 := HT4.out.c1
    exact bodyPost_ret (v := .tuple #[.agg #[.slice none 0 0, .slice none 0 0], .bool false]) (by simp [results, Tryd.results13, go_sem, r0, r1]) rfl ⟨.inr ⟨HE.out, rfl⟩, HG4.out⟩
end Go.Proofs.YthdkanmpapioeaaDoor
