/- strings.SplitN at a single space, 25 parts at most; Same of package conf. Conditions: strings of at most 10^6 bytes; the world has its shape (SplitOk); at most 2^44 sizes. -/
import Derived.Test.YthcahpgandappaaGreatDoorCr
import Derived.Lib.Split
namespace Go.Proofs.YthcahpgandappaaGreatDoor
open Go.RowKit Go.Shelf

theorem index_sp : ∀ (a b : List UInt8), (32 : UInt8) ∉ a → Lib.index (a ++ 32 :: b) [32] = (a.length : Int)
  | [], b, _ => by simp [Lib.index, List.isPrefixOf]
  | c :: a, b, h => by
    have hc : (32 == c) = false := by rw [beq_eq_false_iff_ne]; exact fun e => h (by simp [e])
    have ih := index_sp a b (fun e => h (by simp [e]))
    have h1 : ((a.length : Int) == -1) = false := by rw [beq_eq_false_iff_ne]; omega
    rw [List.cons_append]
    unfold Lib.index
    rw [ih, h1]
    simp [List.isPrefixOf, hc]
theorem index_spno : ∀ (a : List UInt8), (32 : UInt8) ∉ a → Lib.index a [32] = -1
  | [], _ => rfl
  | c :: a, h => by
    have hc : (32 == c) = false := by rw [beq_eq_false_iff_ne]; exact fun e => h (by simp [e])
    unfold Lib.index
    rw [index_spno a (fun e => h (by simp [e]))]
    simp [List.isPrefixOf, hc]
theorem splitK_cut {a b : List UInt8} (k : Nat) (h : (32 : UInt8) ∉ a) : Lib.splitK [32] 0 (k + 1) (a ++ 32 :: b) = a :: Lib.splitK [32] 0 k b := by
  have h1 : ((a.length : Int) == -1) = false := by rw [beq_eq_false_iff_ne]; omega
  have h2 : Lib.splitK [32] 0 (k + 1) (a ++ 32 :: b) = if Lib.index (a ++ 32 :: b) [32] == -1 then [a ++ 32 :: b] else (a ++ 32 :: b).take ((Lib.index (a ++ 32 :: b) [32]).toNat + 0) :: Lib.splitK [32] 0 k ((a ++ 32 :: b).drop ((Lib.index (a ++ 32 :: b) [32]).toNat + 1)) := rfl
  rw [h2, index_sp a b h, h1]
  simp
theorem splitK_no {a : List UInt8} (k : Nat) (h : (32 : UInt8) ∉ a) : Lib.splitK [32] 0 k a = [a] := by
  cases k with
  | zero => rfl
  | succ k => unfold Lib.splitK; rw [index_spno a h]; rfl
theorem splitK_sp : ∀ (k : Nat) (l : List UInt8), (splitSp l).length ≤ k + 1 → Lib.splitK [32] 0 k l = splitSp l := by
  intro k
  induction k with
  | zero =>
    intro l h
    rcases split_form l with hn | ⟨a, b, rfl, hn⟩
    · rw [split_last l hn, splitK_no 0 hn]
    · rw [split_cut a b hn] at h
      have := List.length_pos_iff.2 (split_ne b)
      rw [List.length_cons] at h
      omega
  | succ k ih =>
    intro l h
    rcases split_form l with hn | ⟨a, b, rfl, hn⟩
    · rw [split_last l hn, splitK_no _ hn]
    · rw [split_cut a b hn] at h ⊢
      rw [splitK_cut k hn, ih b (by simp at h; omega)]
theorem splitK_long : ∀ (k : Nat) (l : List UInt8), k + 1 < (splitSp l).length → (Lib.splitK [32] 0 k l).length = k + 1 := by
  intro k
  induction k with
  | zero => intro l _; rfl
  | succ k ih =>
    intro l h
    rcases split_form l with hn | ⟨a, b, rfl, hn⟩
    · rw [split_last l hn] at h; simp at h
    · rw [split_cut a b hn] at h
      rw [splitK_cut k hn, List.length_cons, ih b (by simp at h; omega)]
theorem sp_len : ∀ (n : Nat) (l : List UInt8), l.length ≤ n → (splitSp l).length ≤ l.length + 1 := by
  intro n
  induction n with
  | zero =>
    intro l hl
    obtain rfl := List.eq_nil_of_length_eq_zero (Nat.le_zero.1 hl)
    simp [splitSp]
  | succ n ih =>
    intro l hl
    rcases split_form l with h | ⟨a, b, rfl, h⟩
    · rw [split_last l h]; simp
    · rw [split_cut a b h]
      have := ih b (by simp at hl; omega)
      simp; omega
/-- What SplitN makes of a text, as far as it is asked. -/
def Pws (s : ByteArray) (ps : List ByteArray) : Prop := (ps.length = 24 → ps.map (·.data.toList) = splitSp s.data.toList) ∧ (ps.length ≠ 24 → (splitSp s.data.toList).length ≠ 24)
theorem pws_of (s : ByteArray) : Pws s (Lib.splitB ⟨#[32]⟩ 0 (min 25 (s.size + 1) - 1) s) := by
  have hd := Lib.splitB_data ⟨#[32]⟩ 0 (min 25 (s.size + 1) - 1) s
  have hl : (Lib.splitB ⟨#[32]⟩ 0 (min 25 (s.size + 1) - 1) s).length = (Lib.splitK [32] 0 (min 25 (s.size + 1) - 1) s.data.toList).length := by
    have := congrArg List.length hd
    rwa [List.length_map] at this
  have hs := sp_len _ s.data.toList (Nat.le_refl _)
  rw [← size_dataC] at hs
  by_cases h : (splitSp s.data.toList).length ≤ min 25 (s.size + 1) - 1 + 1
  · have he := splitK_sp _ _ h
    rw [he] at hl
    exact ⟨fun _ => hd.trans he, fun h1 h2 => h1 (by omega)⟩
  · have he := splitK_long _ _ (Nat.lt_of_not_le h)
    rw [he] at hl
    refine ⟨fun h1 => ?_, fun h1 h2 => ?_⟩
    · exfalso; omega
    · omega
/-- strings.SplitN, in whatever world has grown out of this one. -/
def SplitOk (w : World) : Prop := ∀ (s : ByteArray) (W : World), s.size ≤ 1000000 → Grew w W →
  Calls Tryz.prog 20 #[.string s, .string ⟨#[32]⟩, .int .i64 25] W fun e w' => (∃ (ps : List ByteArray) (N : Nat), e = .returned (.slice (some ⟨W.heap.size, 0, none⟩) ps.length N) ∧ (∀ (j : Nat) x, ps[j]? = some x → w'.cell? ⟨W.heap.size, j, none⟩ = some (.string x)) ∧ Pws s ps ∧ W.heap.size < w'.heap.size) ∧ Grew W w'
theorem splitOk_of (w : World) (h : w.ShapedOpen Tryz.prog) : SplitOk w := by
  obtain ⟨m, hm⟩ := Tryz.laysM145.s1_3 w h
  intro s W hs g
  refine (Tryz.strings_SplitN s ⟨#[32]⟩ 25 m W (by omega) ((Below.cell g (World.block_lt_of_cell? w _ hm)).trans hm) (by decide) (by decide) (by decide)).mono ?_
  rintro e w' ⟨rfl, rfl⟩
  refine ⟨⟨_, _, rfl, fun j x hx => ?_, pws_of s, by simp⟩, (Grew.refl W).alloc _⟩
  rw [World.cell?_alloc_new]
  unfold Lib.cellsOf
  have hj : j < (Lib.splitB ⟨#[32]⟩ 0 (min 25 (s.size + 1) - 1) s).length := (List.getElem?_eq_some_iff.1 hx).1
  rw [List.getElem?_toArray, List.getElem?_append_left (by rw [List.length_map]; exact hj), List.getElem?_map, hx]
  rfl
theorem SplitOk.grow {w w' : World} (h : SplitOk w) (g : Grew w w') : SplitOk w' := fun s W hs k => h s W hs (g.trans k)

/-! ### Same -/
def sameC (f g : Cf) : Bool := decide (f.z = g.z) && (List.range 11).all (fun j => xk f (j + 1) == xk g (j + 1))
theorem sameC_yes {f g : Cf} (hz : f.z = g.z) (h : ∀ k, 1 ≤ k → k < 12 → xk f k = xk g k) : sameC f g = true := by
  unfold sameC
  rw [decide_eq_true hz, Bool.true_and, List.all_eq_true]
  intro j hj
  rw [List.mem_range] at hj
  simp only [beq_iff_eq]
  exact h (j + 1) (by omega) (by omega)
theorem sameC_z {f g : Cf} (h : f.z ≠ g.z) : sameC f g = false := by unfold sameC; rw [decide_eq_false h]; rfl
theorem sameC_k {f g : Cf} {k : Nat} (h1 : 1 ≤ k) (h2 : k < 12) (h : xk f k ≠ xk g k) : sameC f g = false := by
  unfold sameC
  rw [Bool.and_eq_false_iff]
  right
  rw [List.all_eq_false]
  exact ⟨k - 1, List.mem_range.2 (by omega), by rw [show k - 1 + 1 = k by omega]; simpa using h⟩
theorem sameC_eq {f g : Cf} : sameC f g = true ↔ f = g := by
  constructor
  · intro h
    unfold sameC at h
    rw [Bool.and_eq_true, List.all_eq_true] at h
    have hz := of_decide_eq_true h.1
    have hk : ∀ j, j < 11 → xk f (j + 1) = xk g (j + 1) := fun j hj => by simpa using h.2 j (List.mem_range.2 hj)
    cases f
    cases g
    have h0 := hk 0 (by decide)
    have h1 := hk 1 (by decide)
    have h2 := hk 2 (by decide)
    have h3 := hk 3 (by decide)
    have h4 := hk 4 (by decide)
    have h5 := hk 5 (by decide)
    have h6 := hk 6 (by decide)
    have h7 := hk 7 (by decide)
    have h8 := hk 8 (by decide)
    have h9 := hk 9 (by decide)
    have h10 := hk 10 (by decide)
    simp only [xk] at *
    simp only [Cf.mk.injEq]
    exact ⟨hz, h0, h1, h2, h3, h4, h5, h6, h7, h8, h9, h10⟩
  · rintro rfl
    exact sameC_yes rfl (fun _ _ _ => rfl)

set_option maxRecDepth 100000 in
set_option maxHeartbeats 4000000 in
theorem csame_conf {n n' : Nat} (a a' : Option Addr) (c c' : Nat) (f g : Cf) (w : World) (hn : f.z.length = n) (hn' : g.z.length = n') (hl : n ≤ 17592186044416) (hl' : n' ≤ 17592186044416) (hr : RdK .i64 w.heap.size w a f.z) (hr' : RdK .i64 w.heap.size w a' g.z) :
    Calls Tryz.prog 12 #[.agg #[.slice a n c, .int .i64 f.sh, .int .i64 f.ra, .int .i64 f.mo, .int .i64 f.wo, .int .i64 f.ba, .int .i64 f.mi, .int .i64 f.st, .int .i64 f.bu, .int .i64 f.ch, .int .i64 f.wi, .int .i64 f.ca], .agg #[.slice a' n' c', .int .i64 g.sh, .int .i64 g.ra, .int .i64 g.mo, .int .i64 g.wo, .int .i64 g.ba, .int .i64 g.mi, .int .i64 g.st, .int .i64 g.bu, .int .i64 g.ch, .int .i64 g.wi, .int .i64 g.ca]] w fun e w' => e = .returned (.bool (sameC f g)) ∧ Grew w w' := by
  have g0 : Grew w ((w.alloc (.cells #[.slice a n c, .int .i64 f.sh, .int .i64 f.ra, .int .i64 f.mo, .int .i64 f.wo, .int .i64 f.ba, .int .i64 f.mi, .int .i64 f.st, .int .i64 f.bu, .int .i64 f.ch, .int .i64 f.wi, .int .i64 f.ca] 24)).alloc (.cells #[.slice a' n' c', .int .i64 g.sh, .int .i64 g.ra, .int .i64 g.mo, .int .i64 g.wo, .int .i64 g.ba, .int .i64 g.mi, .int .i64 g.st, .int .i64 g.bu, .int .i64 g.ch, .int .i64 g.wi, .int .i64 g.ca] 24)) := ((Grew.refl w).alloc _).alloc _
  have HM := Lib.hid ((CfM.new w a n c f).alloc (.cells #[.slice a' n' c', .int .i64 g.sh, .int .i64 g.ra, .int .i64 g.mo, .int .i64 g.wo, .int .i64 g.ba, .int .i64 g.mi, .int .i64 g.st, .int .i64 g.bu, .int .i64 g.ch, .int .i64 g.wi, .int .i64 g.ca] 24))
  have hm' := CfM.new (w.alloc (.cells #[.slice a n c, .int .i64 f.sh, .int .i64 f.ra, .int .i64 f.mo, .int .i64 f.wo, .int .i64 f.ba, .int .i64 f.mi, .int .i64 f.st, .int .i64 f.bu, .int .i64 f.ch, .int .i64 f.wi, .int .i64 f.ca] 24)) a' n' c' g
  rw [World.size_alloc] at hm'
  have HM' := Lib.hid hm'
  have HX := Lib.hid (hr.grow g0)
  have HX' := Lib.hid (hr'.grow g0)
  have HG := Lib.hid g0
  have HN := Lib.hid hn
  have HN' := Lib.hid hn'
  clear g0 hr hr' hn hn' hm'
  go_enter Tryz.func12, Tryz.ntmps12
  go_wp2_with fail
  generalize hW0 : (w.alloc (.cells #[.slice a n c, .int .i64 f.sh, .int .i64 f.ra, .int .i64 f.mo, .int .i64 f.wo, .int .i64 f.ba, .int .i64 f.mi, .int .i64 f.st, .int .i64 f.bu, .int .i64 f.ch, .int .i64 f.wi, .int .i64 f.ca] 24)).alloc (.cells #[.slice a' n' c', .int .i64 g.sh, .int .i64 g.ra, .int .i64 g.mo, .int .i64 g.wo, .int .i64 g.ba, .int .i64 g.mi, .int .i64 g.st, .int .i64 g.bu, .int .i64 g.ch, .int .i64 g.wi, .int .i64 g.ca] 24) = W0 at *
  generalize hb0 : w.heap.size = cb at *
  clear hW0 hb0
  refine (values_any W0).mono ?_
  rintro e w1 ⟨⟨bx, rfl, hbx, hbl⟩, g1⟩
  have HM1 := Lib.hid (HM.out.grow g1)
  have HM1' := Lib.hid (HM'.out.grow g1)
  have HX1 := Lib.hid (HX.out.grow g1)
  have HX1' := Lib.hid (HX'.out.grow g1)
  have HG1 := Lib.hid (HG.out.trans g1)
  have HBX := Lib.hid hbx
  clear HM HX HM' HX' HG g1 hbx hbl
  go_wp2
  go_loopw [8] (fun i W' => ∃ k : Nat, k ≤ 12 ∧ i = .int .i64 k ∧ Hid (k = 0 ∨ f.z = g.z) ∧ Hid (∀ j, 1 ≤ j → j < k → xk f j = xk g j) ∧ Hid (Grew w1 W')) (fun i _ => 12 - (intOf i).toNat)
  case atStart => exact ⟨0, Nat.zero_le _, rfl, Lib.hid (.inl rfl), Lib.hid (fun j _ hj => absurd hj (Nat.not_lt_zero _)), Lib.hid (Grew.refl _)⟩
  case round =>
    obtain ⟨k, hk, rfl, HZ, HO, HG⟩ := hrel
    by_cases hlt : k < 12
    · have HM2 := HM1.out.grow HG.out
      have HM2' := HM1'.out.grow HG.out
      have HGG : Hid (∀ o : Obj, Grew w1 (wr.alloc o)) := Lib.hid (fun o => HG.out.alloc o)
      by_cases h0 : k = 0
      · subst h0
        have hix := fun W => idx_0 bx W
        by_cases hz : f.z = g.z
        · have HC : Hid (∀ o : Obj, Calls Tryz.prog 58 #[.pointer (some ⟨cb, 0, none⟩), .pointer (some ⟨cb + 1, 0, none⟩)] (wr.alloc o) fun e w' => e = .returned (.bool true) ∧ Grew (wr.alloc o) w') := Lib.hid (fun o => by
            have h := zsame_any (wr.alloc o) (HM2.alloc o) (HM2'.alloc o) HN.out HN'.out hl hl' (HX1.out.grow (HGG.out o)) (HX1'.out.grow (HGG.out o))
            rw [decide_eq_true hz] at h
            exact h)
          have HZ1 := Lib.hid hz
          clear hz
          go_wp2_with fail
          refine (HC.out _).mono ?_
          rintro e w2 ⟨rfl, g2⟩
          have HGE := Lib.hid ((HGG.out _).trans g2)
          go_wp2
          go_roundw
          case rel => exact ⟨1, by decide, by go_num, Lib.hid (.inr HZ1.out), Lib.hid (fun j h1 h2 => by omega), HGE⟩
          case measure => first | (simp [intOf]; done) | (simp [intOf]; omega)
        · have HC : Hid (∀ o : Obj, Calls Tryz.prog 58 #[.pointer (some ⟨cb, 0, none⟩), .pointer (some ⟨cb + 1, 0, none⟩)] (wr.alloc o) fun e w' => e = .returned (.bool false) ∧ Grew (wr.alloc o) w') := Lib.hid (fun o => by
            have h := zsame_any (wr.alloc o) (HM2.alloc o) (HM2'.alloc o) HN.out HN'.out hl hl' (HX1.out.grow (HGG.out o)) (HX1'.out.grow (HGG.out o))
            rw [decide_eq_false hz] at h
            exact h)
          have HR := Lib.hid (sameC_z hz)
          clear hz
          go_wp2_with fail
          refine (HC.out _).mono ?_
          rintro e w2 ⟨rfl, g2⟩
          have HGE := Lib.hid ((HGG.out _).trans g2)
          go_wp2
          go_ret
          exact ⟨ret_bool HR.out.symm, HG1.out.trans HGE.out⟩
      · have h1 : 1 ≤ k := by omega
        have hix := fun W => idx_k bx h1 hlt W
        have heg := gS_enters k
        have HC : Hid (∀ o : Obj, Calls Tryz.prog (gS k) #[.pointer (some ⟨cb, 0, none⟩), .pointer (some ⟨cb + 1, 0, none⟩), .pointer (some ⟨bx k, 0, none⟩)] (wr.alloc o) fun e w' => e = .returned (.bool (xk f k == xk g k)) ∧ Grew (wr.alloc o) w') := Lib.hid (fun o =>
          ksame_any (wr.alloc o) h1 hlt (HM2.alloc o) (HM2'.alloc o) (HBX.out.grow (HGG.out o)))
        by_cases hx : xk f k = xk g k
        · have hb : (xk f k == xk g k) = true := by rw [hx]; simp
          rw [hb] at HC
          have HO' : Hid (∀ j, 1 ≤ j → j < k + 1 → xk f j = xk g j) := Lib.hid (fun j h1 hj => by
            by_cases e : j = k
            · subst e; exact hx
            · exact HO.out j h1 (by omega))
          have HZ' : Hid (k + 1 = 0 ∨ f.z = g.z) := Lib.hid (.inr (HZ.out.resolve_left h0))
          clear hx hb
          generalize gS k = g3 at *
          go_wp2_with fail
          refine (HC.out _).mono ?_
          rintro e w2 ⟨rfl, g2⟩
          have HGE := Lib.hid ((HGG.out _).trans g2)
          go_wp2
          go_roundw
          case rel => exact ⟨k + 1, by omega, by go_num, HZ', HO', HGE⟩
          case measure => simp [intOf]; omega
        · have hb : (xk f k == xk g k) = false := by simp [hx]
          rw [hb] at HC
          have HR := Lib.hid (sameC_k h1 hlt hx)
          clear hx hb
          generalize gS k = g3 at *
          go_wp2_with fail
          refine (HC.out _).mono ?_
          rintro e w2 ⟨rfl, g2⟩
          have HGE := Lib.hid ((HGG.out _).trans g2)
          go_wp2
          go_ret
          exact ⟨ret_bool HR.out.symm, HG1.out.trans HGE.out⟩
    · obtain rfl : k = 12 := by omega
      have HR : Hid (sameC f g = true) := Lib.hid (sameC_yes (HZ.out.resolve_left (by decide)) HO.out)
      go_wp2
      go_ret
      exact ⟨ret_bool HR.out.symm, HG1.out.trans HG.out⟩
end Go.Proofs.YthcahpgandappaaGreatDoor
