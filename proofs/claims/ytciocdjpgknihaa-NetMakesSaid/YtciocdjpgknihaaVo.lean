/- Layer 3's Clone of the reference, Dot and Scale, for seats that lack the rest of layer 3: the declarations of Vi and Vk over other imports. Condition: at most 2^40 elements, each within the bounds of int64. -/
import Derived.Test.YtciocdjpgknihaaXe
import Derived.Test.YtciocdjpgknihaaVb
import Derived.OwnWalk
import Derived.Maps.AppendAt
namespace Go.Proofs.Ytciocdjpgknihaa
open Go.RowKit

theorem info_int : (Try.prog.info? 2).map (fun i => (i.zero, i.size, i.bytes)) = some (some (.int .i64 0), 1, 8) := by kernel_rfl

set_option maxHeartbeats 1000000 in
theorem rclone_any (a : Option Addr) (cap : Nat) (zs : List Int) (w : World) (hl : zs.length ≤ 1099511627776) (ha : a = none → cap = 0) (h : Rd w.heap.size w a zs) :
    Calls Try.prog 11 #[.slice a zs.length cap] w fun e w' => (∃ a' cap', e = .returned (.slice a' zs.length cap') ∧ Buf w.heap.size w' a' zs.length cap' zs) ∧ Grew w w' := by
  obtain ⟨i0, hi, hz0, hz1, hz2⟩ := info_parts info_int
  have g0 : Grew w (w.alloc (.cells #[] 2)) := (Grew.refl w).alloc _
  have hown : (w.alloc (.cells #[] 2)).ownsRow w.heap.size 2 1 (.slice (some ⟨w.heap.size, 0, none⟩) 0 0) 0 [] := World.ownsRow_made w #[] 0 (Nat.le_refl _) (Nat.zero_le _) (by simp)
  cases a with
  | none =>
    obtain rfl := ha rfl
    obtain rfl : zs = [] := by
      rcases h with h | ⟨b, off, e, _⟩
      · exact h
      · cases e
    have HO := Lib.hid hown
    have HG := Lib.hid g0
    clear ha h hown g0
    simp only [List.length_nil]
    go_enter Try.func11, Try.ntmps11
    go_wp2
    go_ret
    exact ⟨⟨_, _, rfl, HO.out⟩, HG.out⟩
  | some x =>
    have HN : Hid (∀ (j : Nat) (u : Value), (zs.map (Value.int .i64))[j]? = some u → (w.alloc (.cells #[] 2)).cell? (x.add j) = some u) := Lib.hid (by
      intro j u hj
      have hlt : j < zs.length := by
        rcases Nat.lt_or_ge j zs.length with h' | h'
        · exact h'
        · rw [List.getElem?_eq_none (by simpa using h')] at hj; cases hj
      obtain ⟨b, off, e, hb, hc⟩ := (h.keep g0).at hlt
      obtain rfl := Option.some.inj e
      rw [List.getElem?_map, el_lt hlt] at hj
      rw [Addr.add_lit, hc]
      exact hj)
    have HO := Lib.hid hown
    have HG := Lib.hid g0
    clear ha h hown g0
    go_enter Try.func11, Try.ntmps11
    go_wp2_with (at_builtin; refine wpList_append_own _ rfl _ _ 23 rfl w.heap.size 2 i0 (.int .i64 0) 1 8 Try.underlying23 hi hz0 hz1 hz2 rfl (by decide) _ _ _ rfl HO.out x zs.length cap (zs.map (Value.int .i64)) rfl ?qc1 ?qc2 ?qc3 ?qc4 ?qc5 ?qc6 ?_)
    case qc1 => simp
    case qc2 => exact HN.out
    case qc3 => intro u hu; obtain ⟨z, _, rfl⟩ := List.mem_map.1 hu; rfl
    case qc4 => unfold maxLen; omega
    case qc5 => omega
    case qc6 => simp
    intro v' w1 hown hgrow hnil
    have HG1 : Hid (Grew w w1) := Lib.hid (Below.grown HG.out hgrow (by simp) (by intro k hk; simp [Value.ownBlock] at hk; omega))
    rcases hown.2 with ⟨rfl, _⟩ | ⟨g, c, cur, rfl, _⟩
    · exact (hnil rfl).elim
    · have HB : Hid (Buf w.heap.size w1 (some ⟨g, 0, none⟩) zs.length c zs) := Lib.hid hown
      clear hown hgrow hnil
      go_wp2
      go_ret
      exact ⟨⟨_, _, rfl, HB.out⟩, HG1.out⟩

/-- The contracts at a slice whose length is said otherwise. -/
theorem rsame_n {n m : Nat} (a a' : Option Addr) (c c' : Nat) (xs ys : List Int) (w : World) (hn : xs.length = n) (hm : ys.length = m) (hx : n ≤ 35184372088832) (hy : m ≤ 35184372088832) (rx : Rd w.heap.size w a xs) (ry : Rd w.heap.size w a' ys) :
    Calls Try.prog 15 #[.slice a n c, .slice a' m c'] w fun e w' => e = .returned (.bool (decide (xs = ys))) ∧ Grew w w' := by subst hn hm; exact rsame_any a a' c c' xs ys w hx hy rx ry
/-- The sum of the products of the first elements. -/
def dK (xs ys : List Int) (q : Int) : Nat → Int
  | 0 => 0
  | k + 1 => wrap64 (dK xs ys q k + mulV (el xs k) (el ys k) q)
def dotV (xs ys : List Int) (q : Int) : Int := if xs.length = ys.length then dK xs ys q xs.length else 0
theorem dK_comm (xs ys : List Int) (q : Int) : ∀ k, dK xs ys q k = dK ys xs q k
  | 0 => rfl
  | k + 1 => by simp only [dK]; rw [dK_comm xs ys q k, mulV_comm]
theorem dot_comm (xs ys : List Int) (q : Int) : dotV xs ys q = dotV ys xs q := by
  unfold dotV
  by_cases h : xs.length = ys.length
  · rw [if_pos h, if_pos h.symm, dK_comm, h]
  · rw [if_neg h, if_neg (fun e => h e.symm)]

set_option maxHeartbeats 1000000 in
theorem vdot_any (a a' : Option Addr) (c c' : Nat) (xs ys : List Int) (q : Int) (w : World) (hx : xs.length ≤ 35184372088832) (_hy : ys.length ≤ 35184372088832) (rx : Rd w.heap.size w a xs) (ry : Rd w.heap.size w a' ys) (fx : Fit xs) (fy : Fit ys) :
    Calls Try.prog 44 #[.slice a xs.length c, .slice a' ys.length c', .int .i64 q] w fun e w' => e = .returned (.tuple #[.int .i64 (dotV xs ys q), .bool (decide (xs.length = ys.length))]) ∧ Grew w w' := by
  have HX := Lib.hid rx
  have HY := Lib.hid ry
  have FX := Lib.hid fx
  have FY := Lib.hid fy
  clear rx ry fx fy
  by_cases hl : xs.length = ys.length
  · have HV : Hid (dotV xs ys q = dK xs ys q xs.length) := Lib.hid (if_pos hl)
    have HD : Hid (decide (xs.length = ys.length) = true) := Lib.hid (decide_eq_true hl)
    have HL := Lib.hid hl
    clear hl
    go_enter Try.func44, Try.ntmps44
    go_wp2_with fail
    refine (misfits_any _ _ _ _ _ _ _).mono ?_
    rintro e w1 ⟨rfl, rfl⟩
    rw [HD.out, Bool.not_true]
    go_wp2
    go_loopw [8, 16] (fun s i wr => ∃ k : Nat, k ≤ xs.length ∧ i = .int .i64 k ∧ s = .int .i64 (dK xs ys q k) ∧ Hid (Grew w wr)) (fun _ i _ => xs.length - (intOf i).toNat)
    case atStart => exact ⟨0, Nat.zero_le _, rfl, rfl, Lib.hid (Grew.refl _)⟩
    case round =>
      obtain ⟨k, hk, rfl, rfl, HG⟩ := hrel
      by_cases hlt : k < xs.length
      · have hlt2 : k < ys.length := by rw [← HL.out]; exact hlt
        obtain ⟨b, off, rfl, _, hc⟩ := (Rd.below HX.out HG.out).at hlt
        obtain ⟨b', off', rfl, _, hc'⟩ := (Rd.below HY.out HG.out).at hlt2
        have HF := Lib.hid (FX.out k hlt)
        have HF' := Lib.hid (FY.out k hlt2)
        have HS : Hid (dK xs ys q (k + 1) = wrap64 (dK xs ys q k + mulV (el xs k) (el ys k) q)) := Lib.hid rfl
        generalize el xs k = x at hc HF HS
        generalize el ys k = y at hc' HF' HS
        generalize dK xs ys q k = s at HS
        go_wp2_with fail
        refine (mul_any x y q _ HF.out.1 HF.out.2 HF'.out.1 HF'.out.2).mono ?_
        rintro e w2 ⟨rfl, g2⟩
        generalize mulV x y q = m at HS
        go_wp2_with fail
        refine (pair_any _ s m).mono ?_
        rintro e w3 ⟨rfl, g3⟩
        have HG3 := Lib.hid ((HG.out.trans g2).trans g3)
        clear g2 g3
        go_wp2_with fail
        go_roundw
        case rel => exact ⟨k + 1, by omega, by go_num, by rw [HS.out], HG3⟩
        case measure => simp [intOf]; omega
      · obtain rfl : k = xs.length := by omega
        go_wp2
        go_ret2
        rw [HD.out, HV.out]
        exact ⟨rfl, HG.out⟩
  · have HV : Hid (dotV xs ys q = 0) := Lib.hid (if_neg hl)
    have HD : Hid (decide (xs.length = ys.length) = false) := Lib.hid (decide_eq_false hl)
    clear hl
    go_enter Try.func44, Try.ntmps44
    go_wp2_with fail
    refine (misfits_any _ _ _ _ _ _ _).mono ?_
    rintro e w1 ⟨rfl, rfl⟩
    rw [HD.out, Bool.not_false]
    go_wp2
    go_ret2
    rw [HD.out, HV.out]
    exact ⟨rfl, Grew.refl _⟩

/-- The products of the elements and a number. -/
def scV (xs : List Int) (a q : Int) : List Int := (List.range xs.length).map fun j => mulV (el xs j) a q
theorem sc_len (xs : List Int) (a q : Int) : (scV xs a q).length = xs.length := by simp [scV]
theorem sc_el {xs : List Int} {a q : Int} {j : Nat} (h : j < xs.length) : el (scV xs a q) j = mulV (el xs j) a q := by simp [scV, el, h]
def scK (xs : List Int) (a q : Int) : Nat → List Int
  | 0 => List.replicate xs.length 0
  | k + 1 => (scK xs a q k).set k (mulV (el xs k) a q)
theorem scK_len (xs : List Int) (a q : Int) : ∀ k, (scK xs a q k).length = xs.length
  | 0 => List.length_replicate
  | k + 1 => by simp only [scK, List.length_set]; exact scK_len xs a q k
theorem scK_el (xs : List Int) (a q : Int) {j : Nat} : ∀ k, k ≤ xs.length → j < k → el (scK xs a q k) j = mulV (el xs j) a q
  | 0, _, h => absurd h (Nat.not_lt_zero _)
  | k + 1, hk, h => by
    simp only [scK]
    by_cases e : k = j
    · subst e
      exact el_set_same _ (by rw [scK_len]; omega)
    · rw [el_set_other _ e]
      exact scK_el xs a q k (by omega) (by omega)
theorem scK_all (xs : List Int) (a q : Int) : scK xs a q xs.length = scV xs a q := by
  apply el_ext
  · rw [scK_len, sc_len]
  · intro j hj
    rw [scK_len] at hj
    rw [scK_el xs a q _ (Nat.le_refl _) hj, sc_el hj]
/-- The products of the first elements. -/
def scL (xs : List Int) (a q : Int) (k : Nat) : List Int := (List.range k).map fun j => mulV (el xs j) a q
theorem scL_succ (xs : List Int) (a q : Int) (k : Nat) : scL xs a q (k + 1) = scL xs a q k ++ [mulV (el xs k) a q] := by simp [scL, List.range_succ]

set_option maxHeartbeats 1000000 in
theorem vscale_any (s : Option Addr) (c : Nat) (xs : List Int) (a q : Int) (w : World) (hx : xs.length ≤ 35184372088832) (rx : Rd w.heap.size w s xs) (fx : Fit xs) (fa : In64 a) :
    Calls Try.prog 63 #[.slice s xs.length c, .int .i64 a, .int .i64 q] w fun e w' => (∃ s' c', e = .returned (.slice s' xs.length c') ∧ Buf w.heap.size w' s' xs.length c' (scV xs a q)) ∧ Grew w w' := by
  have HX := Lib.hid rx
  have FX := Lib.hid fx
  have FA := Lib.hid fa
  have hmk := run_make_row' (P := Try.prog) 32 2 (.int .i64 0) 8 Try.underlying32 (by kernel_rfl) rfl .i64 .i64 xs.length (by omega) (by omega)
  have HB0 := Lib.hid (Buf.made w xs.length hx)
  have HG0 : Hid (Grew w (w.alloc (.cells (madeCells #[.int .i64 0] xs.length) 2))) := Lib.hid ((Grew.refl w).alloc _)
  clear rx fx fa
  go_enter Try.func63, Try.ntmps63
  go_wp2
  go_loopw [15] (fun i wr => ∃ k : Nat, k ≤ xs.length ∧ i = .int .i64 k ∧ Hid (Buf w.heap.size wr (some ⟨w.heap.size, 0, none⟩) xs.length xs.length (scK xs a q k)) ∧ Hid (Grew w wr)) (fun i _ => xs.length - (intOf i).toNat)
  case atStart => exact ⟨0, Nat.zero_le _, rfl, HB0, HG0⟩
  case round =>
    obtain ⟨k, hk, rfl, HB, HG⟩ := hrel
    by_cases hlt : k < xs.length
    · obtain ⟨b, off, rfl, _, hc⟩ := (Rd.below HX.out HG.out).at hlt
      have HF := Lib.hid (FX.out k hlt)
      have HS : Hid (scK xs a q (k + 1) = (scK xs a q k).set k (mulV (el xs k) a q)) := Lib.hid rfl
      generalize el xs k = x at hc HF HS
      go_wp2_with fail
      refine (mul_any x a q _ HF.out.1 HF.out.2 FA.out.1 FA.out.2).mono ?_
      rintro e w2 ⟨rfl, g2⟩
      generalize mulV x a q = m at HS
      have HB2 := Lib.hid (HB.out.grow g2)
      have HG2 := Lib.hid (HG.out.trans g2)
      obtain ⟨g, eg, hg, hgl, hx2, hfro⟩ := HB2.out.at hlt
      obtain rfl : w.heap.size = g := by injection eg with eg; injection eg
      clear eg g2
      go_wp2_with fail
      go_roundw
      case rel => exact ⟨k + 1, by omega, by go_num, Lib.hid (by rw [HS.out]; exact HB2.out.set k _), Lib.hid (Below.setCell (p := ⟨w.heap.size, k, none⟩) HG2.out (Nat.le_refl _) _)⟩
      case measure => simp [intOf]; omega
    · obtain rfl : k = xs.length := by omega
      have HE := Lib.hid (scK_all xs a q)
      go_wp2
      go_ret
      exact ⟨⟨_, _, rfl, by rw [← HE.out]; exact HB.out⟩, HG.out⟩

theorem own_slice {B n : Nat} {W : World} {v : Value} {zs : List Int} (h : W.ownsRow B 2 1 v n (zs.map (Value.int .i64))) : ∃ a cap, v = .slice a n cap ∧ Buf B W a n cap zs := by
  rcases h.2 with ⟨rfl, rfl⟩ | ⟨g, cap, cur, rfl, _⟩
  · exact ⟨none, 0, rfl, h⟩
  · exact ⟨_, _, rfl, h⟩

end Go.Proofs.Ytciocdjpgknihaa
