/- Sums of vectors: accept, fold, Sum and Add of the package: each returns, or leaves, the sums modulo 2^64 of the elements with the same index. Conditions: the vectors have at most 2^45 elements, each within the bounds of int64. -/
import Derived.Test.YtciocdjpgknihaaVd
import Derived.Test.YtciocdjpgknihaaXe
namespace Go.Proofs.Ytciocdjpgknihaa
open Go.RowKit

/-- The first list, to whose first elements those of the second have been added. -/
def accK (xs ys : List Int) : Nat → List Int
  | 0 => xs
  | k + 1 => (accK xs ys k).set k (wrap64 (el xs k + el ys k))
theorem acc_len (xs ys : List Int) : ∀ k, (accK xs ys k).length = xs.length
  | 0 => rfl
  | k + 1 => by simp only [accK, List.length_set]; exact acc_len xs ys k
theorem acc_el (xs ys : List Int) : ∀ k j, k ≤ xs.length → el (accK xs ys k) j = if j < k then wrap64 (el xs j + el ys j) else el xs j := by
  intro k
  induction k with
  | zero => intro j _; rfl
  | succ k ih =>
    intro j hk
    simp only [accK]
    by_cases e : k = j
    · subst e
      rw [el_set_same _ (by rw [acc_len]; omega), if_pos (by omega)]
    · rw [el_set_other _ e, ih j (by omega)]
      by_cases h : j < k
      · rw [if_pos h, if_pos (by omega)]
      · rw [if_neg h, if_neg (by omega)]

set_option maxHeartbeats 1000000 in
theorem accept_any (B : Nat) (a a' : Option Addr) (n cap c' : Nat) (xs ys : List Int) (w : World) (hl : ys.length ≤ 35184372088832) (hn : ys.length ≤ n) (hB : Buf B w a n cap xs) (hR : Rd B w a' ys) (hBw : B ≤ w.heap.size) :
    Calls Try.prog 89 #[.slice a n cap, .slice a' ys.length c'] w fun e w' => e = .returned (.tuple #[]) ∧ Buf B w' a n cap (accK xs ys ys.length) ∧ Below B w w' := by
  have HR := Lib.hid hR
  have HB0 := Lib.hid hB
  have HL : Hid (xs.length = n) := Lib.hid hB.len
  clear hR hB
  go_enter Try.func89, Try.ntmps89
  go_wp2
  go_loopw [8] (fun i wr => ∃ k : Nat, k ≤ ys.length ∧ i = .int .i64 k ∧ Hid (Buf B wr a n cap (accK xs ys k)) ∧ Hid (Below B w wr)) (fun i _ => ys.length - (intOf i).toNat)
  case atStart => exact ⟨0, Nat.zero_le _, rfl, HB0, Lib.hid (Below.refl _ _)⟩
  case round =>
    obtain ⟨k, hk, rfl, HB, HW⟩ := hrel
    by_cases hlt : k < ys.length
    · obtain ⟨b, off, rfl, hb, hc⟩ := (Rd.below HR.out HW.out).at hlt
      obtain ⟨g, rfl, hg, hgl, hx, _⟩ := HB.out.at (k := k) (by omega)
      rw [acc_el xs ys k k (by rw [HL.out]; omega), if_neg (Nat.lt_irrefl k)] at hx
      have hkn : k < n := by omega
      have HS : Hid (accK xs ys (k + 1) = (accK xs ys k).set k (wrap64 (el xs k + el ys k))) := Lib.hid rfl
      generalize el ys k = y at hc HS
      generalize el xs k = x at hx HS
      go_wp2_with fail
      refine (pair_any _ x y).mono ?_
      rintro e w8 ⟨rfl, g8⟩
      have HB8 := Lib.hid (HB.out.grow g8)
      have HW8 := Lib.hid (Below.trans HW.out (Below.mono g8 (Nat.le_trans hBw HW.out.size)))
      obtain ⟨g', e', _, _, hx8, hf8⟩ := HB8.out.at (k := k) (by omega)
      obtain rfl : g = g' := by injection e' with e'; injection e'
      clear e'
      go_wp2_with fail
      go_roundw
      case rel => exact ⟨k + 1, by omega, by go_num, Lib.hid (by rw [HS.out]; exact HB8.out.set k _), Lib.hid (HW8.out.setCell hg _)⟩
      case measure => simp [intOf]; omega
    · obtain rfl : k = ys.length := by omega
      go_wp2
      go_end0
      exact ⟨rfl, HB.out, HW.out⟩

/-- The sum of the elements with one index of the first vectors. -/
def colsum (vs : List Vec) (j : Nat) : Nat → Int
  | 0 => 0
  | k + 1 => colsum vs j k + el (va vs k).zs j
/-- The list of the sums. -/
def tot (vs : List Vec) (n : Nat) : List Int := (List.range n).map fun j => wrap64 (colsum vs j vs.length)
theorem tot_len (vs : List Vec) (n : Nat) : (tot vs n).length = n := by simp [tot]
theorem tot_el (vs : List Vec) {n j : Nat} (h : j < n) : el (tot vs n) j = wrap64 (colsum vs j vs.length) := by simp [tot, el, h]
/-- Whether all vectors have the same length, and their sum, or nothing. -/
def okV (vs : List Vec) : Bool := !mis (va vs 0).zs.length vs vs.length
def sumV (vs : List Vec) : List Int := if okV vs then tot vs (va vs 0).zs.length else []
theorem sumV_yes {vs : List Vec} (h : okV vs = true) : sumV vs = tot vs (va vs 0).zs.length := by unfold sumV; rw [if_pos h]
theorem sumV_no {vs : List Vec} (h : okV vs = false) : sumV vs = [] := by unfold sumV; rw [h]; rfl

/-- The first vector, to which the next ones have been added. -/
def foldK (vs : List Vec) : Nat → List Int
  | 0 => (va vs 0).zs
  | k + 1 => accK (foldK vs k) (va vs (k + 1)).zs (va vs (k + 1)).zs.length
theorem fold_len {vs : List Vec} {n : Nat} (h0 : (va vs 0).zs.length = n) : ∀ k, (foldK vs k).length = n
  | 0 => h0
  | k + 1 => by simp only [foldK, acc_len]; exact fold_len h0 k
theorem wrap_add (a b : Int) : wrap64 (wrap64 a + b) = wrap64 (a + b) := by unfold wrap64; omega
theorem wrap_in {z : Int} (h : In64 z) : wrap64 z = z := wrap64_id h.1 h.2
theorem fold_el {vs : List Vec} {n : Nat} (h0 : ∀ i, i < vs.length → (va vs i).zs.length = n) (hf : ∀ i, i < vs.length → Fit (va vs i).zs) {j : Nat} (hj : j < n) : ∀ k, k < vs.length → el (foldK vs k) j = wrap64 (colsum vs j (k + 1)) := by
  intro k
  induction k with
  | zero =>
    intro hk
    have h1 := h0 0 hk
    simp only [foldK, colsum]
    rw [Int.zero_add, wrap_in (hf 0 hk j (by omega))]
  | succ k ih =>
    intro hk
    simp only [foldK]
    have h1 := h0 (k + 1) hk
    rw [acc_el _ _ _ _ (by rw [fold_len (h0 0 (by omega)) k, h1]; exact Nat.le_refl _), if_pos (by omega), ih (by omega), wrap_add]
    rfl
theorem fold_tot {vs : List Vec} {n m : Nat} (hm : m + 1 = vs.length) (h0 : ∀ i, i < vs.length → (va vs i).zs.length = n) (hf : ∀ i, i < vs.length → Fit (va vs i).zs) : foldK vs m = tot vs n := by
  apply el_ext
  · rw [fold_len (h0 0 (by omega)), tot_len]
  · intro j hj
    rw [fold_len (h0 0 (by omega))] at hj
    rw [fold_el h0 hf hj m (by omega), tot_el vs hj, hm]

set_option maxHeartbeats 2000000 in
theorem fold_any (l : Option Addr) (c n : Nat) (vs : List Vec) (w : World) (hs : Short vs) (hl : vs.length ≤ 35184372088832) (h1 : 0 < vs.length) (hc : vs.length ≤ c) (hH : Heads w.heap.size w l vs) (hB : Bodies w.heap.size w vs)
    (h0 : ∀ i, i < vs.length → (va vs i).zs.length = n) (hf : ∀ i, i < vs.length → Fit (va vs i).zs) :
    Calls Try.prog 88 #[.func (.func 89) #[] #[], .slice l vs.length c] w fun e w' => (∃ g, e = .returned (.slice (some ⟨g, 0, none⟩) n n) ∧ Buf w.heap.size w' (some ⟨g, 0, none⟩) n n (tot vs n)) ∧ Grew w w' := by
  have HS := Lib.hid hs
  have HH := Lib.hid hH
  have HB := Lib.hid hB
  have HN := Lib.hid h0
  have HF := Lib.hid hf
  obtain ⟨b, off, rfl, hb, hcell⟩ := hH.at h1
  have hn0 : (va vs 0).zs.length = n := h0 0 h1
  have hsn : n ≤ 35184372088832 := by rw [← hn0]; exact hs 0 h1
  have hR0 := hB 0 h1
  have hcl := vclone_any (va vs 0).a (va vs 0).cap (va vs 0).zs w (hs 0 h1) (hB 0 h1)
  rw [hn0] at hcell hcl
  rw [Nat.add_zero] at hcell
  have HC := Lib.hid hcl
  have hbw : b < w.heap.size := hb
  clear hs hH hB h0 hf hcl hn0
  have hc1 : 1 ≤ c := by omega
  by_cases hcc : c = 1
  · subst hcc
    go_enter Try.func88, Try.ntmps88
    go_wp2_with fail
    refine HC.out.mono ?_
    rintro e w1 ⟨rfl, B1, g1⟩
    have HB1 := Lib.hid B1
    have HG1 := Lib.hid g1
    clear B1 g1
    go_wp2
    go_loopw [15] (fun i wr => ∃ k : Nat, k + 1 ≤ vs.length ∧ i = .int .i64 k ∧ Hid (Buf w.heap.size wr (some ⟨w.heap.size, 0, none⟩) n n (foldK vs k)) ∧ Hid (Grew w wr)) (fun i _ => vs.length - (intOf i).toNat)
    case atStart => exact ⟨0, h1, rfl, HB1, HG1⟩
    case round =>
      obtain ⟨k, hk, rfl, HBk, HGk⟩ := hrel
      by_cases hlt : k < vs.length - 1
      · exact absurd hlt (by omega)
      · have HE : Hid (foldK vs k = tot vs n) := Lib.hid (fold_tot (by omega) HN.out HF.out)
        have hkk : k = vs.length - 1 := by omega
        go_wp2
        go_ret
        exact ⟨⟨_, rfl, by rw [← HE.out]; exact HBk.out⟩, HGk.out⟩
  · go_enter Try.func88, Try.ntmps88
    go_wp2_with fail
    refine HC.out.mono ?_
    rintro e w1 ⟨rfl, B1, g1⟩
    have HB1 := Lib.hid B1
    have HG1 := Lib.hid g1
    clear B1 g1
    go_wp2
    go_loopw [15] (fun i wr => ∃ k : Nat, k + 1 ≤ vs.length ∧ i = .int .i64 k ∧ Hid (Buf w.heap.size wr (some ⟨w.heap.size, 0, none⟩) n n (foldK vs k)) ∧ Hid (Grew w wr)) (fun i _ => vs.length - (intOf i).toNat)
    case atStart => exact ⟨0, h1, rfl, HB1, HG1⟩
    case round =>
      obtain ⟨k, hk, rfl, HBk, HGk⟩ := hrel
      by_cases hlt : k < vs.length - 1
      · obtain ⟨b', off', e', _, hc'⟩ := (Heads.below HH.out HGk.out).at (k := k + 1) (by omega)
        obtain ⟨rfl, rfl⟩ : b = b' ∧ off = off' := by injection e' with e'; injection e' with e1 e2; exact ⟨e1, e2⟩
        rw [show off + (k + 1) = off + 1 + k from by omega] at hc'
        clear e'
        have HR := Lib.hid (Bodies.below HB.out HGk.out (k + 1) (by omega))
        have HL := Lib.hid (HN.out (k + 1) (by omega))
        have hs1 := HS.out (k + 1) (by omega)
        have HK : Hid (foldK vs (k + 1) = accK (foldK vs k) (va vs (k + 1)).zs (va vs (k + 1)).zs.length) := Lib.hid rfl
        generalize va vs (k + 1) = v at hc' HR HL HK hs1
        go_wp2_with fail
        refine (accept_any w.heap.size _ _ n n _ _ v.zs _ hs1 (by rw [HL.out]; exact Nat.le_refl _) HBk.out HR.out HGk.out.size).mono ?_
        rintro e w2 ⟨rfl, B2, g2⟩
        have HB2 := Lib.hid B2
        have HG2 := Lib.hid (Below.trans HGk.out g2)
        clear B2 g2
        go_wp2_with fail
        go_roundw
        case rel => exact ⟨k + 1, by omega, by go_num, Lib.hid (by rw [HK.out]; exact HB2.out), HG2⟩
        case measure => simp [intOf]; omega
      · have HE : Hid (foldK vs k = tot vs n) := Lib.hid (fold_tot (by omega) HN.out HF.out)
        have hkk : k = vs.length - 1 := by omega
        go_wp2
        go_ret
        exact ⟨⟨_, rfl, by rw [← HE.out]; exact HBk.out⟩, HGk.out⟩
end Go.Proofs.Ytciocdjpgknihaa
