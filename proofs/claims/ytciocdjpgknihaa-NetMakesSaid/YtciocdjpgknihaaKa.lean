/- Layer 9, plain: the values, errors and the gradient of a network, number by number, as the program and as the reference reckon them. No program is named here. -/
import Derived.Test.YtciocdjpgknihaaKs
import Derived.Test.YtciocdjpgknihaaVf
import Derived.Test.YtciocdjpgknihaaHa
namespace Go.Proofs.Ytciocdjpgknihaa
open Go.RowKit

/-- The size of a layer; where the weights and the biases of a link begin. -/
def sz (zs : List Int) (k : Nat) : Nat := (el zs k).toNat
def oW (zs : List Int) (k : Nat) : Nat := (cntN zs k).toNat
def oB (zs : List Int) (k : Nat) : Nat := (cntN zs k + wgt zs k).toNat
def nP (zs : List Int) : Nat := (cnt zs).toNat
theorem sz_eq {zs : List Int} {k : Nat} (h : OkS zs) (hk : k < zs.length) : (sz zs k : Int) = el zs k := by
  have := h k hk
  unfold sz
  omega
theorem sz_in {zs : List Int} {k : Nat} (h : OkS zs) (hk : k < zs.length) : 1 ≤ sz zs k ∧ sz zs k ≤ 1048576 := by
  have := h k hk
  have := sz_eq h hk
  omega
theorem oW_eq {zs : List Int} {k : Nat} (h : OkS zs) (hk : k ≤ lnk zs) : (oW zs k : Int) = cntN zs k := by
  have := cntN_in h hk
  unfold oW
  omega
theorem wgt_sz {zs : List Int} {k : Nat} (h : OkS zs) (hk : k < lnk zs) : wgt zs k = (sz zs (k + 1) * sz zs k : Nat) := by
  have h1 := sz_eq h (k := k) (by unfold lnk at hk; omega)
  have h2 := sz_eq h (k := k + 1) (by unfold lnk at hk; omega)
  unfold wgt
  rw [← h1, ← h2, Int.mul_comm]
  push_cast
  rfl
theorem oB_eq {zs : List Int} {k : Nat} (h : OkS zs) (hk : k < lnk zs) : oB zs k = oW zs k + sz zs (k + 1) * sz zs k := by
  have h1 := oW_eq h (Nat.le_of_lt hk)
  have h2 := wgt_sz h hk
  unfold oB
  omega
theorem oW_next {zs : List Int} {k : Nat} (h : OkS zs) (hk : k < lnk zs) : oW zs (k + 1) = oB zs k + sz zs (k + 1) := by
  have h1 := oW_eq h (Nat.le_of_lt hk)
  have h2 := oB_eq h hk
  have h3 := wgt_sz h hk
  have h4 := sz_eq h (k := k + 1) (by unfold lnk at hk; omega)
  unfold oW
  simp only [cntN]
  omega
theorem oW_nP (zs : List Int) : oW zs (lnk zs) = nP zs := rfl
theorem oW_mono {zs : List Int} {j k : Nat} (h : OkS zs) (hj : j ≤ k) (hk : k ≤ lnk zs) : oW zs j ≤ oW zs k := by
  have := cntN_mono h hj hk
  have := oW_eq h hk
  have := oW_eq h (Nat.le_trans hj hk)
  omega
theorem oB_in {zs : List Int} {k : Nat} (h : OkS zs) (hk : k < lnk zs) : oB zs k + sz zs (k + 1) ≤ nP zs := by
  rw [← oW_next h hk, ← oW_nP]
  exact oW_mono h hk (Nat.le_refl _)
theorem nP_in {zs : List Int} (h : Right zs) : nP zs ≤ 1048576 := by
  have := h.2.2.2
  unfold nP
  omega
theorem nP_eq {zs : List Int} (h : OkS zs) : (nP zs : Int) = cnt zs := oW_eq h (Nat.le_refl _)
theorem w_in {zs : List Int} {k r c : Nat} (h : OkS zs) (hk : k < lnk zs) (hr : r < sz zs (k + 1)) (hc : c < sz zs k) : oW zs k + (r * sz zs k + c) < nP zs := by
  have h1 := oB_eq h hk
  have h2 := oB_in h hk
  have h3 := place_lt (C := sz zs k) hr hc
  omega
theorem layer_prod {zs : List Int} {k : Nat} (h : Right zs) (hk : k < lnk zs) : sz zs (k + 1) * sz zs k ≤ 1048576 := by
  have := oB_in h.2.2.1 hk
  have := oB_eq h.2.2.1 hk
  have := nP_in h
  omega
theorem lnk_in {zs : List Int} (h : Right zs) : 1 ≤ lnk zs ∧ lnk zs ≤ 15 ∧ zs.length = lnk zs + 1 := by
  have := h.1
  have := h.2.1
  unfold lnk
  omega

/-- A part of a list. -/
def seg (ps : List Int) (o n : Nat) : List Int := (List.range n).map fun j => el ps (o + j)
theorem seg_len (ps : List Int) (o n : Nat) : (seg ps o n).length = n := len_map _ _
theorem seg_el {ps : List Int} {o n j : Nat} (h : j < n) : el (seg ps o n) j = el ps (o + j) := el_map h
theorem seg_fit {ps : List Int} (h : Fit ps) (o n : Nat) : Fit (seg ps o n) := fit_map fun _ _ => el_in h _
theorem seg_rd {B b off o n : Nat} {W : World} {ps : List Int} (h : Rd B W (some ⟨b, off, none⟩) ps) (hn : o + n ≤ ps.length) : Rd B W (some ⟨b, off + o, none⟩) (seg ps o n) := by
  rcases h with rfl | ⟨b', off', e, hb, hc⟩
  · simp at hn
    obtain ⟨_, rfl⟩ := hn
    exact .inl rfl
  · obtain ⟨rfl, rfl⟩ : b = b' ∧ off = off' := by injection e with e; injection e with e1 e2; exact ⟨e1, e2⟩
    refine .inr ⟨b, off + o, rfl, hb, fun j hj => ?_⟩
    rw [seg_len] at hj
    rw [seg_el hj, Nat.add_assoc]
    exact hc _ (by omega)

/-- The product of a link's weights with values. -/
theorem mul_seg (ps : List Int) (o R C : Nat) (v : List Int) (q : Int) : mulL (seg ps o (R * C)) R C v q = (List.range R).map fun r => pS (fun c => el ps (o + (r * C + c))) v q C := by
  apply map_ext (mul_len _ _ _ _ _)
  intro r hr
  unfold mulL
  rw [el_map hr]
  exact pS_ext v q C (fun c hc => seg_el (place_lt hr hc))
theorem back_seg (ps : List Int) (o R C : Nat) (v : List Int) (q : Int) : mulL (turnL (seg ps o (R * C)) R C) C R v q = (List.range C).map fun c => pS (fun r => el ps (o + (r * C + c))) v q R := by
  rw [mul_turn]
  apply map_ext (len_map _ _)
  intro c hc
  rw [el_map hc]
  exact pS_ext v q R (fun r hr => seg_el (place_lt hr hc))

/-- A sum of the layer behind a link. -/
def zV (zs ps : List Int) (q : Int) (k : Nat) (v : List Int) (r : Nat) : Int := wrap64 (pS (fun c => el ps (oW zs k + (r * sz zs k + c))) v q (sz zs k) + el ps (oB zs k + r))
def sumL (zs ps : List Int) (q : Int) (k : Nat) (v : List Int) : List Int := (List.range (sz zs (k + 1))).map (zV zs ps q k v)
theorem sumL_len (zs ps : List Int) (q : Int) (k : Nat) (v : List Int) : (sumL zs ps q k v).length = sz zs (k + 1) := len_map _ _
theorem sumL_fit (zs ps : List Int) (q : Int) (k : Nat) (v : List Int) : Fit (sumL zs ps q k v) := fit_map fun _ _ => in_wrap _
theorem sum_two (zs ps : List Int) (q : Int) (k : Nat) (v : List Int) (a b : Option Addr) (c d : Nat) :
    tot [⟨a, c, mulL (seg ps (oW zs k) (sz zs (k + 1) * sz zs k)) (sz zs (k + 1)) (sz zs k) v q⟩, ⟨b, d, seg ps (oB zs k) (sz zs (k + 1))⟩] (sz zs (k + 1)) = sumL zs ps q k v := by
  apply map_ext (tot_len _ _)
  intro r hr
  rw [tot_el _ hr, mul_seg]
  show wrap64 (0 + el ((List.range (sz zs (k + 1))).map fun r => pS (fun c => el ps (oW zs k + (r * sz zs k + c))) v q (sz zs k)) r + el (seg ps (oB zs k) (sz zs (k + 1))) r) = _
  rw [el_map hr, seg_el hr, Int.zero_add]
  rfl
/-- The reference adds to the bias, product by product. -/
def zK (zs ps : List Int) (q : Int) (k : Nat) (v : List Int) (r : Nat) : Nat → Int
  | 0 => el ps (oB zs k + r)
  | c + 1 => wrap64 (zK zs ps q k v r c + mulV (el ps (oW zs k + (r * sz zs k + c))) (el v c) q)
theorem zK_eq {zs ps : List Int} (h : Fit ps) (q : Int) (k : Nat) (v : List Int) (r : Nat) : ∀ c, zK zs ps q k v r c = wrap64 (pS (fun c => el ps (oW zs k + (r * sz zs k + c))) v q c + el ps (oB zs k + r))
  | 0 => by
    simp only [zK, pS]
    rw [Int.zero_add, wrap_in (el_in h _)]
  | c + 1 => by
    simp only [zK, pS]
    rw [zK_eq h q k v r c, wrap_add, wrap_add]
    congr 1
    omega
theorem zK_all {zs ps : List Int} (h : Fit ps) (q : Int) (k : Nat) (v : List Int) (r : Nat) : zK zs ps q k v r (sz zs k) = zV zs ps q k v r := zK_eq h q k v r _

/-- What a value is of its sum. -/
def actV (zs : List Int) (k : Nat) (z : Int) : Int := if k + 1 < lnk zs then gateV z z else z
def valV (zs ps : List Int) (q : Int) (k : Nat) (v : List Int) (r : Nat) : Int := actV zs k (zV zs ps q k v r)
/-- The values of the layers. -/
def trV (zs ps : List Int) (q : Int) (x : List Int) : Nat → List Int
  | 0 => x
  | k + 1 => (List.range (sz zs (k + 1))).map (valV zs ps q k (trV zs ps q x k))
theorem gate_in {a g : Int} (h : In64 g) : In64 (gateV a g) := by
  unfold gateV
  split
  · exact h
  · exact in_zero
theorem valV_in (zs ps : List Int) (q : Int) (k : Nat) (v : List Int) (r : Nat) : In64 (valV zs ps q k v r) := by
  unfold valV actV
  split
  · exact gate_in (in_wrap _)
  · exact in_wrap _
theorem trV_len {zs ps : List Int} {q : Int} {x : List Int} (hx : x.length = sz zs 0) : ∀ k, (trV zs ps q x k).length = sz zs k
  | 0 => hx
  | _ + 1 => len_map _ _
theorem trV_fit {zs ps : List Int} {q : Int} {x : List Int} (hx : Fit x) : ∀ k, Fit (trV zs ps q x k)
  | 0 => hx
  | _ + 1 => fit_map fun _ _ => valV_in _ _ _ _ _ _
/-- Once the first j sums have become values. -/
def actK (zs : List Int) : Nat → List Int
  | 0 => zs
  | j + 1 => (actK zs j).set j (gateV (el zs j) (el zs j))
theorem actK_len (zs : List Int) : ∀ j, (actK zs j).length = zs.length
  | 0 => rfl
  | j + 1 => by simp only [actK, List.length_set]; exact actK_len zs j
theorem actK_el (zs : List Int) {i : Nat} : ∀ j, j ≤ zs.length → el (actK zs j) i = if i < j then gateV (el zs i) (el zs i) else el zs i
  | 0, _ => by rw [if_neg (by omega)]; rfl
  | j + 1, hj => by
    simp only [actK]
    by_cases e : j = i
    · subst e
      rw [el_set_same _ (by rw [actK_len]; omega), if_pos (by omega)]
    · rw [el_set_other _ e, actK_el zs j (by omega)]
      by_cases e2 : i < j
      · rw [if_pos e2, if_pos (by omega)]
      · rw [if_neg e2, if_neg (by omega)]
theorem act_yes {zs ps : List Int} {q : Int} {x : List Int} {k : Nat} (h : k + 1 < lnk zs) : actK (sumL zs ps q k (trV zs ps q x k)) (sz zs (k + 1)) = trV zs ps q x (k + 1) := by
  simp only [trV]
  apply map_ext (by rw [actK_len, sumL_len])
  intro j hj
  rw [actK_el _ _ (by rw [sumL_len]; exact Nat.le_refl _), if_pos hj]
  unfold sumL
  rw [el_map hj]
  unfold valV actV
  rw [if_pos h]
theorem act_no {zs ps : List Int} {q : Int} {x : List Int} {k : Nat} (h : ¬ k + 1 < lnk zs) : sumL zs ps q k (trV zs ps q x k) = trV zs ps q x (k + 1) := by
  simp only [trV]
  apply map_ext (sumL_len _ _ _ _ _)
  intro j hj
  unfold sumL
  rw [el_map hj]
  unfold valV actV
  rw [if_neg h]

/-- The errors of the layer that is d layers ahead of the last one. -/
def erD (zs ps : List Int) (q : Int) (x y : List Int) : Nat → List Int
  | 0 => (List.range (sz zs (lnk zs))).map fun i => wrap64 (el (trV zs ps q x (lnk zs)) i - el y i)
  | d + 1 => (List.range (sz zs (lnk zs - (d + 1)))).map fun c => gateV (el (trV zs ps q x (lnk zs - (d + 1))) c) (pS (fun r => el ps (oW zs (lnk zs - (d + 1)) + (r * sz zs (lnk zs - (d + 1)) + c))) (erD zs ps q x y d) q (sz zs (lnk zs - d)))
def erV (zs ps : List Int) (q : Int) (x y : List Int) (k : Nat) : List Int := erD zs ps q x y (lnk zs - k)
theorem erV_last (zs ps : List Int) (q : Int) (x y : List Int) : erV zs ps q x y (lnk zs) = (List.range (sz zs (lnk zs))).map fun i => wrap64 (el (trV zs ps q x (lnk zs)) i - el y i) := by
  unfold erV
  rw [Nat.sub_self]
  rfl
theorem erV_inner {zs ps : List Int} {q : Int} {x y : List Int} {k : Nat} (hk : k < lnk zs) :
    erV zs ps q x y k = (List.range (sz zs k)).map fun c => gateV (el (trV zs ps q x k) c) (pS (fun r => el ps (oW zs k + (r * sz zs k + c))) (erV zs ps q x y (k + 1)) q (sz zs (k + 1))) := by
  unfold erV
  obtain ⟨d, hd⟩ : ∃ d, lnk zs - k = d + 1 := ⟨lnk zs - k - 1, by omega⟩
  rw [hd]
  simp only [erD]
  rw [show lnk zs - (d + 1) = k by omega, show lnk zs - d = k + 1 by omega, show lnk zs - (k + 1) = d by omega]
theorem erV_len {zs ps : List Int} {q : Int} {x y : List Int} {k : Nat} (hk : k ≤ lnk zs) : (erV zs ps q x y k).length = sz zs k := by
  by_cases e : k = lnk zs
  · subst e
    rw [erV_last]
    exact len_map _ _
  · rw [erV_inner (by omega)]
    exact len_map _ _
theorem erV_fit {zs ps : List Int} {q : Int} {x y : List Int} {k : Nat} (hk : k ≤ lnk zs) : Fit (erV zs ps q x y k) := by
  by_cases e : k = lnk zs
  · subst e
    rw [erV_last]
    exact fit_map fun _ _ => in_wrap _
  · rw [erV_inner (by omega)]
    exact fit_map fun _ _ => gate_in (pS_in _ _ _ _)

/-- The loss. -/
def lossV (zs ps : List Int) (q : Int) (x y : List Int) : Int := pS (el (erV zs ps q x y (lnk zs))) (erV zs ps q x y (lnk zs)) q (sz zs (lnk zs))

/-- An element of the gradient; the gradient. -/
def grE (zs ps : List Int) (q : Int) (x y : List Int) (i : Int) : Int :=
  if (plT zs i).2.2 < 0 then el (erV zs ps q x y ((plT zs i).1.toNat + 1)) (plT zs i).2.1.toNat
  else mulV (el (erV zs ps q x y ((plT zs i).1.toNat + 1)) (plT zs i).2.1.toNat) (el (trV zs ps q x (plT zs i).1.toNat) (plT zs i).2.2.toNat) q
def grL (zs ps : List Int) (q : Int) (x y : List Int) : List Int := (List.range (nP zs)).map fun i : Nat => grE zs ps q x y i
theorem grL_len (zs ps : List Int) (q : Int) (x y : List Int) : (grL zs ps q x y).length = nP zs := len_map _ _
theorem grE_w {zs ps : List Int} {q : Int} {x y : List Int} {i : Int} {k r c : Nat} (h : OkS zs) (ha : At zs i k r (c : Int)) : grE zs ps q x y i = mulV (el (erV zs ps q x y (k + 1)) r) (el (trV zs ps q x k) c) q := by
  unfold grE
  rw [at_plT h ha]
  simp only [Int.toNat_natCast]
  rw [if_neg (by omega)]
theorem grE_b {zs ps : List Int} {q : Int} {x y : List Int} {i : Int} {k r : Nat} (h : OkS zs) (ha : At zs i k r (-1)) : grE zs ps q x y i = el (erV zs ps q x y (k + 1)) r := by
  unfold grE
  rw [at_plT h ha]
  simp only [Int.toNat_natCast]
  rw [if_pos (by omega)]
theorem at_w {zs : List Int} {k r c : Nat} (h : OkS zs) (hk : k < lnk zs) (hr : r < sz zs (k + 1)) (hc : c < sz zs k) : At zs ((oW zs k + (r * sz zs k + c) : Nat) : Int) k r (c : Int) := by
  have h1 := sz_eq h (k := k) (by unfold lnk at hk; omega)
  have h2 := sz_eq h (k := k + 1) (by unfold lnk at hk; omega)
  have h3 := oW_eq h (Nat.le_of_lt hk)
  refine ⟨hk, by omega, .inl ⟨by omega, by omega, ?_⟩⟩
  rw [← h1, ← h3]
  push_cast
  rfl
theorem at_b {zs : List Int} {k r : Nat} (h : OkS zs) (hk : k < lnk zs) (hr : r < sz zs (k + 1)) : At zs ((oB zs k + r : Nat) : Int) k r (-1) := by
  have h2 := sz_eq h (k := k + 1) (by unfold lnk at hk; omega)
  have h3 := oW_eq h (Nat.le_of_lt hk)
  have h4 := oB_eq h hk
  have h5 := wgt_sz h hk
  refine ⟨hk, by omega, .inr ⟨rfl, ?_⟩⟩
  rw [h5, ← h3, h4]
  push_cast
  rfl
theorem grE_in {zs ps : List Int} {q : Int} {x y : List Int} {i : Int} (h : OkS zs) (h0 : 0 ≤ i) (h1 : i < cnt zs) : In64 (grE zs ps q x y i) := by
  obtain ⟨k, r, c, ha⟩ := at_ex h h0 h1
  by_cases e : 0 ≤ c
  · obtain ⟨c, rfl⟩ : ∃ n : Nat, c = (n : Int) := ⟨c.toNat, by omega⟩
    rw [grE_w h ha]
    exact mulV_in _ _ _
  · obtain rfl : c = -1 := by have := at_low ha; omega
    rw [grE_b h ha]
    exact el_in (erV_fit (by have := ha.1; omega)) _
theorem grL_fit {zs : List Int} (ps : List Int) (q : Int) (x y : List Int) (h : OkS zs) : Fit (grL zs ps q x y) := fit_map fun j hj => grE_in h (by omega) (by have := nP_eq h; omega)

/-- What is in the gradient once the first k links are done. -/
def grN (zs ps : List Int) (q : Int) (x y : List Int) (k : Nat) : List Int := (List.range (nP zs)).map fun i : Nat => if i < oW zs k then grE zs ps q x y i else 0
theorem grN_len (zs ps : List Int) (q : Int) (x y : List Int) (k : Nat) : (grN zs ps q x y k).length = nP zs := len_map _ _
theorem grN_zero (zs ps : List Int) (q : Int) (x y : List Int) : grN zs ps q x y 0 = List.replicate (nP zs) 0 := by
  symm
  apply map_ext List.length_replicate
  intro j hj
  rw [el_zeros, if_neg (by simp [oW, cntN])]
theorem grN_all (zs ps : List Int) (q : Int) (x y : List Int) : grN zs ps q x y (lnk zs) = grL zs ps q x y := by
  apply map_ext (grN_len _ _ _ _ _ _)
  intro j hj
  unfold grN
  rw [el_map hj, if_pos (by rw [oW_nP]; exact hj)]
theorem grN_step {zs ps : List Int} {q : Int} {x y : List Int} {k : Nat} (h : OkS zs) (hx : x.length = sz zs 0) (hk : k < lnk zs) :
    layL (layL (grN zs ps q x y k) (oW zs k) (outL (erV zs ps q x y (k + 1)) (trV zs ps q x k) q)) (oB zs k) (erV zs ps q x y (k + 1)) = grN zs ps q x y (k + 1) := by
  have he : (erV zs ps q x y (k + 1)).length = sz zs (k + 1) := erV_len (by omega)
  have hv : (trV zs ps q x k).length = sz zs k := trV_len hx k
  have ho : (outL (erV zs ps q x y (k + 1)) (trV zs ps q x k) q).length = sz zs (k + 1) * sz zs k := by rw [out_len, he, hv]
  have hB := oB_eq h hk
  have hN := oW_next h hk
  have hin := oB_in h hk
  have h1 : oW zs k + (outL (erV zs ps q x y (k + 1)) (trV zs ps q x k) q).length ≤ (grN zs ps q x y k).length := by rw [ho, grN_len]; omega
  have hl := lay_len h1
  rw [grN_len] at hl
  have h2 : oB zs k + (erV zs ps q x y (k + 1)).length ≤ (layL (grN zs ps q x y k) (oW zs k) (outL (erV zs ps q x y (k + 1)) (trV zs ps q x k) q)).length := by rw [he, hl]; omega
  unfold grN
  apply map_ext
  · have := lay_len h2
    unfold grN at this hl
    rw [this, hl]
  intro j hj
  have key : el (layL (layL (grN zs ps q x y k) (oW zs k) (outL (erV zs ps q x y (k + 1)) (trV zs ps q x k) q)) (oB zs k) (erV zs ps q x y (k + 1))) j = if j < oW zs (k + 1) then grE zs ps q x y j else 0 := by
    by_cases c1 : oB zs k ≤ j ∧ j < oB zs k + sz zs (k + 1)
    · rw [lay_in h2 c1.1 (by rw [he]; exact c1.2), if_pos (by omega)]
      have ha := at_b h hk (r := j - oB zs k) (by omega)
      rw [show oB zs k + (j - oB zs k) = j by omega] at ha
      rw [grE_b h ha]
    · rw [lay_out h2 (by rw [he]; omega)]
      by_cases c2 : oW zs k ≤ j ∧ j < oB zs k
      · rw [lay_in h1 c2.1 (by rw [ho]; omega), if_pos (by omega)]
        have hC : 0 < sz zs k := (sz_in h (by unfold lnk at hk; omega)).1
        have hr : (j - oW zs k) / sz zs k < sz zs (k + 1) := (Nat.div_lt_iff_lt_mul hC).2 (by omega)
        have hc : (j - oW zs k) % sz zs k < sz zs k := Nat.mod_lt _ hC
        have hd : (j - oW zs k) / sz zs k * sz zs k + (j - oW zs k) % sz zs k = j - oW zs k := by rw [Nat.mul_comm]; exact Nat.div_add_mod _ _
        have ha := at_w h hk hr hc
        rw [hd, show oW zs k + (j - oW zs k) = j by omega] at ha
        have hx2 := out_el (y := erV zs ps q x y (k + 1)) (x := trV zs ps q x k) (q := q) (r := (j - oW zs k) / sz zs k) (c := (j - oW zs k) % sz zs k) (by rw [he]; exact hr) (by rw [hv]; exact hc)
        rw [hv, hd] at hx2
        rw [hx2, grE_w h ha]
      · rw [lay_out h1 (by rw [ho]; omega)]
        unfold grN
        rw [el_map hj]
        by_cases c3 : j < oW zs k
        · rw [if_pos c3, if_pos (by omega)]
        · rw [if_neg c3, if_neg (by omega)]
  unfold grN at key
  exact key
end Go.Proofs.Ytciocdjpgknihaa
