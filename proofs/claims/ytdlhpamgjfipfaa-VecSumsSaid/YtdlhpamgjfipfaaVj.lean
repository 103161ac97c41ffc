/- Sum of the reference: it returns the sum of the vectors and whether there is one. Conditions: the vectors have at most 2^45 elements, each within the bounds of int64. -/
import Derived.Test.YtdlhpamgjfipfaaVi
namespace Go.Proofs.Ytdlhpamgjfipfaa
open Go.RowKit

/-- What the reference has added up after some vectors. -/
def rK (vs : List Vec) (n : Nat) : Nat → List Int
  | 0 => List.replicate n 0
  | i + 1 => accK (rK vs n i) (va vs i).zs n
theorem rK_len (vs : List Vec) (n : Nat) : ∀ i, (rK vs n i).length = n
  | 0 => List.length_replicate
  | i + 1 => by simp only [rK, acc_len]; exact rK_len vs n i
theorem rK_el (vs : List Vec) (n : Nat) {j : Nat} (hj : j < n) : ∀ i, el (rK vs n i) j = wrap64 (colsum vs j i)
  | 0 => by simp [rK, el, colsum, hj, wrap64]
  | i + 1 => by
    simp only [rK, colsum]
    rw [acc_el _ _ _ _ (by rw [rK_len]; exact Nat.le_refl _), if_pos hj, rK_el vs n hj i, wrap_add]
theorem rK_tot (vs : List Vec) (n : Nat) : rK vs n vs.length = tot vs n := by
  apply el_ext
  · rw [rK_len, tot_len]
  · intro j hj
    rw [rK_len] at hj
    rw [rK_el vs n hj, tot_el vs hj]
theorem mis_here {n : Nat} {vs : List Vec} {i : Nat} (hi : i < vs.length) (h : ¬ (va vs i).zs.length = n) : mis n vs vs.length = true :=
  mis_later (m := i + 1) (by simp only [mis]; rw [decide_eq_false (fun e => h e.symm)]; simp) (by omega)
theorem mis_none {n : Nat} {vs : List Vec} : ∀ k, (∀ j, j < k → (va vs j).zs.length = n) → mis n vs k = false
  | 0, _ => rfl
  | k + 1, h => by simp only [mis]; rw [mis_none k (fun j hj => h j (by omega)), decide_eq_true (h k (by omega)).symm]; rfl
theorem till_lens {n i : Nat} {vs : List Vec} (h : ∀ j, j < i → (va vs j).zs.length = n) (h1 : (va vs i).zs.length = n) : ∀ j, j < i + 1 → (va vs j).zs.length = n := by
  intro j hj
  by_cases e : j = i
  · rw [e]; exact h1
  · exact h j (by omega)

set_option maxHeartbeats 4000000 in
theorem rvsum_any (l : Option Addr) (c : Nat) (vs : List Vec) (w : World) (h : Lot w l c vs) :
    Calls Try.prog 13 #[.slice l vs.length c] w fun e w' => (∃ a cap, e = .returned (.tuple #[.slice a (sumV vs).length cap, .bool (okV vs)]) ∧ Buf w.heap.size w' a (sumV vs).length cap (sumV vs)) ∧ Grew w w' := by
  have HL := Lib.hid h
  clear h
  by_cases h0 : vs.length = 0
  · obtain rfl : vs = [] := List.eq_nil_of_length_eq_zero h0
    have hl : ([] : List Vec).length = 0 := rfl
    clear HL h0
    go_enter Try.func13, Try.ntmps13
    go_wp2
    go_ret2
    exact ⟨⟨none, 0, rfl, Buf.none _ _⟩, Grew.refl _⟩
  · obtain ⟨b, off, rfl, hb, hc⟩ := HL.out.heads.at (k := 0) (by omega)
    rw [Nat.add_zero] at hc
    have hs0 := HL.out.short 0 (by omega)
    have hvl := HL.out.few
    obtain ⟨n, hn⟩ : ∃ n, (va vs 0).zs.length = n := ⟨_, rfl⟩
    have HN := Lib.hid hn
    rw [hn] at hc hs0
    clear hn
    have hmk := run_make_row' (P := Try.prog) 25 2 (.int .i64 0) 8 Try.underlying25 (by kernel_rfl) rfl .i64 .i64 n (by omega) (by omega)
    have HB0 := Lib.hid (Buf.made w n hs0)
    have HG0 : Hid (Grew w (w.alloc (.cells (madeCells #[.int .i64 0] n) 2))) := Lib.hid ((Grew.refl w).alloc _)
    go_enter Try.func13, Try.ntmps13
    go_wp2
    go_loopw [5] (fun s wr => ∃ i : Nat, i ≤ vs.length ∧ s = .int .i64 i ∧ Hid (Buf w.heap.size wr (some ⟨w.heap.size, 0, none⟩) n n (rK vs n i)) ∧ Hid (Grew w wr) ∧ Hid (∀ j, j < i → (va vs j).zs.length = n)) (fun s _ => vs.length - (intOf s).toNat)
    case atStart => exact ⟨0, Nat.zero_le _, rfl, HB0, HG0, Lib.hid (fun j hj => absurd hj (Nat.not_lt_zero _))⟩
    case round =>
      obtain ⟨i, hi, rfl, HB, HG, HI⟩ := hrel
      by_cases hlt : i < vs.length
      · obtain ⟨b', off', e', _, hc'⟩ := (Heads.below HL.out.heads HG.out).at hlt
        obtain ⟨rfl, rfl⟩ : b = b' ∧ off = off' := by injection e' with e'; injection e' with e1 e2; exact ⟨e1, e2⟩
        clear e'
        by_cases hlen : (va vs i).zs.length = n
        · have HI' := Lib.hid (till_lens HI.out hlen)
          rw [hlen] at hc'
          have HR := Lib.hid (HL.out.bodies i hlt)
          have HLi := Lib.hid hlen
          have HK : Hid (rK vs n (i + 1) = accK (rK vs n i) (va vs i).zs n) := Lib.hid rfl
          have HKl := Lib.hid (rK_len vs n i)
          clear hlen
          go_wp2
          go_loopw [6] (fun s wx => ∃ k : Nat, k ≤ n ∧ s = .int .i64 k ∧ Hid (Buf w.heap.size wx (some ⟨w.heap.size, 0, none⟩) n n (accK (rK vs n i) (va vs i).zs k)) ∧ Hid (Grew w wx)) (fun s _ => n - (intOf s).toNat)
          case atStart => exact ⟨0, Nat.zero_le _, rfl, HB, HG⟩
          case round =>
            obtain ⟨k, hk, rfl, HBk, HGk⟩ := hrel
            by_cases hkn : k < n
            · obtain ⟨b2, off2, ea, hb2, hcy⟩ := (Rd.below HR.out HGk.out).at (k := k) (by rw [HLi.out]; exact hkn)
              obtain ⟨b3, off3, e3, _, hcx⟩ := (Heads.below HL.out.heads HGk.out).at hlt
              obtain ⟨rfl, rfl⟩ : b = b3 ∧ off = off3 := by injection e3 with e3; injection e3 with e1 e2; exact ⟨e1, e2⟩
              rw [ea, HLi.out] at hcx
              clear e3
              obtain ⟨g, eg, hg, hgl, hx, hfro⟩ := HBk.out.at hkn
              obtain rfl : w.heap.size = g := by injection eg with eg; injection eg
              rw [acc_el _ _ _ _ (by rw [HKl.out]; omega), if_neg (Nat.lt_irrefl k)] at hx
              have HS : Hid (accK (rK vs n i) (va vs i).zs (k + 1) = (accK (rK vs n i) (va vs i).zs k).set k (wrap64 (el (rK vs n i) k + el (va vs i).zs k))) := Lib.hid rfl
              clear eg ea hc'
              generalize el (va vs i).zs k = y at hcy HS
              generalize el (rK vs n i) k = x at hx HS
              go_wp2
              go_region
              go_wp2
              go_roundw
              case rel => exact ⟨k + 1, by omega, by go_num, Lib.hid (by rw [HS.out]; exact (HBk.out.set k _)), Lib.hid (Below.drew (Below.setCell (p := ⟨w.heap.size, k, none⟩) HGk.out (Nat.le_refl _) _))⟩
              case measure => simp [intOf]; omega
            · obtain rfl : k = n := by omega
              go_wp2
              go_roundw
              case rel => exact ⟨i + 1, by omega, by go_num, Lib.hid (by rw [HK.out]; exact HBk.out), HGk, HI'⟩
              case measure => simp [intOf]; omega
        · have HO : Hid (okV vs = false) := Lib.hid (by unfold okV; rw [HN.out, mis_here hlt hlen]; rfl)
          go_wp2
          go_ret2
          rw [sumV_no HO.out, HO.out]
          exact ⟨⟨none, 0, rfl, Buf.none _ _⟩, HG.out⟩
      · obtain rfl : i = vs.length := by omega
        have HO : Hid (okV vs = true) := Lib.hid (by unfold okV; rw [HN.out, mis_none _ HI.out]; rfl)
        have HV : Hid (sumV vs = rK vs n vs.length) := Lib.hid (by rw [sumV_yes HO.out, HN.out, rK_tot])
        have HV2 : Hid ((sumV vs).length = n) := Lib.hid (by rw [HV.out, rK_len])
        go_wp2
        go_ret2
        rw [HV2.out, HV.out, HO.out]
        exact ⟨⟨_, _, rfl, HB.out⟩, HG.out⟩

/-- The sum of two vectors does not hang on where they lie. -/
theorem two_sum (xs ys : List Int) : ∃ (o : Bool) (s : List Int), (o = true → s.length = xs.length) ∧ ∀ a c a' c', okV [⟨a, c, xs⟩, ⟨a', c', ys⟩] = o ∧ sumV [⟨a, c, xs⟩, ⟨a', c', ys⟩] = s := by
  refine ⟨okV [⟨none, 0, xs⟩, ⟨none, 0, ys⟩], sumV [⟨none, 0, xs⟩, ⟨none, 0, ys⟩], fun h => ?_, fun a c a' c' => ⟨?_, ?_⟩⟩
  · rw [sumV_yes h, tot_len]; rfl
  · rw [ok_two, ok_two]
  · rfl
theorem other_row {B B' n m cap cap' : Nat} {W W' : World} {a b : Option Addr} {xs ys : List Int} (ha : Buf B W a n cap xs) (hb : Buf B' W' b m cap' ys) (h : W.heap.size ≤ B') : (Value.slice b m cap').ownBlock = none ∨ (Value.slice b m cap').ownBlock ≠ (Value.slice a n cap).ownBlock := by
  cases hq : (Value.slice b m cap').ownBlock with
  | none => exact .inl rfl
  | some k =>
    refine .inr fun e => ?_
    have h1 := (World.ownsRow.lt hb k hq).1
    have h2 := (World.ownsRow.lt ha k e.symm).2
    omega
theorem below_grown_row {B n cap : Nat} {W w : World} {w' : World} {a : Option Addr} {xs : List Int} (h : Below B W w) (hs : B ≤ w.heap.size) (ha : Buf B w a n cap xs) (g : w.grownBy w' (Value.slice a n cap).ownBlock) : Below B W w' :=
  Below.grown h g hs (fun k hk => (World.ownsRow.lt ha k hk).1)
end Go.Proofs.Ytdlhpamgjfipfaa
