/- Package perm: Shuffle where it makes a permutation; slices.Equal of draws; the statement's alive. Condition: at most 2^44 draws. -/
import Derived.Test.YtdcpankbolfmiaaTf
import Derived.Test.YtdcpankbolfmiaaSe
namespace Go.Proofs.Ytdcpankbolfmiaa
open Go.RowKit

/-- The numbers below n when m of the exchanges are done. -/
def shufK (n : Nat) (js : List Int) : Nat → List Int
  | 0 => nums n
  | m + 1 => swapL (shufK n js m) (n - 1 - m) (el js m).toNat
theorem shufK_len (n : Nat) (js : List Int) : ∀ m, (shufK n js m).length = n
  | 0 => nums_len n
  | m + 1 => by rw [shufK, swapL_len, shufK_len n js m]
/-- The draws for n numbers, as they are used. -/
def drawsB (zs : List Int) (k n : Nat) : List Int := outK zs k (bnds n) (n - 1)
theorem drawsB_len (zs : List Int) (k n : Nat) : (drawsB zs k n).length = n - 1 := outK_len _ _ _ _
theorem drawsB_at {zs : List Int} {k n m : Nat} (h : m < n - 1) : el (drawsB zs k n) m = el zs (k + m) % ((n : Int) - (m : Int)) := by
  unfold drawsB
  rw [outK_at h, bnds_el h]
theorem drawsB_in {zs : List Int} {k n m : Nat} (h : m < n - 1) : ∃ j : Nat, j < n ∧ el (drawsB zs k n) m = j := by
  rw [drawsB_at h]
  have h1 := Int.emod_nonneg (el zs (k + m)) (show (n : Int) - (m : Int) ≠ 0 by omega)
  have h2 := Int.emod_lt_of_pos (el zs (k + m)) (show 0 < (n : Int) - (m : Int) by omega)
  exact ⟨(el zs (k + m) % ((n : Int) - (m : Int))).toNat, by omega, by omega⟩
theorem bnds_good (n : Nat) : badB (bnds n) = false := badB_no (fun j hj => by rw [bnds_len] at hj; rw [bnds_el hj]; omega)

set_option maxHeartbeats 2000000 in
theorem shuffle_yes {D b k n : Nat} {zs : List Int} {w : World} (hn : n ≤ 1048576) (hl : zs.length ≤ 17592186044416) (hu : U64 zs) (h : Stm D w b zs k) (hk : k + (n - 1) ≤ zs.length) :
    Calls Try.prog 34 #[.int .i64 n, .pointer (some ⟨b, 0, none⟩)] w fun e w' => (∃ a' c', e = .returned (.tuple #[.slice a' n c', .bool true]) ∧ BufK .i64 3 w.heap.size w' a' n c' (shufK n (drawsB zs k n) (n - 1))) ∧ Stm D w' b zs (k + (n - 1)) ∧ w.grownBy w' (some b) := by
  have HBd := Lib.hid (bounds_any n w (by omega))
  have HS := Lib.hid h
  have hlt := h.lt
  obtain ⟨m, hm⟩ : ∃ m, m = n - 1 := ⟨_, rfl⟩
  have HE := Lib.hid hm
  have HLb : Hid ((bnds n).length = m) := Lib.hid (by rw [hm]; exact bnds_len n)
  have HOk : Hid (okM zs k (bnds n) = true) := Lib.hid (okM_good (bnds_good n) (by rw [bnds_len]; exact hk))
  have HRes : Hid (resM zs k (bnds n) = drawsB zs k n) := Lib.hid (by unfold resM drawsB; rw [HOk.out, if_pos rfl, bnds_len])
  have HNx : Hid (nxM zs k (bnds n) = k + m) := Lib.hid (by unfold nxM; rw [HOk.out, if_pos rfl, bnds_len, hm])
  have HIn : Hid (∀ j, j < m → ∃ i : Nat, i < n ∧ el (drawsB zs k n) j = i) := Lib.hid (fun j hj => drawsB_in (by omega))
  have HLd : Hid ((drawsB zs k n).length = m) := Lib.hid (by rw [hm]; exact drawsB_len _ _ _)
  rw [← hm] at HBd ⊢
  have hmn : m ≤ n := by omega
  have hmm : m + 1 = n ∨ n = 0 := by omega
  clear h hk hm
  generalize drawsB zs k n = js at *
  go_enter Try.func34, Try.ntmps34
  go_wp2_with fail
  refine HBd.out.mono ?_
  rintro e w1 ⟨rfl, hb1, g1⟩
  have HS1 := Lib.hid (HS.out.grow g1)
  have HR1 := Lib.hid hb1.rd
  have HG1 := Lib.hid g1
  clear hb1 g1
  go_wp2_with fail
  refine (many_n (bs := bnds n) _ _ HLb.out hl (by omega) hu (fun j hj => by have := HLb.out; rw [bnds_el (by have := HE.out; omega)]; omega) HS1.out HR1.out).mono ?_
  rintro e w2 ⟨⟨a2, c2, rfl, hr2⟩, hs2, g2⟩
  rw [HRes.out] at hr2
  rw [HNx.out] at hs2
  rw [HRes.out, HOk.out, HLd.out]
  have HR2 := Lib.hid hr2.rd
  have HS2 := Lib.hid hs2
  have HG2 := Lib.hid (HG1.out.grown g2)
  clear hr2 hs2 g2
  go_wp2_with fail
  refine (numbers_any n w2 (by omega)).mono ?_
  rintro e w3 ⟨rfl, hb3, g3⟩
  have HB3 := Lib.hid hb3
  have HG3 := Lib.hid g3
  have hs3 : w2.heap.size < w3.heap.size ∨ n = 0 := by
    rcases Nat.eq_zero_or_pos n with h0 | h0
    · exact .inr h0
    · obtain ⟨g, e, _, hg, _⟩ := hb3.at h0
      injection e with e
      injection e with e
      subst e
      exact .inl hg
  clear hb3 g3
  go_wp2_with fail
  refine (exchanger_any _ n n w3).mono ?_
  rintro e w4 ⟨rfl, hx4, g4⟩
  have HX4 := Lib.hid hx4
  have HB4 := Lib.hid (HB3.out.grow g4)
  have HG4 := Lib.hid (HG3.out.trans g4)
  clear hx4 g4
  go_wp2
  go_loopw [37] (fun x wr => ∃ j : Nat, j ≤ m ∧ x = .int .i64 j ∧ Hid (BufK .i64 3 w2.heap.size wr (some ⟨w2.heap.size, 0, none⟩) n n (shufK n js j)) ∧ Hid (Box wr w3.heap.size (.slice (some ⟨w2.heap.size, 0, none⟩) n n)) ∧ Hid (Grew w2 wr)) (fun x _ => m - (intOf x).toNat)
  case atStart => exact ⟨0, Nat.zero_le _, rfl, HB4, HX4, HG4⟩
  case round =>
    obtain ⟨j, hj, rfl, HB, HX, HG⟩ := hrel
    by_cases hlt2 : j < m
    · obtain ⟨g, off, rfl, hg, hc⟩ := (HR2.out.below HG.out).at (k := j) (by rw [HLd.out]; exact hlt2)
      obtain ⟨i, hi, hz⟩ := HIn.out j hlt2
      have hex := exch_buf (i := n - 1 - j) (j := i) wr (by omega) hi (by omega) HX.out HB.out
      have hsh : swapL (shufK n js j) (n - 1 - j) i = shufK n js (j + 1) := by rw [shufK, hz, Int.toNat_natCast]
      rw [hsh, show ((n - 1 - j : Nat) : Int) = (n : Int) - 1 - (j : Int) by omega] at hex
      have HEx := Lib.hid hex
      rw [hz] at hc
      clear hex hsh hz
      go_wp2_with fail
      refine HEx.out.mono ?_
      rintro e w5 ⟨rfl, hb5, g5⟩
      have HB5 := Lib.hid hb5
      have HX5 := Lib.hid (HX.out.grown g5 (by intro e; injection e with e; omega))
      have HG5 := Lib.hid (HG.out.trans_below (grownBy_below g5 (Nat.le_refl _) HG.out.size) (Nat.le_refl _))
      clear hb5 g5 HEx
      go_wp2
      go_roundw
      case rel => exact ⟨j + 1, by omega, by go_num, HB5, HX5, HG5⟩
      case measure => simp [intOf]; omega
    · obtain rfl : j = m := by omega
      have hs2 := HG2.out.size
      go_wp2
      go_ret2
      exact ⟨⟨_, _, rfl, HB.out.mono hs2⟩, HS2.out.grow HG.out, grownBy_trans HG2.out (HG.out.by' _)⟩

theorem iequal_n {n m : Nat} (a a' : Option Addr) (c c' : Nat) (xs ys : List Int) (w : World) (hn : xs.length = n) (hm : ys.length = m) (hl : n ≤ 17592186044416) (hl2 : m ≤ 17592186044416) (hx : RdK .i64 w.heap.size w a xs) (hy : RdK .i64 w.heap.size w a' ys) :
    Calls Try.prog 10 #[.slice a n c, .slice a' m c'] w fun e w' => e = .returned (.bool (decide (xs = ys))) ∧ Grew w w' := by
  subst hn hm; exact iequal_any a a' c c' xs ys w hl hl2 hx hy
/-- Three integers in a block that has just been made. -/
theorem rd_three (q : IntKind) (w : World) (x y z : Int) (t : TypeId) : RdK q (w.alloc (.cells #[.int q x, .int q y, .int q z] t)).heap.size (w.alloc (.cells #[.int q x, .int q y, .int q z] t)) (some ⟨w.heap.size, 0, none⟩) [x, y, z] := by
  refine .inr ⟨w.heap.size, 0, rfl, by simp, fun j hj => ?_⟩
  have h : (w.alloc (.cells #[.int q x, .int q y, .int q z] t)).heap[w.heap.size]? = some (.cells #[.int q x, .int q y, .int q z] t) := (MapKept.heap_alloc w _).1
  unfold World.cell?
  rw [h]
  match j, hj with
  | 0, _ => rfl
  | 1, _ => rfl
  | 2, _ => rfl

end Go.Proofs.Ytdcpankbolfmiaa
