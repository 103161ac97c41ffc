/- Package sampler: the closure that shuffles, orders. -/
import Derived.Test.YtdcpankbolfmiaaQe
namespace Go.Proofs.Ytdcpankbolfmiaa
open Go.RowKit
set_option linter.unusedVariables false

theorem shuf1_any {D b k n nb sb : Nat} {zs : List Int} {w : World} (hn : n ≤ 1048576) (hl : zs.length ≤ 17592186044416) (hu : U64 zs) (h : Stm D w b zs k) (hk : k + (n - 1) ≤ zs.length)
    (h1 : One w nb 3 (.int .i64 n)) (h2 : One w sb 71 (.pointer (some ⟨b, 0, none⟩))) :
    Calls Try.prog 33 #[.pointer (some ⟨nb, 0, none⟩), .pointer (some ⟨sb, 0, none⟩)] w fun e w' => (∃ a' c', e = .returned (.slice a' n c') ∧ BufK .i64 3 w.heap.size w' a' n c' (shufK n (drawsB zs k n) (n - 1))) ∧ Stm D w' b zs (k + (n - 1)) ∧ w.grownBy w' (some b) := by
  have HS := Lib.hid (shuffle_yes hn hl hu h hk)
  have C1 := h1.c0
  have C2 := h2.c0
  have L1 := h1.lt
  have L2 := h2.lt
  clear h h1 h2
  go_enter Try.func33, Try.ntmps33
  go_wp2_with fail
  refine HS.out.mono ?_
  rintro e w1 ⟨⟨a', c', rfl, hb⟩, hs, g⟩
  have HP := Lib.hid (show BufK .i64 3 w.heap.size w1 a' n c' (shufK n (drawsB zs k n) (n - 1)) ∧ Stm D w1 b zs (k + (n - 1)) ∧ w.grownBy w1 (some b) from ⟨hb, hs, g⟩)
  clear hb hs g
  go_wp2
  go_ret
  exact ⟨⟨_, _, rfl, HP.out.1⟩, HP.out.2⟩

theorem info_rows12 : (Try.prog.info? 38).map (fun i => (i.zero, i.size, i.bytes)) = some (some (.slice none 0 0), 1, 24) := by kernel_rfl
theorem own_block {W : World} {D b k : Nat} {zs : List Int} (h : Stm D W b zs k) : ∀ t, t ≠ 89 → ∀ cur, W.heap[b]? ≠ some (.cells cur t (0, 0)) := by
  intro t ht cur e
  obtain ⟨_, _, a, c, _, _, h2, _⟩ := h
  rw [show W.heap[b]? = _ from h2] at e
  injection e with e
  injection e with _ e
  exact ht e.symm

theorem Ords.cell {B g n c j : Nat} {W : World} {ls : List (List Int)} (h : Ords B W (.slice (some ⟨g, 0, none⟩) n c) ls) (hn : ls.length = n) (hj : j < n) :
    g < W.heap.size ∧ ∃ a m c', W.cell? ⟨g, j, none⟩ = some (.slice a m c') := by
  subst hn
  obtain ⟨g', aj, cj, e, h1, h2, _⟩ := h.at hj
  injection e with e
  injection e with e
  subst e
  exact ⟨h1, _, _, _, h2⟩

set_option maxHeartbeats 2000000 in
theorem orders_any {n E : Nat} (a : Option Addr) (c m : Nat) (zs : List Int) (w : World) (hz : zs.length = m) (hn : n ≤ 60) (hE : E ≤ 60) (hl : m ≤ 17592186044416) (hu : U64 zs) (hk : E * (n - 1) ≤ m) (h : RdK .u64 w.heap.size w a zs) :
    Calls Try.prog 22 #[.int .i64 n, .int .i64 E, .slice a m c] w fun e w' => (∃ a' c', e = .returned (.slice a' E c') ∧ Ords w.heap.size w' (.slice a' E c') (ordL n zs E)) ∧ Grew w w' := by
  have hmk := run_make_row' (P := Try.prog) 31 38 (.slice none 0 0) 24 Try.underlying31 info_rows12 rfl .i64 .i64 E (by omega) (by omega)
  have HX := Lib.hid (h.grow ((Grew.refl w).alloc (.cells #[.int .i64 n] 3)))
  have HG0 := Lib.hid ((Grew.refl w).alloc (.cells #[.int .i64 n] 3))
  have HN := Lib.hid (One.new w 3 (.int .i64 n))
  clear h
  go_enter Try.func22, Try.ntmps22
  go_wp2_with fail
  refine (new_n a c zs _ hz hl HX.out).mono ?_
  rintro e w1 ⟨⟨b, rfl, hb, hs⟩, g1⟩
  rw [World.size_alloc] at hb
  have hb1 := hs.lt
  have HG1 := Lib.hid (HG0.out.trans g1)
  have HN1 := Lib.hid ((HN.out.grow g1).alloc (.cells #[.pointer (some ⟨b, 0, none⟩)] 71))
  have HS1 := Lib.hid (hs.grow ((Grew.refl w1).alloc (.cells #[.pointer (some ⟨b, 0, none⟩)] 71)))
  have HQ1 := Lib.hid (One.new w1 71 (.pointer (some ⟨b, 0, none⟩)))
  have HG2 := Lib.hid (HG1.out.alloc (.cells #[.pointer (some ⟨b, 0, none⟩)] 71))
  have hsz1 := HG1.out.size
  clear hs g1
  have HO0 := Lib.hid (show Ords w.heap.size _ _ (ordK n zs E 0) from by rw [ordK_zero]; exact (Ords.made (w1.alloc (.cells #[.pointer (some ⟨b, 0, none⟩)] 71)) E (by unfold maxLen; omega)).mono HG2.out.size)
  rw [World.size_alloc] at HO0
  have HN2 := Lib.hid (HN1.out.alloc (.cells (madeCells #[.slice none 0 0] E) 38))
  have HS2 := Lib.hid (HS1.out.grow ((Grew.refl _).alloc (.cells (madeCells #[.slice none 0 0] E) 38)))
  have HQ2 := Lib.hid (HQ1.out.alloc (.cells (madeCells #[.slice none 0 0] E) 38))
  have HG3 := Lib.hid (HG2.out.alloc (.cells (madeCells #[.slice none 0 0] E) 38))
  clear HN1 HS1 HQ1 HG2 HG1 HX HG0 HN
  generalize hB1 : w1.heap.size = B1 at *
  go_wp2
  go_loopw [18] (fun x wr => ∃ j : Nat, j ≤ E ∧ x = .int .i64 j ∧ Hid (Stm b wr b zs (j * (n - 1))) ∧ Hid (One wr w.heap.size 3 (.int .i64 n)) ∧ Hid (One wr B1 71 (.pointer (some ⟨b, 0, none⟩))) ∧ Hid (Ords w.heap.size wr (.slice (some ⟨B1 + 1, 0, none⟩) E E) (ordK n zs E j)) ∧ Hid (Grew w wr)) (fun x _ => E - (intOf x).toNat)
  case atStart => exact ⟨0, Nat.zero_le _, rfl, Lib.hid (by rw [Nat.zero_mul]; exact HS2.out), HN2, HQ2, HO0, HG3⟩
  case round =>
    obtain ⟨j, hj, rfl, HS, HN, HQ, HO, HG⟩ := hrel
    by_cases hlt : j < E
    · have hk1 : j * (n - 1) + (n - 1) ≤ zs.length := by
        have h1 := Nat.mul_le_mul_right (n - 1) (show j + 1 ≤ E from hlt)
        rw [Nat.add_mul, Nat.one_mul] at h1
        omega
      have hnx : j * (n - 1) + (n - 1) = (j + 1) * (n - 1) := by rw [Nat.add_mul, Nat.one_mul]
      have HC := Lib.hid (shuf1_any (by omega) (by omega) hu HS.out hk1 HN.out HQ.out)
      rw [hnx] at HC
      have HSB := Lib.hid (own_block HS.out)
      clear hk1 hnx
      go_wp2_with fail
      refine HC.out.mono ?_
      rintro e w5 ⟨⟨a5, c5, rfl, hb5⟩, hs5, g5⟩
      have HN5 := Lib.hid (HN.out.grown g5 (by intro e; injection e with e; omega))
      have HQ5 := Lib.hid (HQ.out.grown g5 (by intro e; injection e with e; omega))
      have HO5 := Lib.hid (HO.out.left g5 (HSB.out _ (by decide)) (HSB.out _ (by decide)))
      have HS5 := Lib.hid hs5
      have HB5 := Lib.hid (hb5.mono HG.out.size)
      have HG5 := Lib.hid (HG.out.trans_below (grownBy_below g5 (by omega) HG.out.size) (Nat.le_refl _))
      clear hb5 hs5 g5 HC
      obtain ⟨hlt5, aj, nj, cj, hcl⟩ := HO5.out.cell (ordK_len _ _ _ _) hlt
      have hfr := HO5.out.free (ordK_len _ _ _ _) j
      have HO6 := Lib.hid (HO5.out.put (ordK_len _ _ _ _) hlt (shufK_len _ _ _) HB5.out)
      rw [show (ordK n zs E j).set j (shufK n (drawsB zs (j * (n - 1)) n) (n - 1)) = ordK n zs E (j + 1) from ordK_step n zs E j] at HO6
      have HN6 := Lib.hid (HN5.out.grown (grownBy_setCell1 w5 ⟨B1 + 1, j, none⟩ (.slice a5 n c5)) (by intro e; injection e with e; simp only at e; omega))
      have HQ6 := Lib.hid (HQ5.out.grown (grownBy_setCell1 w5 ⟨B1 + 1, j, none⟩ (.slice a5 n c5)) (by intro e; injection e with e; simp only at e; omega))
      have HS6 := Lib.hid (HS5.out.grown (grownBy_setCell1 w5 ⟨B1 + 1, j, none⟩ (.slice a5 n c5)) (by simp only; omega) (by simp only; omega))
      have HG6 := Lib.hid (HG5.out.setCell (p := ⟨B1 + 1, j, none⟩) (by simp only; omega) (.slice a5 n c5))
      clear HN5 HQ5 HS5 HG5 HO5 HB5 HS HN HQ HO
      go_wp2
      go_roundw
      case rel => exact ⟨j + 1, by omega, by go_num, HS6, HN6, HQ6, HO6, HG6⟩
      case measure => simp [intOf]; omega
    · obtain rfl : j = E := by omega
      go_wp2
      go_ret
      exact ⟨⟨_, _, rfl, by rw [← ordK_all]; exact HO.out⟩, HG.out⟩
end Go.Proofs.Ytdcpankbolfmiaa
