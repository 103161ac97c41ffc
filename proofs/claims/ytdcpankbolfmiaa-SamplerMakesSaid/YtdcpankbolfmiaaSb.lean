/- Next of package draw and of the reference; same of the statement. Condition: at most 2^44 draws. -/
import Derived.Test.YtdcpankbolfmiaaSa
namespace Go.Proofs.Ytdcpankbolfmiaa
open Go.RowKit

/-- Storing how many draws are used. -/
theorem Stm.put {D b k m : Nat} {W : World} {zs : List Int} (h : Stm D W b zs k) (hm : m ≤ zs.length) : Stm D (W.setCell ⟨b, 1, none⟩ (.int .i64 m)) b zs m := by
  obtain ⟨h0, _, a, c, hc, hl, h2, h3⟩ := h
  exact ⟨h0, hm, a, c, hc, hl, h2.set1 _, h3.below ((Below.refl _ _).setCell h0 _)⟩

/-- The reference's stream is a value: its draws and how many are used. -/
theorem rnext_any (a : Option Addr) (c k : Nat) (zs : List Int) (n : Int) (w : World) (hl : zs.length ≤ 17592186044416) (hk : k ≤ zs.length) (hu : U64 zs) (hn : n ≤ 9223372036854775807) (h : RdK .u64 w.heap.size w a zs) :
    Calls Try.prog 35 #[.agg #[.slice a zs.length c, .int .i64 k], .int .i64 n] w fun e w' => e = .returned (.tuple #[.agg #[.slice a zs.length c, .int .i64 (nxN zs k n : Nat)], .int .i64 (outN zs k n), .bool (okN zs k n)]) ∧ Grew w w' := by
  by_cases h1 : n < 1
  · have HO := Lib.hid (okN_low (zs := zs) (k := k) h1)
    have HX : Hid (outN zs k n = 0 ∧ nxN zs k n = k) := Lib.hid ⟨by rw [outN, HO.out]; rfl, by rw [nxN, HO.out]; rfl⟩
    clear h
    rw [HO.out, HX.out.1, HX.out.2]
    go_enter Try.func35, Try.ntmps35
    go_wp2
    exact bodyPost_ret (v := .tuple #[.agg #[.slice a zs.length c, .int .i64 k], .int .i64 0, .bool false]) (by simp [results, Try.results35, go_sem]) rfl ⟨rfl, ((Grew.refl _).alloc _).alloc _⟩
  · by_cases h2 : k < zs.length
    · obtain ⟨g, off, rfl, hg, hcell⟩ := h.at h2
      have HO := Lib.hid (okN_yes (zs := zs) (k := k) (n := n) (by omega) h2)
      have HX : Hid (outN zs k n = el zs k % n ∧ nxN zs k n = k + 1) := Lib.hid ⟨by rw [outN, HO.out]; rfl, by rw [nxN, HO.out]; rfl⟩
      have hz := hu k h2
      rw [HO.out, HX.out.1, HX.out.2]
      clear h
      generalize el zs k = z at hcell hz HX ⊢
      have hw : IntKind.u64.wrap n = n := by unfold IntKind.wrap; simp [IntKind.signed, IntKind.bits]; omega
      have ht : z.tmod n = z % n := Int.tmod_eq_emod_of_nonneg hz.1
      have hm0 := Int.emod_nonneg z (show n ≠ 0 by omega)
      have hm1 := Int.emod_lt_of_pos z (show 0 < n by omega)
      go_enter Try.func35, Try.ntmps35
      go_wp2
      go_region
      go_wp2
      exact bodyPost_ret (v := .tuple #[.agg #[.slice (some ⟨g, off, none⟩) zs.length c, .int .i64 (k + 1 : Nat)], .int .i64 (z % n), .bool true]) (by simp [results, Try.results35, go_sem]) rfl ⟨rfl, (((Grew.refl _).alloc _).alloc _).drew⟩
    · have HO := Lib.hid (okN_out (zs := zs) (k := k) (n := n) (by omega))
      have HX : Hid (outN zs k n = 0 ∧ nxN zs k n = k) := Lib.hid ⟨by rw [outN, HO.out]; rfl, by rw [nxN, HO.out]; rfl⟩
      clear h
      rw [HO.out, HX.out.1, HX.out.2]
      go_enter Try.func35, Try.ntmps35
      go_wp2
      exact bodyPost_ret (v := .tuple #[.agg #[.slice a zs.length c, .int .i64 k], .int .i64 0, .bool false]) (by simp [results, Try.results35, go_sem]) rfl ⟨rfl, ((Grew.refl _).alloc _).alloc _⟩

end Go.Proofs.Ytdcpankbolfmiaa
