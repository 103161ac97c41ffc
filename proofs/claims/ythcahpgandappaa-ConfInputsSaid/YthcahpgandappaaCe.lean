/- Inputs: in memory (InM), and those that came in (CameI). No condition. -/
import Derived.Test.YthcahpgandappaaCd
import Derived.Test.YthcahpgandappaaEm
namespace Go.Proofs.Ythcahpgandappaa
open Go.RowKit Go.ChangeShapes Go.WideShapes

/-- Block b holds an input. -/
def InM (W : World) (b : Nat) (a : Option Addr) (n c : Nat) (f : Cf) (da : Option Addr) (dn dc : Nat) (sa : Option Addr) (sn sc : Nat) (ra : Option Addr) (rn rc : Nat) : Prop := W.heap[b]? = some (.cells #[.slice a n c, .int .i64 f.sh, .int .i64 f.ra, .int .i64 f.mo, .int .i64 f.wo, .int .i64 f.ba, .int .i64 f.mi, .int .i64 f.st, .int .i64 f.bu, .int .i64 f.ch, .int .i64 f.wi, .int .i64 f.ca, .slice da dn dc, .slice sa sn sc, .slice ra rn rc] 34 (0, 0))
section
variable {W W' : World} {b n c dn dc sn sc rn rc : Nat} {a da sa ra : Option Addr} {f : Cf}
theorem InM.lt (h : InM W b a n c f da dn dc sa sn sc ra rn rc) : b < W.heap.size := (Array.getElem?_eq_some_iff.1 h).1
theorem InM.c0 (h : InM W b a n c f da dn dc sa sn sc ra rn rc) : W.cell? ⟨b, 0, none⟩ = some (.slice a n c) := by simp [World.cell?, show W.heap[b]? = _ from h]
theorem InM.c1 (h : InM W b a n c f da dn dc sa sn sc ra rn rc) : W.cell? ⟨b, 1, none⟩ = some (.int .i64 f.sh) := by simp [World.cell?, show W.heap[b]? = _ from h]
theorem InM.c2 (h : InM W b a n c f da dn dc sa sn sc ra rn rc) : W.cell? ⟨b, 2, none⟩ = some (.int .i64 f.ra) := by simp [World.cell?, show W.heap[b]? = _ from h]
theorem InM.c3 (h : InM W b a n c f da dn dc sa sn sc ra rn rc) : W.cell? ⟨b, 3, none⟩ = some (.int .i64 f.mo) := by simp [World.cell?, show W.heap[b]? = _ from h]
theorem InM.c4 (h : InM W b a n c f da dn dc sa sn sc ra rn rc) : W.cell? ⟨b, 4, none⟩ = some (.int .i64 f.wo) := by simp [World.cell?, show W.heap[b]? = _ from h]
theorem InM.c5 (h : InM W b a n c f da dn dc sa sn sc ra rn rc) : W.cell? ⟨b, 5, none⟩ = some (.int .i64 f.ba) := by simp [World.cell?, show W.heap[b]? = _ from h]
theorem InM.c6 (h : InM W b a n c f da dn dc sa sn sc ra rn rc) : W.cell? ⟨b, 6, none⟩ = some (.int .i64 f.mi) := by simp [World.cell?, show W.heap[b]? = _ from h]
theorem InM.c7 (h : InM W b a n c f da dn dc sa sn sc ra rn rc) : W.cell? ⟨b, 7, none⟩ = some (.int .i64 f.st) := by simp [World.cell?, show W.heap[b]? = _ from h]
theorem InM.c8 (h : InM W b a n c f da dn dc sa sn sc ra rn rc) : W.cell? ⟨b, 8, none⟩ = some (.int .i64 f.bu) := by simp [World.cell?, show W.heap[b]? = _ from h]
theorem InM.c9 (h : InM W b a n c f da dn dc sa sn sc ra rn rc) : W.cell? ⟨b, 9, none⟩ = some (.int .i64 f.ch) := by simp [World.cell?, show W.heap[b]? = _ from h]
theorem InM.c10 (h : InM W b a n c f da dn dc sa sn sc ra rn rc) : W.cell? ⟨b, 10, none⟩ = some (.int .i64 f.wi) := by simp [World.cell?, show W.heap[b]? = _ from h]
theorem InM.c11 (h : InM W b a n c f da dn dc sa sn sc ra rn rc) : W.cell? ⟨b, 11, none⟩ = some (.int .i64 f.ca) := by simp [World.cell?, show W.heap[b]? = _ from h]
theorem InM.c12 (h : InM W b a n c f da dn dc sa sn sc ra rn rc) : W.cell? ⟨b, 12, none⟩ = some (.slice da dn dc) := by simp [World.cell?, show W.heap[b]? = _ from h]
theorem InM.c13 (h : InM W b a n c f da dn dc sa sn sc ra rn rc) : W.cell? ⟨b, 13, none⟩ = some (.slice sa sn sc) := by simp [World.cell?, show W.heap[b]? = _ from h]
theorem InM.c14 (h : InM W b a n c f da dn dc sa sn sc ra rn rc) : W.cell? ⟨b, 14, none⟩ = some (.slice ra rn rc) := by simp [World.cell?, show W.heap[b]? = _ from h]
theorem InM.alloc (h : InM W b a n c f da dn dc sa sn sc ra rn rc) (o : Obj) : InM (W.alloc o) b a n c f da dn dc sa sn sc ra rn rc := (Below.heap_alloc W o b h.lt).trans h
theorem InM.grow (h : InM W b a n c f da dn dc sa sn sc ra rn rc) (g : Grew W W') : InM W' b a n c f da dn dc sa sn sc ra rn rc := (Below.block g b h.lt).trans h
theorem InM.new (W : World) (a : Option Addr) (n c : Nat) (f : Cf) (da : Option Addr) (dn dc : Nat) (sa : Option Addr) (sn sc : Nat) (ra : Option Addr) (rn rc : Nat) : InM (W.alloc (.cells #[.slice a n c, .int .i64 f.sh, .int .i64 f.ra, .int .i64 f.mo, .int .i64 f.wo, .int .i64 f.ba, .int .i64 f.mi, .int .i64 f.st, .int .i64 f.bu, .int .i64 f.ch, .int .i64 f.wi, .int .i64 f.ca, .slice da dn dc, .slice sa sn sc, .slice ra rn rc] 34)) W.heap.size a n c f da dn dc sa sn sc ra rn rc := (MapKept.heap_alloc W _).1
end
/-- An input that came in. -/
def CameI (w : World) (a : Option Addr) (n c : Nat) (f : Cf) (da : Option Addr) (dn dc : Nat) (es : List Ex) (sn sc rn rc : Nat) : Prop := CameC w a n c f ∧ CameE w da dn dc es ∧ (sn ≤ sc ∧ sc ≤ maxLen) ∧ (rn ≤ rc ∧ rc ≤ maxLen)
theorem any_in {H : Type} {enc : TypeId × Value → H} {w : World} {base : Nat} {held : Bool} {t e : TypeId} {k : IntKind} {fuel : Nat} {v : Value} {y : DataW H × List MemPlace} (ht : Try.prog.underlying t = some (.slice e)) (he : Try.prog.underlying e = some (.int k)) (ce : Try.prog.cellsOf e = 1)
    (h : DataW.trod enc Try.prog w base (fun _ => true) held fuel t [v] = some y) : ∃ a n c, v = .slice a n c ∧ n ≤ c ∧ c ≤ maxLen := by
  rcases open_ints ht he ce h with ⟨hcs, _⟩ | ⟨a, len, cap, zs, hcs, _, hl, hm, _, _, _, _⟩
  · simp only [List.cons.injEq, and_true] at hcs
    exact ⟨none, 0, 0, hcs, Nat.le_refl _, Nat.zero_le _⟩
  · simp only [List.cons.injEq, and_true] at hcs
    exact ⟨some a, len, cap, hcs, hl, hm⟩
theorem array15 {α : Type} {cs : List α} (h : cs.length = 15) : ∃ xs d12 d13 d14, cs = xs ++ [d12, d13, d14] ∧ xs.length = 12 := by
  match cs, h with
  | [c0, c1, c2, c3, c4, c5, c6, c7, c8, c9, c10, c11, c12, c13, c14], _ => exact ⟨[c0, c1, c2, c3, c4, c5, c6, c7, c8, c9, c10, c11], c12, c13, c14, rfl, rfl⟩
set_option maxHeartbeats 4000000 in
theorem input_in {H : Type} {enc : TypeId × Value → H} {w : World} {base : Nat} {held : Bool} {r : Reach} {b0 : Nat} {v : Value} {d : DataW H} {p : List MemPlace}
    (hv : Value.okWide Try.prog w r b0 34 v) (h : DataW.Trod enc Try.prog w base (fun _ => true) held 34 v d p) : ∃ a n c f da dn dc es sa sn sc ra rn rc, v = .agg #[.slice a n c, .int .i64 f.sh, .int .i64 f.ra, .int .i64 f.mo, .int .i64 f.wo, .int .i64 f.ba, .int .i64 f.mi, .int .i64 f.st, .int .i64 f.bu, .int .i64 f.ch, .int .i64 f.wi, .int .i64 f.ca, .slice da dn dc, .slice sa sn sc, .slice ra rn rc] ∧ CameI w a n c f da dn dc es sn sc rn rc := by
  obtain ⟨cs, rfl, _⟩ := okWide_struct Try.underlying34 hv
  obtain ⟨fuel, hf0⟩ := h
  have hf1 : DataW.trod enc Try.prog w base (fun _ => true) held fuel 34 cs.toList = some (d, p) := by simpa [Value.cells] using hf0
  obtain ⟨xs, m, _, _, hl, hlen, hf⟩ := DataW.trod_struct Try.underlying34 hf1
  have hlen4 : xs.length = 4 := hlen
  rw [show Try.prog.cellsOf 34 = 15 from by kernel_rfl] at hl
  obtain ⟨ys, d12, d13, d14, hcs, hy12⟩ := array15 hl
  have hC : Try.prog.cellsOf 24 = 12 := by kernel_rfl
  have hD : Try.prog.cellsOf 30 = 1 := by kernel_rfl
  have hS : Try.prog.cellsOf 31 = 1 := by kernel_rfl
  have hR : Try.prog.cellsOf 32 = 1 := by kernel_rfl
  obtain ⟨y0, e0⟩ := some_at (i := 0) hlen4 (by decide)
  obtain ⟨y1, e1⟩ := some_at (i := 1) hlen4 (by decide)
  obtain ⟨y2, e2⟩ := some_at (i := 2) hlen4 (by decide)
  obtain ⟨y3, e3⟩ := some_at (i := 3) hlen4 (by decide)
  have q12 : (ys ++ [d12, d13, d14]).drop 12 = [d12, d13, d14] := by rw [← hy12, List.drop_left]
  have q13 : (ys ++ [d12, d13, d14]).drop 13 = [d13, d14] := by rw [show 13 = 12 + 1 from rfl, ← List.drop_drop, q12]; rfl
  have q14 : (ys ++ [d12, d13, d14]).drop 14 = [d14] := by rw [show 14 = 12 + 2 from rfl, ← List.drop_drop, q12]; rfl
  have h0 : DataW.trod enc Try.prog w base (fun _ => true) held m 24 ys = some y0 := by
    have k : DataW.trod enc Try.prog w base (fun _ => true) held m 24 ((cs.toList.drop 0).take (Try.prog.cellsOf 24)) = some y0 := (hf 0 _ rfl).trans e0
    rw [hC, hcs, List.drop_zero, ← hy12, List.take_left] at k
    exact k
  have h1 : DataW.trod enc Try.prog w base (fun _ => true) held m 30 [d12] = some y1 := by
    have k : DataW.trod enc Try.prog w base (fun _ => true) held m 30 ((cs.toList.drop 12).take (Try.prog.cellsOf 30)) = some y1 := (hf 1 _ rfl).trans e1
    rw [hD, hcs, q12] at k
    exact k
  have h2 : DataW.trod enc Try.prog w base (fun _ => true) held m 31 [d13] = some y2 := by
    have k : DataW.trod enc Try.prog w base (fun _ => true) held m 31 ((cs.toList.drop 13).take (Try.prog.cellsOf 31)) = some y2 := (hf 2 _ rfl).trans e2
    rw [hS, hcs, q13] at k
    exact k
  have h3 : DataW.trod enc Try.prog w base (fun _ => true) held m 32 [d14] = some y3 := by
    have k : DataW.trod enc Try.prog w base (fun _ => true) held m 32 ((cs.toList.drop 14).take (Try.prog.cellsOf 32)) = some y3 := (hf 3 _ rfl).trans e3
    rw [hR, hcs, q14] at k
    exact k
  obtain ⟨a, n, c, f, rfl, hc⟩ := config_list h0
  obtain ⟨da, dn, dc, rfl⟩ : ∃ da dn dc, d12 = .slice da dn dc := by
    obtain ⟨x, l, k, e⟩ := Joins.slice_form Try.underlying30 h1
    simp only [List.cons.injEq, and_true] at e
    exact ⟨x, l, k, e⟩
  obtain ⟨es, he⟩ := examples_in Try.underlying30 Try.underlying61 (by kernel_rfl) rfl rfl (by kernel_rfl) (by kernel_rfl) rfl rfl Try.underlying31 Try.underlying2 (by kernel_rfl) h1
  obtain ⟨sa, sn, sc, rfl, hs⟩ := any_in Try.underlying31 Try.underlying2 (by kernel_rfl) h2
  obtain ⟨ra, rn, rc, rfl, hr⟩ := any_in Try.underlying32 Try.underlying78 (by kernel_rfl) h3
  refine ⟨a, n, c, f, da, dn, dc, es, sa, sn, sc, ra, rn, rc, ?_, hc, he, hs, hr⟩
  rw [show cs = #[.slice a n c, .int .i64 f.sh, .int .i64 f.ra, .int .i64 f.mo, .int .i64 f.wo, .int .i64 f.ba, .int .i64 f.mi, .int .i64 f.st, .int .i64 f.bu, .int .i64 f.ch, .int .i64 f.wi, .int .i64 f.ca, .slice da dn dc, .slice sa sn sc, .slice ra rn rc] from Array.toList_inj.1 hcs]
end Go.Proofs.Ythcahpgandappaa
