/- Lists of vectors that a call makes for itself: the statements' given, slices.Reverse, and what Sum returns for them. Condition: at most 2^30 vectors. -/
import Derived.Test.YtdlhpamgjfipfaaVl
import Derived.Test.YtdlhpamgjfipfaaShelf
import Derived.Lib.OwnBridge
namespace Go.Proofs.Ytdlhpamgjfipfaa
open Go.RowKit

def Vec.val (v : Vec) : Value := .slice v.a v.zs.length v.cap
theorem info_vec : (Try.prog.info? 26).map (fun i => (i.zero, i.size, i.bytes)) = some (some (.slice none 0 0), 1, 24) := by kernel_rfl
/-- A list of vectors in memory of the call's own. -/
def VBuf (B : Nat) (W : World) (a : Option Addr) (n cap : Nat) (vs : List Vec) : Prop := W.ownsRow B 26 1 (.slice a n cap) n (vs.map Vec.val)
section
variable {B B' n cap k : Nat} {W W' : World} {a : Option Addr} {vs : List Vec}
theorem VBuf.len (h : VBuf B W a n cap vs) : vs.length = n := by have := h.1; simpa using this
theorem VBuf.heads (h : VBuf B W a n cap vs) : Heads W.heap.size W a vs := by
  have hl := h.len
  rcases h.2 with ⟨_, h0⟩ | ⟨g, c, cur, e, hb, hg, _⟩
  · exact .inl (List.eq_nil_of_length_eq_zero (hl.trans h0))
  · injection e with e1 e2 e3
    subst e1 e3
    have hlt : g < W.heap.size := by
      rcases Nat.lt_or_ge g W.heap.size with h' | h'
      · exact h'
      · rw [Array.getElem?_eq_none h'] at hg; cases hg
    refine .inr ⟨g, 0, rfl, hlt, fun j hj => ?_⟩
    rw [Nat.zero_add, World.ownsRow.cellAt h j (by omega), List.getElem?_map, va_lt hj]
    rfl
theorem VBuf.kept (h : VBuf B W a n cap vs) (k : Grew W W') : VBuf B W' a n cap vs := by
  refine ⟨h.1, ?_⟩
  rcases h.2 with e | ⟨g, c, cur, e, hb, hg, rest⟩
  · exact .inl e
  · refine .inr ⟨g, c, cur, e, hb, ?_, rest⟩
    have hlt : g < W.heap.size := by
      rcases Nat.lt_or_ge g W.heap.size with h' | h'
      · exact h'
      · rw [Array.getElem?_eq_none h'] at hg; cases hg
    rw [Below.block k g hlt]; exact hg
theorem VBuf.fits (h : VBuf B W a n cap vs) : n ≤ cap := by
  rcases h.2 with ⟨e, _⟩ | ⟨g, c, cur, e, _, _, hc, _⟩
  · injection e with e1 e2 e3; omega
  · injection e with e1 e2 e3; omega
theorem VBuf.mono (h : VBuf B W a n cap vs) (hB : B' ≤ B) : VBuf B' W a n cap vs := by
  refine ⟨h.1, ?_⟩
  rcases h.2 with e | ⟨g, c, cur, e, hb, rest⟩
  · exact .inl e
  · exact .inr ⟨g, c, cur, e, Nat.le_trans hB hb, rest⟩
end
theorem own_vecs {B n : Nat} {W : World} {v : Value} {vs : List Vec} (h : W.ownsRow B 26 1 v n (vs.map Vec.val)) : ∃ a cap, v = .slice a n cap ∧ VBuf B W a n cap vs := by
  rcases h.2 with ⟨rfl, rfl⟩ | ⟨g, cap, cur, rfl, _⟩
  · exact ⟨none, 0, rfl, h⟩
  · exact ⟨_, _, rfl, h⟩

set_option maxHeartbeats 1000000 in
theorem given_any (l : Option Addr) (c : Nat) (vs : List Vec) (w : World) (hl : vs.length ≤ 1073741824) (h : Heads w.heap.size w l vs) :
    Calls Try.prog 12 #[.slice l vs.length c] w fun e w' => (∃ a' c', e = .returned (.slice a' vs.length c') ∧ VBuf w.heap.size w' a' vs.length c' vs) ∧ Grew w w' := by
  have HX := Lib.hid h
  obtain ⟨i0, hi, hz0, hz1, hz2⟩ := info_parts info_vec
  clear h
  go_enter Try.func12, Try.ntmps12
  go_wp2
  go_loopw [3, 8] (fun v i wr => ∃ k : Nat, k ≤ vs.length ∧ i = .int .i64 k ∧ Hid (wr.ownsRow w.heap.size 26 1 v k ((vs.take k).map Vec.val)) ∧ Hid (Grew w wr)) (fun _ i _ => vs.length - (intOf i).toNat)
  case atStart => exact ⟨0, Nat.zero_le _, rfl, Lib.hid (World.ownsRow_nil _ _ _ _), Lib.hid (Grew.refl _)⟩
  case round =>
    obtain ⟨k, hk, rfl, HB, HG⟩ := hrel
    by_cases hlt : k < vs.length
    · obtain ⟨b, off, rfl, _, hc⟩ := (Heads.below HX.out HG.out).at hlt
      have HS : Hid ((vs.take (k + 1)).map Vec.val = (vs.take k).map Vec.val ++ [(va vs k).val]) := Lib.hid (by rw [List.take_add_one, va_lt hlt, List.map_append]; rfl)
      have HV : Hid ((va vs k).val = .slice (va vs k).a (va vs k).zs.length (va vs k).cap) := Lib.hid rfl
      generalize (va vs k).a = va' at hc HV
      generalize (va vs k).cap = vc at hc HV
      generalize (va vs k).zs.length = vl at hc HV
      go_wp2_with (at_builtin; refine wpList_append_own _ rfl _ _ 29 rfl w.heap.size 26 i0 (.slice none 0 0) 1 24 Try.underlying29 hi hz0 hz1 hz2 rfl (by decide) _ k _ rfl (HB.out.alloc _) ⟨wr.heap.size, 0, none⟩ 1 1 [.slice va' vl vc] rfl ?qc1 ?qc2 ?qc3 ?qc4 ?qc5 ?qc6 ?_)
      case qc1 => rfl
      case qc2 => exact (cell_one_new _ _ _)
      case qc3 => intro u hu; simp only [List.mem_singleton] at hu; subst hu; rfl
      case qc4 => unfold maxLen; omega
      case qc5 => omega
      case qc6 => have := HG.out.size; simp; omega
      intro v' w1 hown hgrow hnil
      have HO : Hid (w1.ownsRow w.heap.size 26 1 v' (k + 1) ((vs.take (k + 1)).map Vec.val)) := Lib.hid (by rw [HS.out, HV.out, List.map_take]; exact hown)
      have HG1 : Hid (Grew w w1) := Lib.hid (Below.grown (Below.alloc HG.out HG.out.size _) hgrow (by have := HG.out.size; simp; omega) (fun j hj => (World.ownsRow.lt HB.out j hj).1))
      clear hown hgrow hnil
      go_wp2_with fail
      go_roundw
      case rel => exact ⟨k + 1, by omega, by go_num, HO, HG1⟩
      case measure => simp [intOf]; omega
    · obtain rfl : k = vs.length := by omega
      obtain ⟨s', c', rfl, hb⟩ := own_vecs HB.out
      rw [List.take_length] at hb
      have HB' := Lib.hid hb
      clear hb
      go_wp2
      go_ret
      exact ⟨⟨_, _, rfl, HB'.out⟩, HG.out⟩

theorem vreverse_any {B n cap : Nat} {a : Option Addr} {vs : List Vec} {w : World} (hn : n ≤ 1073741824) (h : VBuf B w a n cap vs) :
    Calls Try.prog 15 #[.slice a n cap] w fun e w' => e = .returned (.tuple #[]) ∧ VBuf B w' a n cap vs.reverse ∧ Below B w w' := by
  by_cases h0 : (Value.slice a n cap) = .slice none 0 0
  · injection h0 with h1 h2 h3
    subst h1 h2 h3
    have hz : vs = [] := List.eq_nil_of_length_eq_zero h.len
    subst hz
    exact (Try.reverse_vecs_empty none 0 w).mono fun e w' ⟨he, hw⟩ => ⟨he, by rw [hw]; exact h, by rw [hw]; exact Below.refl _ _⟩
  · obtain ⟨g, c, e, hbg, hgl, hnc, hcm, hlen, hH⟩ := Lib.holds_of_ownsRow h h0
    injection e with e1 e2 e3
    subst e1 e3 hlen
    refine (Try.reverse_vecs Vec.val (fun _ => rfl) g 0 cap vs w hH (by omega)).mono ?_
    rintro e w' ⟨rfl, q, rfl⟩
    have h1 := Lib.ownsRow_putRow (q := q) (ys := vs.reverse) h (by simp) (Nat.le_refl _)
    rw [List.take_of_length_le (by simp)] at h1
    exact ⟨rfl, h1, Lib.below_putRow (Below.refl _ _) hbg⟩

/-- The contracts at a slice whose length is said otherwise. -/
theorem given_n {n : Nat} (l : Option Addr) (c : Nat) (vs : List Vec) (w : World) (hn : vs.length = n) (hl : n ≤ 1073741824) (h : Heads w.heap.size w l vs) :
    Calls Try.prog 12 #[.slice l n c] w fun e w' => (∃ a' c', e = .returned (.slice a' n c') ∧ VBuf w.heap.size w' a' n c' vs) ∧ Grew w w' := by subst hn; exact given_any l c vs w hl h
theorem vsum_n {n : Nat} (l : Option Addr) (c : Nat) (vs : List Vec) (w : World) (hn : vs.length = n) (h : Lot w l c vs) :
    Calls Try.prog 11 #[.slice l n c] w fun e w' => (∃ a cap, e = .returned (.tuple #[.slice a (sumV vs).length cap, .bool (okV vs)]) ∧ Buf w.heap.size w' a (sumV vs).length cap (sumV vs)) ∧ Grew w w' := by subst hn; exact vsum_any l c vs w h
theorem heads_take {w : World} {B : Nat} {l : Option Addr} {vs : List Vec} (k : Nat) (h : Heads B w l vs) : Heads B w l (vs.take k) := by
  rcases h with rfl | ⟨b, off, rfl, hb, hc⟩
  · exact .inl (List.take_nil)
  · refine .inr ⟨b, off, rfl, hb, fun j hj => ?_⟩
    have := va_take hj
    rw [this.2, hc j this.1]
theorem heads_drop {w : World} {B b off : Nat} {vs : List Vec} (k : Nat) (h : Heads B w (some ⟨b, off, none⟩) vs) : Heads B w (some ⟨b, off + k, none⟩) (vs.drop k) := by
  rcases h with rfl | ⟨b', off', e, hb, hc⟩
  · exact .inl (List.drop_nil)
  · obtain ⟨rfl, rfl⟩ : b = b' ∧ off = off' := by injection e with e; injection e with e1 e2; exact ⟨e1, e2⟩
    refine .inr ⟨b, off + k, rfl, hb, fun j hj => ?_⟩
    have := va_drop hj
    rw [this.2, Nat.add_assoc, hc (k + j) this.1]
/-- What holds of each vector of a list holds of each of the turned one, of its beginning, of its end, and of the end with one more. -/
theorem each_reverse {p : Vec → Prop} {vs : List Vec} (h : ∀ i, i < vs.length → p (va vs i)) : ∀ i, i < vs.reverse.length → p (va vs.reverse i) := fun i hi => by
  obtain ⟨j, hj, e⟩ := va_reverse hi
  rw [e]; exact h j hj
theorem each_take {p : Vec → Prop} {vs : List Vec} {k : Nat} (h : ∀ i, i < vs.length → p (va vs i)) : ∀ i, i < (vs.take k).length → p (va (vs.take k) i) := fun i hi => by
  have := va_take hi
  rw [this.2]; exact h i this.1
theorem each_drop {p : Vec → Prop} {vs : List Vec} {k : Nat} (h : ∀ i, i < vs.length → p (va vs i)) : ∀ i, i < (vs.drop k).length → p (va (vs.drop k) i) := fun i hi => by
  have := va_drop hi
  rw [this.2]; exact h _ this.1
theorem each_snoc {p : Vec → Prop} {vs : List Vec} {v : Vec} (h : ∀ i, i < vs.length → p (va vs i)) (hv : p v) : ∀ i, i < (vs ++ [v]).length → p (va (vs ++ [v]) i) := fun i hi => by
  rcases va_snoc hi with ⟨h1, e⟩ | e
  · rw [e]; exact h i h1
  · rw [e]; exact hv
theorem sum_short {vs : List Vec} {m : Nat} (h : ∀ i, i < vs.length → (va vs i).zs.length ≤ m) : (sumV vs).length ≤ m := by
  cases ho : okV vs with
  | false => rw [sumV_no ho]; exact Nat.zero_le _
  | true =>
    rw [sumV_yes ho, tot_len]
    by_cases h0 : 0 < vs.length
    · exact h 0 h0
    · rw [List.eq_nil_of_length_eq_zero (show vs.length = 0 by omega)]; exact Nat.zero_le _
/-- A list of slices of numbers that came in. -/
def Came (w : World) (a : Option Addr) (len cap : Nat) (vs : List Vec) : Prop :=
  vs.length = len ∧ len ≤ cap ∧ cap ≤ maxLen ∧ Heads w.heap.size w a vs ∧ Bodies w.heap.size w vs ∧ ∀ i, i < vs.length → Fit (va vs i).zs
theorem came_none (w : World) : Came w none 0 0 [] := ⟨rfl, Nat.le_refl _, Nat.zero_le _, .inl rfl, fun j hj => by simp at hj, fun j hj => by simp at hj⟩
theorem came_some {w : World} {a : Addr} {len cap : Nat} {A : Nat → Option Addr} {L C : Nat → Nat} {Z : Nat → List Int} (hl : len ≤ cap) (hm : cap ≤ maxLen)
    (h : ∀ r, r < cap → w.cell? (a.add r) = some (.slice (A r) (L r) (C r)) ∧ L r ≤ C r ∧ C r ≤ maxLen ∧ (Z r).length = C r ∧ (∀ n ∈ Z r, (Lit.int .i64 n).wf = true) ∧ (A r = none → C r = 0) ∧ ∀ a', A r = some a' → 0 ≤ a'.block ∧ ∀ c, c < C r → w.cell? (a'.add c) = some (.int .i64 ((Z r).getD c 0))) :
    Came w (some a) len cap ((List.range len).map fun r => ⟨A r, C r, (Z r).take (L r)⟩) := by
  have hlen : ((List.range len).map fun r => (⟨A r, C r, (Z r).take (L r)⟩ : Vec)).length = len := by simp
  have hva : ∀ r, r < len → va ((List.range len).map fun r => (⟨A r, C r, (Z r).take (L r)⟩ : Vec)) r = ⟨A r, C r, (Z r).take (L r)⟩ := fun r hr => by simp [va, hr]
  have hrd : ∀ r, r < len → ((Z r).take (L r)).length = L r ∧ Rd w.heap.size w (A r) ((Z r).take (L r)) ∧ Fit ((Z r).take (L r)) := fun r hr => by
    obtain ⟨_, h1, _, h3, h4, h5, h6⟩ := h r (by omega)
    refine cells_rd h1 h3 (fun h0 => ?_) h4
    cases ha : A r with
    | none => have := h5 ha; omega
    | some x => exact ⟨x, rfl, fun i hi => (h6 x ha).2 i (by omega)⟩
  refine ⟨hlen, hl, hm, ?_, fun r hr => ?_, fun r hr => ?_⟩
  · by_cases h0 : len = 0
    · exact .inl (List.eq_nil_of_length_eq_zero (hlen.trans h0))
    · obtain ⟨b, off, spot⟩ := a
      have hc0 := (h 0 (by omega)).1
      have hspot : spot = none := by simpa [Addr.add] using World.cell?_spot hc0
      subst hspot
      refine .inr ⟨b, off, rfl, block_in (by simpa [Addr.add] using hc0), fun j hj => ?_⟩
      rw [hlen] at hj
      have := (h j (by omega)).1
      rw [Addr.add_lit] at this
      rw [this, hva j hj, (hrd j hj).1]
  · rw [hlen] at hr
    rw [hva r hr]
    exact (hrd r hr).2.1
  · rw [hlen] at hr
    rw [hva r hr]
    exact (hrd r hr).2.2
end Go.Proofs.Ytdlhpamgjfipfaa
