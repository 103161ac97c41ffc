/- A range over a closure, where the rounds make memory that is to last: what holds between the rounds need not stand more than new memory and a change of the loop's own record (KpC: all cells stay). -/
import Derived.Test.YthcahpgandappaaGreatDoorNc
namespace Go.Proofs.YthcahpgandappaaGreatDoor
open Go.RowKit

/-- All cells stay. -/
def KpC (W W' : World) : Prop := ∀ (j : Nat) (cs : Array Value) (t : TypeId) (m : Nat × Nat), W.heap[j]? = some (.cells cs t m) → W'.heap[j]? = some (.cells cs t m)
theorem KpC.below {W W' : World} (h : Below W.heap.size W W') : KpC W W' := fun j _ _ _ hj => (h.block j (Array.getElem?_eq_some_iff.1 hj).1).trans hj
theorem KpC.put {W : World} {D : Nat} {o o' : Obj} (hD : W.heap[D]? = some o) (ho : ∀ cs t m, o ≠ .cells cs t m) : KpC W (W.putObj D o') := fun j cs t m hj => by
  by_cases e : j = D
  · subst e
    rw [hD] at hj
    injection hj with hj
    exact absurd hj (ho _ _ _)
  · exact (World.putObj_heap_other e).trans hj
theorem own_cells {W W' : World} {B n size : Nat} {e : TypeId} {v : Value} {xs : List Value} (h : W.ownsRow B e size v n xs) (k : KpC W W') : W'.ownsRow B e size v n xs := by
  refine ⟨h.1, ?_⟩
  rcases h.2 with e1 | ⟨g, c, cur, rfl, hb, hc, rest⟩
  · exact .inl e1
  · exact .inr ⟨g, c, cur, rfl, hb, k g _ _ _ hc, rest⟩

theorem range_cells {F : Fence} {n : Nat} {P : Program} {g : Operand} {ps : Array Tmp} {assign body : Code} {Q : Exit → Act → World → Prop} {a : Act} {w : World}
    (hro : F.round = none) (h1 : 1 ≤ n) {gf : Nat} {lb : Array Value} (hg : a.eval g = .func (.func gf) #[] lb) (hF : F.fn gf) (eg : ∀ args w, (callFunc gf args).run P w = .ok (.enter gf args) w)
    {enc : Nat → Array Value} {N : Nat} {Kp : World → World → Prop} (hKt : ∀ x y z, Kp x y → Kp y z → Kp x z) (hKb : ∀ x y, Below w.heap.size x y → Kp x y) (hseq : YieldsC F (n - 1) P gf lb enc N Kp w) (hps : ∀ k, (enc k).size = ps.size)
    (I : Nat → World → Prop) (Ix : Code → World → Prop) (hI : ∀ k W W', I k W → Below w.heap.size W W' → KpC W W' → I k W') (hIx : ∀ c W W', Ix c W → Below w.heap.size W W' → KpC W W' → Ix c W') (h0 : I 0 w)
    (hround : ∀ (l k : Nat) (V : World), I k V → k < N → assign.wpIn (F.inRound l) (n - 1 - 1) P (Exit.then (fun a₁ V1 => V1 = V ∧ ∀ V2, I k V2 → body.wpIn (F.inRound l) (n - 1 - 1) P (RoundEndK Kp (I (k + 1)) Ix V2) a₁ V2) (fun _ _ _ => False)) { tmps := (ps.zip (enc k)).foldl (fun t (p, v) => t.setIfInBounds p v) a.tmps, defers := [] } V)
    (hdone : ∀ (D : Nat) (W : World), w.heap.size ≤ D → I N W → W.heap[D]? = some (.deferred (some [])) → Q .normal { a with defers := { target := .collected D, args := #[] } :: a.defers } W)
    (hstop : ∀ (D : Nat) (c : Code) (W : World), w.heap.size ≤ D → Ix c W → W.heap[D]? = some (.deferred (some [])) → c.wpIn F n P Q { a with defers := { target := .collected D, args := #[] } :: a.defers } W) :
    (Code.rangeFunc g ps assign body).wpIn F n P Q a w := by
  refine wpIn_rangeFunc fun fn hfn => ?_
  rw [hro]
  -- the loop's record, and the block for the rounds' deferred calls
  generalize hB : w.heap.size = B at *
  let rec' : LoopState → Option Code → Loop := fun st pe => { state := st, pending := pe, fn, tmps := a.tmps, params := ps, assign, body, defers := B }
  have st0 : ∀ st pe, (rec' st pe).state = st := fun _ _ => rfl
  generalize hR : rec' = R at *
  have hold : ∃ W1, (w.alloc (.deferred (some []))).alloc (.loop (R .ready none)) = W1 ∧ Below B w W1 ∧ W1.heap[B]? = some (.deferred (some [])) ∧ W1.heap[B + 1]? = some (.loop (R .ready none)) := by
    refine ⟨_, rfl, ((Below.refl B w).alloc (by omega) _).alloc (by simp; omega) _, ?_, ?_⟩
    · rw [← hB]; exact (Below.heap_alloc _ _ _ (by simp)).trans (World.alloc_heap_new w _)
    · have := World.alloc_heap_new (w.alloc (.deferred (some []))) (.loop (R .ready none))
      rwa [World.size_alloc, hB] at this
  obtain ⟨W1, hW1, hbw, hd1, hl1⟩ := hold
  refine ⟨B + 1, [{ target := .collected B, args := #[] }], W1, { target := .fn (.func gf) lb, args := #[.func (.yield (B + 1)) #[] #[]] }, W1, gf, #[.func (.yield (B + 1)) #[] #[]] ++ lb, W1, ?_, ?_, ?_, ?_, fun _ => h1, ?_⟩
  · have h : Sem.run P (Instr.enterLoop fn a.tmps ps assign body none) w = _ := run_enterLoop_outer _ _ _ _ _
    rw [hB] at h
    rw [← hW1, ← hR]
    exact h
  · simp only [resolve, hg]
    simp [go_sem]
  · intro f' hf'
    simp [Target.leads] at hf'
    subst hf'
    exact hF
  · simp [invoke, go_sem, eg]
  · refine (hseq (B + 1) (fun k W => I k W ∧ W.heap[B + 1]? = some (.loop (R .ready none)) ∧ W.heap[B]? = some (.deferred (some [])))
      (fun W => ∃ c, Ix c W ∧ W.heap[B + 1]? = some (.loop (R .done (some c))) ∧ W.heap[B]? = some (.deferred (some []))) W1 (by rw [hB]; exact hbw) ?_ ?_ ⟨hI 0 w W1 h0 hbw (KpC.below (by rw [hB]; exact hbw)), hl1, hd1⟩).mono ?_
    · -- new memory
      rintro k V V' ⟨hi, hl, hd⟩ hg
      have hlt : B + 1 < V.heap.size := (Array.getElem?_eq_some_iff.1 hl).1
      exact ⟨hI _ _ _ hi (Below.mono hg (by omega)) (KpC.below hg), (Below.block hg _ hlt).trans hl, (Below.block hg _ (by omega)).trans hd⟩
    · -- one round
      rintro k V ⟨hi, hl, hd⟩ hk
      have hy := run_yield (P := P) (args := enc k) hl (by rw [← hR]; exact hps k)
      rw [← hR] at hy
      refine ⟨fn, _, assign, body, hy, roundIn_of_wpIn hfn (wpIn_mono (hround _ k V hi hk) ?_)⟩
      rintro e a1 V1 hp
      cases e with
      | exit id => exact hp.elim
      | goto t => exact hp.elim
      | ret => exact hp.elim
      | panic ch => exact hp.elim
      | outgrown => exact hp.elim
      | normal =>
      obtain ⟨rfl, hbody⟩ := hp
      refine ⟨_, run_beginRound hl (st0 _ _), ?_⟩
      -- the record is busy while the body runs
      generalize hV2 : V1.putObj (B + 1) (.loop { R .ready none with state := .busy }) = V2
      have hlt : B + 1 < V1.heap.size := (Array.getElem?_eq_some_iff.1 hl).1
      have hl2 : V2.heap[B + 1]? = some (.loop { R .ready none with state := .busy }) := by rw [← hV2]; exact World.putObj_heap_same hlt
      have hd2 : V2.heap[B]? = some (.deferred (some [])) := by rw [← hV2]; exact (World.putObj_heap_other (by omega)).trans hd
      have hb2 : Below B V1 V2 := by rw [← hV2]; exact below_put (by omega) hl
      have hc2 : KpC V1 V2 := by rw [← hV2]; exact KpC.put hl (fun _ _ _ e => by cases e)
      have fin : ∀ (jump : Option Code) (V3 : World), KeepsOthers V2 V3 → ∃ V4, (Instr.endRound (B + 1) jump).run P V3 = .ok (.bool jump.isNone) V4 ∧ (Below B V3 V4 ∧ KpC V3 V4) ∧ V4.heap[B + 1]? = some (.loop (R (if jump.isNone then .ready else .done) jump)) ∧ V4.heap[B]? = some (.deferred (some [])) := fun jump V3 hk3 => by
        have hl3 := hk3.same _ _ hl2 rfl
        have hr := run_endRound (P := P) jump hl3
        refine ⟨_, hr, ⟨below_put (by omega) hl3, KpC.put hl3 (fun _ _ _ e => by cases e)⟩, ?_, (World.putObj_heap_other (by omega)).trans (hk3.same _ _ hd2 rfl)⟩
        rw [← hR]
        exact World.putObj_heap_same (Array.getElem?_eq_some_iff.1 hl3).1
      refine wpIn_mono (hbody V2 (hI _ _ _ hi hb2 hc2)) ?_
      rintro e a3 V3 hp
      cases e with
      | normal =>
        obtain ⟨hk3, hn3, hi3⟩ := hp
        obtain ⟨V4, hr, ⟨hb4, hc4⟩, hl4, hd4⟩ := fin none V3 hk3
        exact ⟨_, _, hr, .inl ⟨rfl, ⟨hI _ _ _ hi3 hb4 hc4, hl4, hd4⟩, hKt _ _ _ (hKb _ _ hb2) (hKt _ _ _ hn3 (hKb _ _ hb4))⟩⟩
      | ret =>
        obtain ⟨V4, hr, ⟨hb4, hc4⟩, hl4, hd4⟩ := fin (some .ret) V3 hp.1
        exact ⟨_, _, hr, .inr ⟨rfl, .ret, hIx _ _ _ hp.2 hb4 hc4, hl4, hd4⟩⟩
      | exit id =>
        obtain ⟨V4, hr, ⟨hb4, hc4⟩, hl4, hd4⟩ := fin (some (.exit id)) V3 hp.1
        exact ⟨_, _, hr, .inr ⟨rfl, .exit id, hIx _ _ _ hp.2 hb4 hc4, hl4, hd4⟩⟩
      | goto t =>
        obtain ⟨V4, hr, ⟨hb4, hc4⟩, hl4, hd4⟩ := fin (some (.goto t)) V3 hp.1
        exact ⟨_, _, hr, .inr ⟨rfl, .goto t, hIx _ _ _ hp.2 hb4 hc4, hl4, hd4⟩⟩
      | panic ch => exact hp.elim
      | outgrown => exact hp.elim
    · -- behind the iterator
      rintro e V ⟨⟨v, rfl⟩, ⟨hi, hl, hd⟩ | ⟨c, hi, hl, hd⟩⟩
      · have hr := run_endLoop (P := P) hl (by rw [← hR]; simp [rec'])
        rw [← hR] at hr
        exact ⟨none, _, hr, hdone B _ (Nat.le_refl _) (hI _ _ _ hi (below_put (by omega) hl) (KpC.put hl (fun _ _ _ e => by cases e))) ((World.putObj_heap_other (by omega)).trans hd)⟩
      · have hr := run_endLoop (P := P) hl (by rw [← hR]; simp [rec'])
        rw [← hR] at hr
        exact ⟨some c, _, hr, hstop B c _ (Nat.le_refl _) (hIx _ _ _ hi (below_put (by omega) hl) (KpC.put hl (fun _ _ _ e => by cases e))) ((World.putObj_heap_other (by omega)).trans hd)⟩
end Go.Proofs.YthcahpgandappaaGreatDoor
