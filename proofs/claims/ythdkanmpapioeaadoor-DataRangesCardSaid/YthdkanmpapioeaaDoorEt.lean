/- The iterator numbers of package data: all numbers of the inputs and outputs of all examples, in their order. Condition: at most 100 examples, each list of at most 1000 numbers. -/
import Derived.Test.YthdkanmpapioeaaDoorEg
import Derived.Test.YthdkanmpapioeaaDoorEd
namespace Go.Proofs.YthdkanmpapioeaaDoor
open Go.RowKit Go.Shelf
attribute [local go_sem] Oper.semAt_some

/-- All numbers; how many come ahead of an example. -/
def allN (es : List Ex) : List Int := es.flatMap (fun e => e.1 ++ e.2)
def offN (es : List Ex) : Nat → Nat
  | 0 => 0
  | k + 1 => offN es k + (lx es k + ly es k)
def posN (es : List Ex) (i s : Nat) : Nat := offN es i + (if s = 0 then 0 else if s = 1 then lx es i else lx es i + ly es i)
theorem allN_len : ∀ es : List Ex, (allN es).length = offN es es.length
  | [] => rfl
  | e :: es => by
    have key : ∀ k, offN (e :: es) (k + 1) = e.1.length + e.2.length + offN es k := by
      intro k
      induction k with
      | zero => simp [offN, lx, ly, ex]
      | succ k ih =>
        rw [offN, ih]
        show _ + (lx (e :: es) (k + 1) + ly (e :: es) (k + 1)) = _
        have h1 : lx (e :: es) (k + 1) = lx es k := by simp [lx, ex]
        have h2 : ly (e :: es) (k + 1) = ly es k := by simp [ly, ex]
        rw [h1, h2, offN]
        omega
    have ih := allN_len es
    unfold allN at ih ⊢
    rw [List.flatMap_cons, List.length_append, List.length_append, ih, List.length_cons, key]
theorem allN_at : ∀ (es : List Ex) (i t : Nat), i < es.length → el (allN es) (offN es i + t) = el ((ex es i).1 ++ (ex es i).2 ++ allN (es.drop (i + 1))) t
  | [], i, t, h => absurd h (Nat.not_lt_zero _)
  | e :: es, 0, t, _ => by
    show el (allN (e :: es)) (0 + t) = _
    rw [Nat.zero_add]
    unfold allN
    rw [List.flatMap_cons]
    rfl
  | e :: es, i + 1, t, h => by
    have key : ∀ k, offN (e :: es) (k + 1) = e.1.length + e.2.length + offN es k := by
      intro k
      induction k with
      | zero => simp [offN, lx, ly, ex]
      | succ k ih =>
        rw [offN, ih]
        have h1 : lx (e :: es) (k + 1) = lx es k := by simp [lx, ex]
        have h2 : ly (e :: es) (k + 1) = ly es k := by simp [ly, ex]
        rw [h1, h2, offN]
        omega
    have ih := allN_at es i t (by simpa using h)
    have hx : ex (e :: es) (i + 1) = ex es i := by simp [ex]
    rw [key, hx]
    show el (allN (e :: es)) _ = el (_ ++ _ ++ allN (es.drop (i + 1))) t
    rw [← ih]
    unfold allN el
    rw [List.flatMap_cons, List.getElem?_append_right (by rw [List.length_append]; omega), List.length_append]
    congr 2
    omega
theorem el_left {a b : List Int} {t : Nat} (h : t < a.length) : el (a ++ b) t = el a t := by unfold el; rw [List.getElem?_append_left h]
theorem el_right {a b : List Int} {t : Nat} : el (a ++ b) (a.length + t) = el b t := by unfold el; rw [List.getElem?_append_right (by omega), Nat.add_sub_cancel_left]
theorem allN_x {es : List Ex} {i t : Nat} (hi : i < es.length) (ht : t < lx es i) : el (allN es) (posN es i 0 + t) = el (ex es i).1 t := by
  unfold posN
  rw [if_pos rfl, Nat.add_zero, allN_at es i t hi, List.append_assoc, el_left ht]
theorem allN_y {es : List Ex} {i t : Nat} (hi : i < es.length) (ht : t < ly es i) : el (allN es) (posN es i 1 + t) = el (ex es i).2 t := by
  unfold posN
  rw [if_neg (by decide), if_pos rfl, Nat.add_assoc, allN_at es i _ hi, List.append_assoc]
  show el ((ex es i).1 ++ _) ((ex es i).1.length + t) = _
  rw [el_right, el_left ht]
theorem offN_mono (es : List Ex) {i j : Nat} (h : i ≤ j) : offN es i ≤ offN es j := by
  induction h with
  | refl => exact Nat.le_refl _
  | step _ ih => exact Nat.le_trans ih (Nat.le_add_right _ _)
theorem pos_lt_x {es : List Ex} {i t : Nat} (hi : i < es.length) (ht : t < lx es i) : posN es i 0 + t < (allN es).length := by
  rw [allN_len]
  have := offN_mono es (show i + 1 ≤ es.length from hi)
  simp only [offN] at this
  unfold posN
  rw [if_pos rfl]
  omega
theorem pos_lt_y {es : List Ex} {i t : Nat} (hi : i < es.length) (ht : t < ly es i) : posN es i 1 + t < (allN es).length := by
  rw [allN_len]
  have := offN_mono es (show i + 1 ≤ es.length from hi)
  simp only [offN] at this
  unfold posN
  rw [if_neg (by decide), if_pos rfl]
  omega
theorem pos_one (es : List Ex) (i : Nat) : posN es i 1 = posN es i 0 + lx es i := by simp [posN]
theorem pos_two (es : List Ex) (i : Nat) : posN es i 2 = posN es i 1 + ly es i := by simp [posN]; omega
theorem pos_next (es : List Ex) (i : Nat) : posN es (i + 1) 0 = posN es i 2 := by simp [posN, offN]
theorem pos_end (es : List Ex) : posN es es.length 0 = (allN es).length := by rw [allN_len]; simp [posN]

theorem numbers_any (a : Option Addr) (n c : Nat) (w : World) :
    Calls Tryd.prog 37 #[.slice a n c] w fun e w' => e = .returned (.func (.func 56) #[] #[.pointer (some ⟨w.heap.size, 0, none⟩)]) ∧ w' = w.alloc (.cells #[.slice a n c] 26) := by
  go_enter Tryd.func37, Tryd.ntmps37
  go_wp2
  go_ret
  exact ⟨rfl, rfl⟩

theorem side_x (xa ya : Option Addr) (n m c d : Nat) (W : World) : (Instr.index 89 (.agg #[.slice xa n c, .slice ya m d]) (.int .i64 0)).run Tryd.prog W = .ok (.slice xa n c) W := by kernel_rfl
theorem side_y (xa ya : Option Addr) (n m c d : Nat) (W : World) : (Instr.index 89 (.agg #[.slice xa n c, .slice ya m d]) (.int .i64 1)).run Tryd.prog W = .ok (.slice ya m d) W := by kernel_rfl
set_option maxRecDepth 100000 in
set_option maxHeartbeats 4000000 in
theorem numbers_in (n : Nat) (hn : 1 ≤ n) (l : Nat) {B D len cap : Nat} {a : Option Addr} {es : List Ex} (hz : es.length = len) (hs : SmE es) (J : Nat → World → Prop) (X : World → Prop)
    (hJ : ∀ k V V', J k V → V.grownBy V' none → J k V')
    (hY : ∀ k V, J k V → k < (allN es).length → YieldAt Fence.wide (n - 1) Tryd.prog l #[.int .i64 (el (allN es) k)] V fun e V' => (e = .returned (.bool true) ∧ J (k + 1) V' ∧ Below D V V') ∨ (e = .returned (.bool false) ∧ X V'))
    (W : World) (hDW : D ≤ W.heap.size) (hT : Boxed W B 26 (.slice a len cap)) (hr : RdE D W a es) (h0 : J 0 W) :
    CallsIn Fence.wide n Tryd.prog 56 #[.func (.yield l) #[] #[], .pointer (some ⟨B, 0, none⟩)] W fun e W' => (∃ v, e = .returned v) ∧ (J (allN es).length W' ∨ X W') := by
  have c0 := hT.cell
  have hl := hs.1
  rw [hz] at hl
  have HR := Lib.hid hr
  have HZ := Lib.hid hz
  have HS := Lib.hid hs
  have HYH := Lib.hid hY
  have HJ := Lib.hid hJ
  clear hT hr hz hY hs hJ
  refine callsIn_of_wp Tryd.func56 rfl trivial ?_ rfl
  simp only [Tryd.ntmps56, List.size_toArray, List.length_cons, List.length_nil, Nat.reduceAdd, Nat.reduceSub, Array.replicate_succ, Array.replicate_zero, List.push_toArray, List.append_toArray, List.nil_append, List.cons_append]
  gi_wp2
  gi_loopw [11] (fun i wr => ∃ k : Nat, k ≤ len ∧ i = .int .i64 (k : Int) ∧ J (posN es k 0) wr ∧ Hid (RdE D wr a es) ∧ D ≤ wr.heap.size) (fun i _ => len - (intOf i).toNat)
  case atStart => exact ⟨0, Nat.zero_le _, by simp, h0, HR, hDW⟩
  case round =>
    clear c0 hDW HR h0
    obtain ⟨k, hk, rfl, hJk, HRk, hDk⟩ := hrel
    by_cases hlt : k < len
    · have hke : k < es.length := by rw [HZ.out]; exact hlt
      obtain ⟨b, off, xa, xc, ya, yc, rfl, hb, d0, d1, r1, r2, _⟩ := HRk.out.at hke
      obtain ⟨s1, s2⟩ := HS.out.2 k hke
      have gA : Grew wr (wr.alloc (.cells #[.slice xa (lx es k) xc, .slice ya (ly es k) yc] 24)) := (Grew.refl _).alloc _
      have HJA := Lib.hid (HJ.out _ _ _ hJk (gA.by' none))
      have HRA := Lib.hid (HRk.out.below (gA.mono hDk))
      have R1 := Lib.hid (r1.below (gA.mono hDk))
      have R2 := Lib.hid (r2.below (gA.mono hDk))
      have hDA : D ≤ (wr.alloc (.cells #[.slice xa (lx es k) xc, .slice ya (ly es k) yc] 24)).heap.size := by simp; omega
      have HDA := Lib.hid hDA
      have HM1 : Hid ((ex es k).1.length = lx es k) := Lib.hid rfl
      have HM2 : Hid ((ex es k).2.length = ly es k) := Lib.hid rfl
      have HX := Lib.hid (fun (t : Nat) (ht : t < lx es k) => And.intro (allN_x hke ht) (pos_lt_x hke ht))
      have HY := Lib.hid (fun (t : Nat) (ht : t < ly es k) => And.intro (allN_y hke ht) (pos_lt_y hke ht))
      have HP1 := Lib.hid (pos_one es k)
      have HP2 := Lib.hid (pos_two es k)
      have HP3 := Lib.hid (pos_next es k)
      clear hJk r1 r2 gA hDA
      generalize lx es k = m1 at *
      generalize ly es k = m2 at *
      gi_wp2
      generalize wr.alloc (.cells #[.slice xa m1 xc, .slice ya m2 yc] 24) = wv at *
      gi_loopw [20] (fun i ws => ∃ s : Nat, s ≤ 2 ∧ i = .int .i64 (s : Int) ∧ J (posN es k s) ws ∧ Hid (RdE D ws (some ⟨b, off, none⟩) es) ∧ Hid (RdK .i64 D ws xa (ex es k).1) ∧ Hid (RdK .i64 D ws ya (ex es k).2) ∧ D ≤ ws.heap.size) (fun i _ => 2 - (intOf i).toNat)
      case atStart => exact ⟨0, by omega, by simp, HJA.out, HRA, R1, R2, HDA.out⟩
      case round =>
        clear HJA HRA R1 R2 HDA HRk hDk d0 d1
        obtain ⟨s, hs2, hi, hJs, HRs, R1s, R2s, hDs⟩ := hrel
        have hc : s = 0 ∨ s = 1 ∨ s = 2 := by omega
        have hix := side_x xa ya m1 m2 xc yc
        have hiy := side_y xa ya m1 m2 xc yc
        rcases hc with rfl | rfl | rfl
        · rw [show ((0 : Nat) : Int) = 0 from rfl] at hi
          subst hi
          gi_wp2
          gi_loopw [25] (fun i wi => ∃ t : Nat, t ≤ m1 ∧ i = .int .i64 (t : Int) ∧ J (posN es k 0 + t) wi ∧ Hid (RdE D wi (some ⟨b, off, none⟩) es) ∧ Hid (RdK .i64 D wi xa (ex es k).1) ∧ Hid (RdK .i64 D wi ya (ex es k).2) ∧ D ≤ wi.heap.size) (fun i _ => m1 - (intOf i).toNat)
          case atStart => exact ⟨0, Nat.zero_le _, by simp, hJs, HRs, R1s, R2s, hDs⟩
          case round =>
            clear hJs HRs R1s R2s hDs
            rename World => wi
            obtain ⟨t, ht, rfl, hJt, HRt, R1t, R2t, hDt⟩ := hrel
            by_cases htl : t < m1
            · obtain ⟨ib, io, hia, hib, hic⟩ := R1t.out.at (k := t) (by rw [HM1.out]; exact htl)
              subst hia
              obtain ⟨hel, hpl⟩ := HX.out t htl
              obtain ⟨fn, tmps, assign, body, hy, hR⟩ := HYH.out _ wi hJt hpl
              rw [hel] at hy
              have HRR := Lib.hid hR
              clear hR hel hpl
              generalize el (ex es k).1 t = z at *
              gi_wp2
              refine HRR.out.mono ?_
              rintro e W3 (⟨rfl, hJ3, hk3⟩ | ⟨rfl, hX⟩)
              · have HR3 := Lib.hid (HRt.out.below hk3)
                have R13 := Lib.hid (R1t.out.below hk3)
                have R23 := Lib.hid (R2t.out.below hk3)
                have hD3 := Nat.le_trans hDt hk3.size
                gi_wp2
                go_roundw
                case rel => exact ⟨t + 1, by omega, by go_num, hJ3, HR3, R13, R23, hD3⟩
                case measure => simp [intOf]; omega
              · gi_wp2
                refine bodyPost_ret (results_none rfl _ _ _) rfl ?_
                exact ⟨⟨_, rfl⟩, .inr hX⟩
            · obtain rfl : t = m1 := by omega
              gi_wp2
              go_roundw
              case rel => exact ⟨1, by omega, by go_num, by rw [HP1.out]; exact hJt, HRt, R1t, R2t, hDt⟩
              case measure => simp [intOf]
        · rw [show ((1 : Nat) : Int) = 1 from rfl] at hi
          subst hi
          gi_wp2
          gi_loopw [25] (fun i wi => ∃ t : Nat, t ≤ m2 ∧ i = .int .i64 (t : Int) ∧ J (posN es k 1 + t) wi ∧ Hid (RdE D wi (some ⟨b, off, none⟩) es) ∧ Hid (RdK .i64 D wi xa (ex es k).1) ∧ Hid (RdK .i64 D wi ya (ex es k).2) ∧ D ≤ wi.heap.size) (fun i _ => m2 - (intOf i).toNat)
          case atStart => exact ⟨0, Nat.zero_le _, by simp, hJs, HRs, R1s, R2s, hDs⟩
          case round =>
            clear hJs HRs R1s R2s hDs
            rename World => wi
            obtain ⟨t, ht, rfl, hJt, HRt, R1t, R2t, hDt⟩ := hrel
            by_cases htl : t < m2
            · obtain ⟨ib, io, hia, hib, hic⟩ := R2t.out.at (k := t) (by rw [HM2.out]; exact htl)
              subst hia
              obtain ⟨hel, hpl⟩ := HY.out t htl
              obtain ⟨fn, tmps, assign, body, hy, hR⟩ := HYH.out _ wi hJt hpl
              rw [hel] at hy
              have HRR := Lib.hid hR
              clear hR hel hpl
              generalize el (ex es k).2 t = z at *
              gi_wp2
              refine HRR.out.mono ?_
              rintro e W3 (⟨rfl, hJ3, hk3⟩ | ⟨rfl, hX⟩)
              · have HR3 := Lib.hid (HRt.out.below hk3)
                have R13 := Lib.hid (R1t.out.below hk3)
                have R23 := Lib.hid (R2t.out.below hk3)
                have hD3 := Nat.le_trans hDt hk3.size
                gi_wp2
                go_roundw
                case rel => exact ⟨t + 1, by omega, by go_num, hJ3, HR3, R13, R23, hD3⟩
                case measure => simp [intOf]; omega
              · gi_wp2
                refine bodyPost_ret (results_none rfl _ _ _) rfl ?_
                exact ⟨⟨_, rfl⟩, .inr hX⟩
            · obtain rfl : t = m2 := by omega
              gi_wp2
              go_roundw
              case rel => exact ⟨2, by omega, by go_num, by rw [HP2.out]; exact hJt, HRt, R1t, R2t, hDt⟩
              case measure => simp [intOf]
        · rw [show ((2 : Nat) : Int) = 2 from rfl] at hi
          subst hi
          gi_wp2
          go_roundw
          case rel => exact ⟨k + 1, by omega, by go_num, by rw [HP3.out]; exact hJs, HRs, hDs⟩
          case measure => simp [intOf]; omega
    · obtain rfl : k = len := by omega
      have HPE := Lib.hid (pos_end es)
      rw [HZ.out] at HPE
      gi_wp2
      go_end0
      exact ⟨⟨_, rfl⟩, .inl (by rw [← HPE.out]; exact hJk)⟩
theorem numbers_yields (n : Nat) (hn : 1 ≤ n) {B D len cap : Nat} {a : Option Addr} {es : List Ex} (hz : es.length = len) (hs : SmE es) (w : World) (hB : B < w.heap.size) (hD : D ≤ w.heap.size) (hT : Boxed w B 26 (.slice a len cap)) (hr : RdE D w a es) :
    YieldsO Fence.wide n Tryd.prog 56 #[.pointer (some ⟨B, 0, none⟩)] (fun k => #[.int .i64 (el (allN es) k)]) (allN es).length (Below D) (fun V V' => V.grownBy V' none) w := fun l J X W hW hJ hY h0 =>
  numbers_in n hn l hz hs J X hJ hY W (Nat.le_trans hD hW.size) ((hW.block B hB).trans hT) (hr.below (hW.mono hD)) h0
end Go.Proofs.YthdkanmpapioeaaDoor
