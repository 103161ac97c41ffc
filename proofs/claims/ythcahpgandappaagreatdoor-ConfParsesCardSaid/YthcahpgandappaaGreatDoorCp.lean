/- The sizes' text of package conf; sizes written, read and compared. Conditions: at most 2000 sizes, each within the bounds of int64; texts of at most 10^6 bytes; the table of powers of ten holds its numbers. -/
import Derived.Test.YthcahpgandappaaGreatDoorCo
namespace Go.Proofs.YthcahpgandappaaGreatDoor
open Go.RowKit Go.Shelf

def tB (x : Int) : ByteArray := ⟨(textL x 0).toArray⟩
theorem tB_data (x : Int) : (tB x).data.toList = textL x 0 := rfl
theorem jlensC (sep : List UInt8) (B : Nat) : ∀ (ps : List (List UInt8)), (∀ p ∈ ps, p.length ≤ B) → (Lib.join ps sep).length ≤ ps.length * (B + sep.length)
  | [], _ => by simp [Lib.join]
  | p :: r, h => by
    have hp := h p (by simp)
    have hr : ∀ (l : List (List UInt8)), (∀ x ∈ l, x.length ≤ B) → (Lib.joinTail sep l).length ≤ l.length * (B + sep.length) := fun l => by
      induction l with
      | nil => intro _; simp [Lib.joinTail]
      | cons x l ih =>
        intro hx
        have h1 := ih (fun y hy => hx y (by simp [hy]))
        have h2 := hx x (by simp)
        simp only [Lib.joinTail, List.map_cons, List.flatten_cons, List.length_append, List.length_cons] at h1 ⊢
        rw [Nat.succ_mul]; omega
    have := hr r (fun x hx => h x (by simp [hx]))
    rw [Lib.join_cons, List.length_append, List.length_cons, Nat.succ_mul]
    omega
theorem nat_len {x : Int} (h : inR x 0 1048576 = true) : (textL x 0).length ≤ 83 := text_len (by decide) (inR_i64 h).1 (inR_i64 h).2
theorem sizesL_len {z : List Int} (h : allIn z = true) : (sizesL z).length ≤ z.length * 84 := by
  unfold sizesL
  have := jlensC [44] 83 (z.map (fun x => textL x 0)) (fun p hp => by obtain ⟨x, hx, rfl⟩ := List.mem_map.1 hp; exact nat_len (allIn_mem h x hx))
  simpa using this
theorem allIn_take {z : List Int} {k : Nat} (hk : k < z.length) (h : allIn (z.take k) = true) (h1 : inR (el z k) 0 1048576 = true) : allIn (z.take (k + 1)) = true := by
  unfold allIn at *
  rw [List.take_add_one, el_lt hk, List.all_append, h]
  simp [h1]
theorem allIn_no {z : List Int} {k : Nat} (hk : k < z.length) (h1 : inR (el z k) 0 1048576 = false) : allIn z = false := by
  unfold allIn
  rw [List.all_eq_false]
  exact ⟨el z k, List.mem_of_getElem? (el_lt hk), by rw [h1]; decide⟩
theorem sizesT_no {z : List Int} (h : allIn z = false) : sizesT z = [] := if_neg (fun e => by rw [h] at e; cases e.2)
theorem sizesT_nil : sizesT [] = [] := if_neg (fun e => e.1 rfl)
theorem take_map_snoc {α β : Type} (g : α → β) {z : List α} {k : Nat} {x : α} (h : z[k]? = some x) : (z.take (k + 1)).map g = (z.take k).map g ++ [g x] := by
  rw [List.take_add_one, h]; simp
theorem own_addr {w : World} {B n cap size : Nat} {e : TypeId} {a : Option Addr} {xs : List Value} (h : w.ownsRow B e size (.slice a n cap) n xs) (h0 : n ≠ 0) : ∃ g, a = some ⟨g, 0, none⟩ ∧ B ≤ g ∧ g < w.heap.size ∧ n ≤ cap := by
  rcases h.2 with ⟨_, h1⟩ | ⟨g, c, cur, e, hb, hg, hc, _⟩
  · exact absurd h1 h0
  · injection e with e1 e2 e3
    subst e1 e3
    exact ⟨g, rfl, hb, (World.ownsRow.lt h g rfl).2, hc⟩
theorem info_str24 : (Tryz.prog.info? 9).map (fun i => (i.zero, i.size, i.bytes)) = some (some (.string ⟨#[]⟩), 1, 16) := by kernel_rfl

set_option maxHeartbeats 4000000 in
theorem writeSizes_any {n : Nat} (a : Option Addr) (c : Nat) (z : List Int) (w : World) (hn : z.length = n) (hl : n ≤ 2000) (hz : ∀ x ∈ z, i64 x) (hr : RdK .i64 w.heap.size w a z) (hT : Lib.TabIs Tryz.prog w "internal/strconv.uint64pow10" .u64 Lib.pow10Tab) :
    Calls Tryz.prog 55 #[.slice a n c] w fun e w' => e = .returned (.string ⟨(sizesT z).toArray⟩) ∧ Grew w w' := by
  obtain ⟨i0, hi, hz0, hz1, hz2⟩ := info_parts info_str24
  have HN := Lib.hid hn
  have HX := Lib.hid hr
  have HZ := Lib.hid hz
  have HP := Lib.hid hT
  clear hn hr hz hT
  go_enter Tryz.func55, Tryz.ntmps55
  go_wp2
  go_loopw [3, 9] (fun v i wr => ∃ k : Nat, k ≤ n ∧ i = .int .i64 k ∧ Hid (allIn (z.take k) = true) ∧ Hid (wr.ownsRow w.heap.size 9 1 v k (((z.take k).map tB).map Value.string)) ∧ Hid (Grew w wr)) (fun _ i _ => n - (intOf i).toNat)
  case atStart => exact ⟨0, Nat.zero_le _, rfl, Lib.hid rfl, Lib.hid (World.ownsRow_nil _ _ _ _), Lib.hid (Grew.refl _)⟩
  case round =>
    obtain ⟨k, hk, rfl, HA, HB, HG⟩ := hrel
    by_cases hlt : k < n
    · have hkz : k < z.length := by rw [HN.out]; exact hlt
      obtain ⟨b, off, rfl, hb, hc⟩ := (HX.out.grow HG.out).at hkz
      have HW := Lib.hid (writeCount_any (el z k) wr (HZ.out _ (List.mem_of_getElem? (el_lt hkz))) (tab_below HP.out (Nat.le_refl _) HG.out))
      have HEL := Lib.hid (el_lt hkz)
      cases h1 : inR (el z k) 0 1048576 with
      | false =>
        have HE := Lib.hid (sizesT_no (allIn_no hkz h1))
        have HC := Lib.hid (cntT_no h1)
        have hb0 : (([] : List UInt8) == []) = true := rfl
        clear h1 HEL
        generalize el z k = x at *
        go_wp2_with fail
        refine HW.out.mono ?_
        rintro e w1 ⟨rfl, g1⟩
        rw [HC.out]
        go_wp2
        go_ret
        exact ⟨by rw [HE.out]; rfl, HG.out.trans g1⟩
      | true =>
        have HA' := Lib.hid (allIn_take hkz HA.out h1)
        have HC := Lib.hid (cntT_yes h1)
        have HM : Hid (((z.take (k + 1)).map tB).map Value.string = ((z.take k).map tB).map Value.string ++ [.string ⟨(textL (el z k) 0).toArray⟩]) := Lib.hid (by rw [take_map_snoc tB HEL.out, List.map_append]; rfl)
        have hb0 : (textL (el z k) 0 == []) = false := by rw [beq_eq_false_iff_ne]; exact text_ne _ _
        have HTL : Hid ((textL (el z k) 0).length ≤ 83) := Lib.hid (nat_len h1)
        clear h1 HEL
        generalize el z k = x at *
        generalize textL x 0 = tl at *
        go_wp2_with fail
        refine HW.out.mono ?_
        rintro e w1 ⟨rfl, g1⟩
        rw [HC.out]
        have HB1 := Lib.hid (own_grow HB.out g1)
        have HG1 := Lib.hid (HG.out.trans g1)
        have hsw := HG1.out.size
        clear g1 hc HB
        generalize ((z.take k).map tB).map Value.string = xs at *
        go_wp2_with (at_builtin; refine wpList_append_own _ rfl _ _ 35 rfl w.heap.size 9 i0 (.string ⟨#[]⟩) 1 16 Tryz.underlying35 hi hz0 hz1 hz2 rfl (by decide) _ _ _ rfl (HB1.out.alloc _) ⟨w1.heap.size, 0, none⟩ 1 1 [.string ⟨tl.toArray⟩] rfl rfl (cell_one_new _ _ _) ?qc3 ?qc4 ?qc5 ?qc6 ?_)
        case qc3 => intro u hu; simp at hu; subst hu; rfl
        case qc4 => unfold maxLen; omega
        case qc5 => omega
        case qc6 => simp; omega
        intro v' w2 hown hgrow hnil
        have HB2 : Hid (w2.ownsRow w.heap.size 9 1 v' (k + 1) (((z.take (k + 1)).map tB).map Value.string)) := Lib.hid (by rw [HM.out]; exact hown)
        have HG2 := Lib.hid (Below.grown (HG1.out.alloc (.cells #[.string ⟨tl.toArray⟩] 9)) hgrow (by simp; omega) (fun x hx => (World.ownsRow.lt HB1.out x hx).1))
        clear hown hgrow hnil
        go_wp2
        go_roundw
        case rel => exact ⟨k + 1, hlt, by go_num, HA', HB2, HG2⟩
        case measure => simp [intOf]; omega
    · obtain rfl : k = n := by omega
      have hta : z.take k = z := by rw [← HN.out, List.take_length]
      rw [hta] at HA HB
      by_cases h0 : k = 0
      · subst h0
        obtain rfl : z = [] := List.eq_nil_of_length_eq_zero HN.out
        obtain ⟨a', c', rfl⟩ := own_formC HB.out
        clear HB
        go_wp2_with fail
        refine (Tryz.strings_Join_none a' c' ⟨#[44]⟩ _).mono ?_
        rintro e w3 ⟨rfl, rfl⟩
        go_wp2
        go_ret
        exact ⟨by rw [sizesT_nil]; rfl, HG.out⟩
      · have hrow := HB.out
        have hzn : z ≠ [] := fun e => by have := HN.out; rw [e] at this; simp at this; omega
        have HE := Lib.hid (sizesT_yes hzn HA.out)
        have hsl := sizesL_len HA.out
        rw [HN.out] at hsl
        obtain ⟨a', cap, rfl⟩ := own_formC HB.out
        obtain ⟨g, rfl, _, hlg, hcap⟩ := own_addr hrow h0
        have hml : (z.map tB).length = k := by rw [List.length_map, HN.out]
        have hmd : (z.map tB).map (·.data.toList) = z.map (fun x => textL x 0) := by rw [List.map_map]; rfl
        have hjn := Tryz.strings_Join g 0 cap (z.map tB) ⟨#[44]⟩ wr (fun j x hx => by
          have hj : j < (z.map tB).length := (List.getElem?_eq_some_iff.1 hx).1
          rw [Nat.zero_add, World.ownsRow.cellAt hrow j (by omega), List.getElem?_map, hx]; rfl) hlg (by omega) (by omega) (by
          show (Lib.join ((z.map tB).map (·.data.toList)) [44]).length ≤ _
          rw [hmd]
          show (sizesL z).length ≤ _
          omega)
        rw [hml] at hjn
        rw [show Lib.join ((z.map tB).map (·.data.toList)) (⟨#[44]⟩ : ByteArray).data.toList = sizesL z from by rw [hmd]; rfl] at hjn
        have HJ := Lib.hid hjn
        clear hjn hrow hml hmd HB hsl hta
        go_wp2_with fail
        refine HJ.out.mono ?_
        rintro e w3 ⟨rfl, g3⟩
        go_wp2
        go_ret
        exact ⟨by rw [HE.out]; rfl, HG.out.trans g3⟩
end Go.Proofs.YthcahpgandappaaGreatDoor
