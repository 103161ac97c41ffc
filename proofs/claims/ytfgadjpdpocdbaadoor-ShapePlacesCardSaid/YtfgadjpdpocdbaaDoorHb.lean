/- The names of parameters, plain; what a name is read as. No program is named here. -/
import Derived.Test.YtfgadjpdpocdbaaDoorHa
import Derived.Test.YtfgadjpdpocdbaaDoorDm
namespace Go.Proofs.YtfgadjpdpocdbaaDoor
open Go.Lib Go.RowKit

/-- The name of a weight, or of a bias (c is below 0). -/
def nmL (k r : Nat) (c : Int) : List UInt8 := if c < 0 then 98 :: (decDigits k ++ 46 :: decDigits r) else 119 :: (decDigits k ++ 46 :: (decDigits r ++ 46 :: decDigits c.toNat))
theorem nmL_b (k r : Nat) : nmL k r (-1) = 98 :: (decDigits k ++ 46 :: decDigits r) := rfl
theorem nmL_w {k r : Nat} {c : Int} (h : 0 ≤ c) : nmL k r c = 119 :: (decDigits k ++ 46 :: (decDigits r ++ 46 :: decDigits c.toNat)) := by unfold nmL; rw [if_neg (by omega)]
theorem nmL_ne (k r : Nat) (c : Int) : nmL k r c ≠ [] := by unfold nmL; split <;> simp
/-- Three numbers, one of which is at hand. -/
def get3 (a : Nat) (s : Int × Int × Int) : Int := match a with
  | 0 => s.1
  | 1 => s.2.1
  | _ => s.2.2
def put3 (a : Nat) (s : Int × Int × Int) (v : Int) : Int × Int × Int := match a with
  | 0 => (v, s.2.1, s.2.2)
  | 1 => (s.1, v, s.2.2)
  | _ => (s.1, s.2.1, v)
theorem get_put (a : Nat) (s : Int × Int × Int) (v : Int) : get3 a (put3 a s v) = v := by
  match a with
  | 0 => rfl
  | 1 => rfl
  | _ + 2 => rfl
theorem put_put (a : Nat) (s : Int × Int × Int) (u v : Int) : put3 a (put3 a s u) v = put3 a s v := by
  match a with
  | 0 => rfl
  | 1 => rfl
  | _ + 2 => rfl
theorem put_get (a : Nat) (s : Int × Int × Int) : put3 a s (get3 a s) = s := by
  match a with
  | 0 => rfl
  | 1 => rfl
  | _ + 2 => rfl
/-- One digit more. -/
def dig3 (x : Int) (c : UInt8) : Int := wrap64 (wrap64 (x * 10) + ((c.toNat : Int) - 48))
/-- What the rest of a name is read as, when numbers are there already. -/
def rdGo : Nat → Int × Int × Int → List UInt8 → Int × Int × Int
  | _, s, [] => s
  | a, s, c :: t => if c = 46 ∧ a < 2 then rdGo (a + 1) s t else if isDig c = true then rdGo a (put3 a s (dig3 (get3 a s) c)) t else s
/-- What a text of ASCII is read as. -/
def rdV : List UInt8 → Int × Int × Int
  | [] => (0, 0, 0)
  | _ :: t => rdGo 0 (0, 0, 0) t
theorem dig3_in {x : Int} {c : UInt8} {m : Int} (h0 : 0 ≤ x) (hc : isDig c = true) (hm : x * 10 + ((c.toNat - 48 : Nat) : Int) ≤ m) (h1 : m ≤ 9223372036854775807) : dig3 x c = x * 10 + ((c.toNat - 48 : Nat) : Int) := by
  have hd : 48 ≤ c.toNat ∧ c.toNat ≤ 57 := by simpa [isDig] using hc
  unfold dig3
  rw [IntWalk.wrap64_in (x * 10) ⟨by omega, by omega⟩, IntWalk.wrap64_in _ ⟨by omega, by omega⟩]
  omega
theorem dig_no {c : UInt8} (h : isDig c = true) : c ≠ 46 := (dig_ne h).1
theorem rd_digits (a : Nat) (rest : List UInt8) : ∀ (ds : List UInt8) (s : Int × Int × Int), allDig ds = true → 0 ≤ get3 a s → get3 a s * 10 ^ ds.length + (val ds : Nat) ≤ 9223372036854775807 →
    rdGo a s (ds ++ rest) = rdGo a (put3 a s (get3 a s * 10 ^ ds.length + (val ds : Nat))) rest
  | [], s, _, _, _ => by simp [val, put_get]
  | c :: ds, s, hd, h0, h1 => by
    simp only [allDig, List.all_cons, Bool.and_eq_true] at hd
    have hc := hd.1
    have hdd : 48 ≤ c.toNat ∧ c.toNat ≤ 57 := by simpa [isDig] using hc
    have hp : (1 : Int) ≤ 10 ^ ds.length := by
      have : (0 : Int) < 10 ^ ds.length := Int.pow_pos (by omega)
      omega
    have e1 : get3 a s * 10 ^ (c :: ds).length + (val (c :: ds) : Nat) = (get3 a s * 10 + ((c.toNat - 48 : Nat) : Int)) * 10 ^ ds.length + (val ds : Nat) := by
      simp only [List.length_cons, val, Int.pow_succ]
      rw [Int.add_mul]
      push_cast
      rw [Int.mul_assoc, Int.mul_comm (10 ^ ds.length) 10]
      omega
    rw [e1] at h1 ⊢
    have hm : get3 a s * 10 + ((c.toNat - 48 : Nat) : Int) ≤ (get3 a s * 10 + ((c.toNat - 48 : Nat) : Int)) * 10 ^ ds.length := by
      have := Int.mul_le_mul_of_nonneg_left hp (show 0 ≤ get3 a s * 10 + ((c.toNat - 48 : Nat) : Int) by omega)
      omega
    have e2 := dig3_in (x := get3 a s) (m := 9223372036854775807) h0 hc (by omega) (Int.le_refl _)
    rw [List.cons_append]
    show (if c = 46 ∧ a < 2 then rdGo (a + 1) s (ds ++ rest) else if isDig c = true then rdGo a (put3 a s (dig3 (get3 a s) c)) (ds ++ rest) else s) = _
    rw [if_neg (fun h => dig_no hc h.1), if_pos hc, e2, rd_digits a rest ds _ hd.2 (by rw [get_put]; omega) (by rw [get_put]; exact h1), get_put, put_put]
theorem rd_dec (a : Nat) (n : Nat) (rest : List UInt8) (s : Int × Int × Int) (h0 : get3 a s = 0) (h : n ≤ 1048576) : rdGo a s (decDigits n ++ rest) = rdGo a (put3 a s (n : Int)) rest := by
  rw [rd_digits a rest _ s (allDig_dec n) (by omega) (by rw [h0, val_dec]; omega), h0, val_dec]
  simp
theorem rd_point {a : Nat} (s : Int × Int × Int) (t : List UInt8) (h : a < 2) : rdGo a s (46 :: t) = rdGo (a + 1) s t := by
  show (if (46 : UInt8) = 46 ∧ a < 2 then _ else _) = _
  rw [if_pos ⟨rfl, h⟩]
/-- A name is read as what it names. -/
theorem rd_name {k r : Nat} {c : Int} (hk : k ≤ 1048576) (hr : r ≤ 1048576) (hc : c ≤ 1048576) : rdV (nmL k r c) = ((k : Int), (r : Int), if c < 0 then 0 else c) := by
  unfold nmL
  split
  · show rdGo 0 (0, 0, 0) _ = _
    have e := rd_dec 1 r [] (put3 0 (0, 0, 0) (k : Int)) rfl hr
    rw [List.append_nil] at e
    rw [rd_dec 0 k _ _ rfl hk, rd_point _ _ (by omega), e]
    rfl
  · show rdGo 0 (0, 0, 0) _ = _
    have e := rd_dec 2 c.toNat [] (put3 1 (put3 0 (0, 0, 0) (k : Int)) (r : Int)) rfl (by omega)
    rw [List.append_nil] at e
    rw [rd_dec 0 k _ _ rfl hk, rd_point _ _ (by omega), rd_dec 1 r _ _ rfl hr, rd_point _ _ (by omega), e, Int.toNat_of_nonneg (by omega)]
    rfl
theorem at_small {zs : List Int} {i c : Int} {k r : Nat} (h : OkS zs) (hl : zs.length ≤ 1048576) (ha : At zs i k r c) : k ≤ 1048576 ∧ r ≤ 1048576 ∧ c ≤ 1048576 := by
  have h1 := next_in h ha.1
  have h2 := this_in h ha.1
  have h3 := ha.1
  unfold lnk at h3
  refine ⟨by omega, by have := ha.2.1; omega, ?_⟩
  obtain ⟨_, _, ⟨_, h4, _⟩ | ⟨h4, _⟩⟩ := ha <;> omega
/-- Different parameters have different names. -/
theorem nm_inj {zs : List Int} {i i' c c' : Int} {k r k' r' : Nat} (h : OkS zs) (hl : zs.length ≤ 1048576) (ha : At zs i k r c) (hb : At zs i' k' r' c') (he : nmL k r c = nmL k' r' c') : i = i' := by
  obtain ⟨a1, a2, a3⟩ := at_small h hl ha
  obtain ⟨b1, b2, b3⟩ := at_small h hl hb
  have h1 := rd_name a1 a2 a3
  rw [he, rd_name b1 b2 b3] at h1
  simp only [Prod.mk.injEq] at h1
  have l1 := at_low ha
  have l2 := at_low hb
  have hs : c < 0 ↔ c' < 0 := by
    unfold nmL at he
    by_cases e1 : c < 0 <;> by_cases e2 : c' < 0 <;> simp only [e1, e2, if_true, if_false, List.cons.injEq] at he ⊢ <;> exact absurd he.1 (by decide)
  obtain rfl : k = k' := by omega
  obtain rfl : r = r' := by omega
  obtain rfl : c = c' := by
    by_cases e1 : c < 0
    · have := hs.1 e1; omega
    · have e2 : ¬ c' < 0 := fun e => e1 (hs.2 e)
      rw [if_neg e1, if_neg e2] at h1; omega
  exact at_same ha hb
theorem nm_len {k r : Nat} {c : Int} (hk : k ≤ 1048576) (hr : r ≤ 1048576) (hc : c ≤ 1048576) : (nmL k r c).length ≤ 60 := by
  have h1 := dec_len (u := k) (k := 7) (by omega) (by omega)
  have h2 := dec_len (u := r) (k := 7) (by omega) (by omega)
  have h3 := dec_len (u := c.toNat) (k := 7) (by omega) (by omega)
  unfold nmL
  split <;> simp <;> omega
end Go.Proofs.YtfgadjpdpocdbaaDoor
