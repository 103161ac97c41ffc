/- Texts of configurations as plain functions on lists of bytes: parts between commas, the text of a configuration, what reads it again, the reference's way, and that both ways find just the configuration that has the text. -/
import Derived.Test.YthcahpgandappaaGreatDoorCa
import Derived.Test.YthcahpgandappaaGreatDoorEa
import Derived.Test.YthcahpgandappaaGreatDoorYf
import Derived.Lib.Split
namespace Go.Proofs.YthcahpgandappaaGreatDoor
open Go.Lib Go.RowKit

/-- The parts of a text between characters s. -/
def splitBy (s : UInt8) : List UInt8 → List (List UInt8)
  | [] => [[]]
  | c :: r => if c = s then [] :: splitBy s r else (c :: (splitBy s r).headD []) :: (splitBy s r).tail
theorem by_ne (s : UInt8) : ∀ l, splitBy s l ≠ []
  | [] => by simp [splitBy]
  | c :: r => by unfold splitBy; split <;> simp
theorem by_cut (s : UInt8) : ∀ (a b : List UInt8), s ∉ a → splitBy s (a ++ s :: b) = a :: splitBy s b
  | [], b, _ => by simp [splitBy]
  | c :: a, b, h => by
    have hc : c ≠ s := fun e => h (by simp [e])
    rw [List.cons_append, splitBy, if_neg hc, by_cut s a b (fun e => h (by simp [e]))]
    rfl
theorem by_last (s : UInt8) : ∀ (a : List UInt8), s ∉ a → splitBy s a = [a]
  | [], _ => rfl
  | c :: a, h => by
    have hc : c ≠ s := fun e => h (by simp [e])
    rw [splitBy, if_neg hc, by_last s a (fun e => h (by simp [e]))]
    rfl
theorem by_form (s : UInt8) : ∀ (l : List UInt8), (s ∉ l) ∨ ∃ a b, l = a ++ s :: b ∧ s ∉ a
  | [] => .inl (by simp)
  | c :: r => by
    by_cases hc : c = s
    · exact .inr ⟨[], r, by simp [hc], by simp⟩
    · rcases by_form s r with h | ⟨a, b, rfl, h⟩
      · exact .inl (by simp [h, Ne.symm hc])
      · exact .inr ⟨c :: a, b, rfl, by simp [h, Ne.symm hc]⟩
theorem jb_cons2 (s : UInt8) (x : List UInt8) {r : List (List UInt8)} (h : r ≠ []) : join (x :: r) [s] = x ++ s :: join r [s] := by
  cases r with
  | nil => exact absurd rfl h
  | cons y r => rw [join_cons, join_cons]; simp [joinTail]
theorem by_join (s : UInt8) : ∀ (n : Nat) (l : List UInt8), l.length ≤ n → join (splitBy s l) [s] = l
  | n, l, hn => by
    rcases by_form s l with h | ⟨a, b, rfl, h⟩
    · rw [by_last s l h, join_one]
    · rw [by_cut s a b h, jb_cons2 s _ (by_ne s b)]
      cases n with
      | zero => simp at hn
      | succ n => rw [by_join s n b (by simp at hn; omega)]
theorem jb_split (s : UInt8) : ∀ (ps : List (List UInt8)), ps ≠ [] → (∀ p ∈ ps, s ∉ p) → splitBy s (join ps [s]) = ps
  | [], h, _ => absurd rfl h
  | [p], _, h => by rw [join_one, by_last s p (h p (by simp))]
  | p :: x :: r, _, h => by
    rw [jb_cons2 s p (by simp), by_cut s _ _ (h p (by simp)), jb_split s (x :: r) (by simp) (fun y hy => h y (by simp at hy ⊢; exact .inr hy))]
theorem jb_append (s : UInt8) : ∀ (a b : List (List UInt8)), a ≠ [] → b ≠ [] → join (a ++ b) [s] = join a [s] ++ s :: join b [s]
  | [], _, h, _ => absurd rfl h
  | [p], b, _, hb => by rw [List.singleton_append, jb_cons2 s p hb, join_one]
  | p :: x :: r, b, _, hb => by
    rw [List.cons_append, jb_cons2 s p (by simp), jb_append s (x :: r) b (by simp) hb, jb_cons2 s p (by simp)]
    simp
theorem jb_mem (s : UInt8) {c : UInt8} : ∀ (ps : List (List UInt8)), c ∈ join ps [s] → c = s ∨ ∃ p ∈ ps, c ∈ p
  | [], h => by simp [join] at h
  | [p], h => by rw [join_one] at h; exact .inr ⟨p, by simp, h⟩
  | p :: x :: r, h => by
    rw [jb_cons2 s p (by simp)] at h
    simp only [List.mem_append, List.mem_cons] at h
    rcases h with h | h | h
    · exact .inr ⟨p, by simp, h⟩
    · exact .inl h
    · rcases jb_mem s (x :: r) h with h | ⟨y, hy, h⟩
      · exact .inl h
      · exact .inr ⟨y, by simp at hy ⊢; exact .inr hy, h⟩


/-! ### The values -/
def natO (t : List UInt8) : Option Int := if (parseV t 0).2 = true ∧ inR (parseV t 0).1 0 1048576 = true then some (parseV t 0).1 else none
def cntT (n : Int) : List UInt8 := if inR n 0 1048576 = true then textL n 0 else []
theorem cntT_yes {n : Int} (h : inR n 0 1048576 = true) : cntT n = textL n 0 := if_pos h
theorem cntT_no {n : Int} (h : inR n 0 1048576 = false) : cntT n = [] := if_neg (by rw [h]; decide)
theorem natO_text {n : Int} (h : inR n 0 1048576 = true) : natO (textL n 0) = some n := by
  have hb := inR_of h
  have hp := parse_text (x := n) (q := 0) (by decide) (by omega) (by omega)
  unfold natO
  rw [hp]
  exact if_pos ⟨rfl, h⟩
theorem natO_some {t : List UInt8} {n : Int} (h : natO t = some n) : inR n 0 1048576 = true ∧ textL n 0 = t := by
  unfold natO at h
  split at h
  · rename_i hc
    injection h with h
    subst h
    exact ⟨hc.2, parse_ok hc.1⟩
  · cases h
theorem inR_i64 {n : Int} (h : inR n 0 1048576 = true) : i64 n := by have := inR_of h; exact ⟨by omega, by omega⟩
def allIn (z : List Int) : Bool := z.all (fun x => inR x 0 1048576)
theorem allIn_mem {z : List Int} (h : allIn z = true) : ∀ x ∈ z, inR x 0 1048576 = true := fun x hx => List.all_eq_true.1 h x hx
def sizesL (z : List Int) : List UInt8 := join (z.map (fun x => textL x 0)) [44]
def sizesT (z : List Int) : List UInt8 := if z ≠ [] ∧ allIn z = true then sizesL z else []
def readZ (t : List UInt8) : Option (List Int) := mapO natO (splitBy 44 t)
theorem text_no44 (x : Int) (q : Nat) : (44 : UInt8) ∉ textL x q := fun h => by
  rcases text_chars h with h | h | h
  · exact absurd h (by decide)
  · exact absurd h (by decide)
  · exact absurd h (by decide)
theorem sizesL_ne {z : List Int} (h : z ≠ []) : sizesL z ≠ [] := by
  cases z with
  | nil => exact absurd rfl h
  | cons x r =>
    unfold sizesL
    rw [List.map_cons, join_cons]
    intro e
    exact text_ne x 0 (List.append_eq_nil_iff.1 e).1
theorem sizesT_yes {z : List Int} (h : z ≠ []) (h1 : allIn z = true) : sizesT z = sizesL z := if_pos ⟨h, h1⟩
theorem sizesT_ne {z : List Int} (h : sizesT z ≠ []) : z ≠ [] ∧ allIn z = true := by
  unfold sizesT at h
  split at h
  · assumption
  · exact absurd rfl h
theorem readZ_text {z : List Int} (h : z ≠ []) (h1 : allIn z = true) : readZ (sizesL z) = some z := by
  unfold readZ sizesL
  rw [jb_split 44 _ (by simpa using h) (fun p hp => by obtain ⟨x, _, rfl⟩ := List.mem_map.1 hp; exact text_no44 x 0)]
  have key : ∀ (z : List Int), (∀ x ∈ z, inR x 0 1048576 = true) → mapO natO (z.map (fun x => textL x 0)) = some z := by
    intro z
    induction z with
    | nil => intro _; rfl
    | cons x r ih =>
      intro hx
      rw [List.map_cons]
      unfold mapO
      rw [natO_text (hx x (by simp)), ih (fun y hy => hx y (by simp [hy]))]
  exact key z (allIn_mem h1)
theorem readZ_some {t : List UInt8} {z : List Int} (h : readZ t = some z) : z ≠ [] ∧ allIn z = true ∧ sizesL z = t := by
  unfold readZ at h
  have hl := mapO_len h
  have hne : z ≠ [] := fun e => by
    subst e
    exact by_ne 44 t (List.eq_nil_of_length_eq_zero hl.symm)
  refine ⟨hne, List.all_eq_true.2 (mapO_mem (fun x => inR x 0 1048576 = true) (fun a b hb => (natO_some hb).1) h), ?_⟩
  have := mapO_back (fun x => textL x 0) (fun a b hb => (natO_some hb).2) h
  unfold sizesL
  rw [this]
  exact by_join 44 _ t (Nat.le_refl _)

/-- The number at a cell of a configuration; another one put there. -/
def xk (f : Cf) : Nat → Int
  | 1 => f.sh
  | 2 => f.ra
  | 3 => f.mo
  | 4 => f.wo
  | 5 => f.ba
  | 6 => f.mi
  | 7 => f.st
  | 8 => f.bu
  | 9 => f.ch
  | 10 => f.wi
  | 11 => f.ca
  | _ => 0
def setX (f : Cf) (k : Nat) (v : Int) : Cf := match k with
  | 1 => { f with sh := v }
  | 2 => { f with ra := v }
  | 3 => { f with mo := v }
  | 4 => { f with wo := v }
  | 5 => { f with ba := v }
  | 6 => { f with mi := v }
  | 7 => { f with st := v }
  | 8 => { f with bu := v }
  | 9 => { f with ch := v }
  | 10 => { f with wi := v }
  | 11 => { f with ca := v }
  | _ => f
def zeroC : Cf := ⟨[], 0, 0, 0, 0, 0, 0, 0, 0, 0, 0, 0⟩
def nm : Nat → List UInt8
  | 0 => [115, 105, 122, 101, 115]
  | 1 => [115, 104, 105, 102, 116]
  | 2 => [114, 97, 116, 101]
  | 3 => [109, 111, 109, 101, 110, 116, 117, 109]
  | 4 => [119, 111, 114, 107, 101, 114, 115]
  | 5 => [98, 97, 116, 99, 104]
  | 6 => [109, 105, 99, 114, 111, 115]
  | 7 => [115, 116, 101, 112, 115]
  | 8 => [98, 117, 99, 107, 101, 116]
  | 9 => [99, 104, 117, 110, 107]
  | 10 => [119, 105, 110, 100, 111, 119]
  | _ => [99, 97, 112, 97, 99, 105, 116, 121]
/-- The text of a value. -/
def wrV (f : Cf) : Nat → List UInt8
  | 0 => sizesT f.z
  | 2 => textV f.ra f.sh
  | 3 => textV f.mo f.sh
  | k => cntT (xk f k)
def wordsN (f : Cf) (n : Nat) : List (List UInt8) := (List.range n).flatMap (fun k => [nm k, wrV f k])
theorem wordsN_succ (f : Cf) (n : Nat) : wordsN f (n + 1) = wordsN f n ++ [nm n, wrV f n] := by
  unfold wordsN
  rw [List.range_succ, List.flatMap_append]
  simp
def okC (f : Cf) : Prop := ∀ k, k < 12 → wrV f k ≠ []
instance (f : Cf) : Decidable (okC f) := by unfold okC; infer_instance
def inC (f : Cf) : Prop := i64 f.ra ∧ i64 f.mo
def confL (f : Cf) : List UInt8 := join (wordsN f 12) [32]
def textC (f : Cf) : List UInt8 × Bool := if okC f then (confL f, true) else ([], false)
theorem textC_yes {f : Cf} (h : okC f) : textC f = (confL f, true) := if_pos h
theorem textC_no {f : Cf} (h : ¬ okC f) : textC f = ([], false) := if_neg h
/-- What has a text. -/
theorem cntT_ne {n : Int} (h : cntT n ≠ []) : inR n 0 1048576 = true := by
  cases e : inR n 0 1048576 with
  | true => rfl
  | false => exact absurd (cntT_no e) h
theorem textV_ne {x q : Int} (h : textV x q ≠ []) : qOk q := by
  by_cases e : 0 ≤ q ∧ q ≤ 62
  · exact e
  · exact absurd (textV_no e) h
theorem textV_q {x q : Int} (h : qOk q) : textV x q = textL x q.toNat := if_pos h
structure Good (f : Cf) : Prop where
  z : f.z ≠ []
  zs : allIn f.z = true
  q : qOk f.sh
  sh : inR f.sh 0 1048576 = true
  wo : inR f.wo 0 1048576 = true
  ba : inR f.ba 0 1048576 = true
  mi : inR f.mi 0 1048576 = true
  st : inR f.st 0 1048576 = true
  bu : inR f.bu 0 1048576 = true
  ch : inR f.ch 0 1048576 = true
  wi : inR f.wi 0 1048576 = true
  ca : inR f.ca 0 1048576 = true
theorem good_of {f : Cf} (h : okC f) : Good f :=
  ⟨(sizesT_ne (h 0 (by decide))).1, (sizesT_ne (h 0 (by decide))).2, textV_ne (h 2 (by decide)), cntT_ne (h 1 (by decide)), cntT_ne (h 4 (by decide)), cntT_ne (h 5 (by decide)), cntT_ne (h 6 (by decide)), cntT_ne (h 7 (by decide)), cntT_ne (h 8 (by decide)), cntT_ne (h 9 (by decide)), cntT_ne (h 10 (by decide)), cntT_ne (h 11 (by decide))⟩
theorem Good.ok {f : Cf} (h : Good f) : okC f := by
  intro k hk
  match k, hk with
  | 0, _ => show sizesT f.z ≠ []; rw [sizesT_yes h.z h.zs]; exact sizesL_ne h.z
  | 2, _ => show textV f.ra f.sh ≠ []; rw [textV_q h.q]; exact text_ne _ _
  | 3, _ => show textV f.mo f.sh ≠ []; rw [textV_q h.q]; exact text_ne _ _
  | 1, _ => show cntT f.sh ≠ []; rw [cntT_yes h.sh]; exact text_ne _ _
  | 4, _ => show cntT f.wo ≠ []; rw [cntT_yes h.wo]; exact text_ne _ _
  | 5, _ => show cntT f.ba ≠ []; rw [cntT_yes h.ba]; exact text_ne _ _
  | 6, _ => show cntT f.mi ≠ []; rw [cntT_yes h.mi]; exact text_ne _ _
  | 7, _ => show cntT f.st ≠ []; rw [cntT_yes h.st]; exact text_ne _ _
  | 8, _ => show cntT f.bu ≠ []; rw [cntT_yes h.bu]; exact text_ne _ _
  | 9, _ => show cntT f.ch ≠ []; rw [cntT_yes h.ch]; exact text_ne _ _
  | 10, _ => show cntT f.wi ≠ []; rw [cntT_yes h.wi]; exact text_ne _ _
  | 11, _ => show cntT f.ca ≠ []; rw [cntT_yes h.ca]; exact text_ne _ _
theorem ok_of_no {f : Cf} {k : Nat} (hk : k < 12) (h : wrV f k = []) : ¬ okC f := fun e => e k hk h
theorem cntT_no32 (n : Int) : (32 : UInt8) ∉ cntT n := by
  unfold cntT
  split
  · exact text_no32 _ _
  · simp
theorem textV_no32 (x q : Int) : (32 : UInt8) ∉ textV x q := by
  unfold textV
  split
  · exact text_no32 _ _
  · simp
theorem wr_no32 (f : Cf) (k : Nat) (hk : k < 12) : (32 : UInt8) ∉ wrV f k := by
  match k, hk with
  | 0, _ =>
    show (32 : UInt8) ∉ sizesT f.z
    unfold sizesT sizesL
    split
    · intro h
      rcases jb_mem 44 _ h with h | ⟨p, hp, h⟩
      · exact absurd h (by decide)
      · obtain ⟨y, _, rfl⟩ := List.mem_map.1 hp
        exact text_no32 y 0 h
    · simp
  | 2, _ => exact textV_no32 _ _
  | 3, _ => exact textV_no32 _ _
  | 1, _ => exact cntT_no32 _
  | 4, _ => exact cntT_no32 _
  | 5, _ => exact cntT_no32 _
  | 6, _ => exact cntT_no32 _
  | 7, _ => exact cntT_no32 _
  | 8, _ => exact cntT_no32 _
  | 9, _ => exact cntT_no32 _
  | 10, _ => exact cntT_no32 _
  | 11, _ => exact cntT_no32 _
theorem nm_no32 : ∀ k, k < 12 → (32 : UInt8) ∉ nm k := by decide
theorem words_no32 (f : Cf) : ∀ p ∈ wordsN f 12, (32 : UInt8) ∉ p := by
  intro p hp
  unfold wordsN at hp
  obtain ⟨k, hk, hp⟩ := List.mem_flatMap.1 hp
  have hk' := List.mem_range.1 hk
  simp at hp
  rcases hp with rfl | rfl
  · exact nm_no32 k hk'
  · exact wr_no32 f k hk'
theorem split_conf (f : Cf) : splitSp (confL f) = wordsN f 12 := join_split _ (by simp [wordsN, List.range_succ]) (words_no32 f)

/-! ### Reading -/
def rdk (k : Nat) (t : List UInt8) (f : Cf) : Option Cf := match k with
  | 0 => match readZ t with | some z => some { f with z := z } | none => none
  | 2 => match pO f.sh t with | some x => some { f with ra := x } | none => none
  | 3 => match pO f.sh t with | some x => some { f with mo := x } | none => none
  | k => match natO t with | some x => some (setX f k x) | none => none
def readN (ws : List (List UInt8)) : Nat → Option Cf
  | 0 => some zeroC
  | k + 1 => match readN ws k with
    | none => none
    | some f => if ws[2 * k]? = some (nm k) then rdk k (ws[2 * k + 1]?.getD []) f else none
def parseC (l : List UInt8) : Option Cf := if (splitSp l).length = 24 then readN (splitSp l) 12 else none
theorem readN_step {ws : List (List UInt8)} {k : Nat} {f g : Cf} {t : List UInt8} (h : readN ws k = some f) (h1 : ws[2 * k]? = some (nm k)) (h2 : ws[2 * k + 1]? = some t) (h3 : rdk k t f = some g) : readN ws (k + 1) = some g := by
  unfold readN
  rw [h]
  simp only [h1, h2, if_true, Option.getD_some]
  exact h3
theorem readN_inv {ws : List (List UInt8)} {k : Nat} {g : Cf} (h : readN ws (k + 1) = some g) : ∃ f, readN ws k = some f ∧ ws[2 * k]? = some (nm k) ∧ rdk k (ws[2 * k + 1]?.getD []) f = some g := by
  unfold readN at h
  cases hf : readN ws k with
  | none => rw [hf] at h; cases h
  | some f =>
    rw [hf] at h
    simp only at h
    split at h
    · rename_i hw; exact ⟨f, rfl, hw, h⟩
    · cases h
theorem readN_none {ws : List (List UInt8)} {k n : Nat} (h : readN ws k = none) (hk : k ≤ n) : readN ws n = none := by
  obtain ⟨d, rfl⟩ := Nat.exists_eq_add_of_le hk
  clear hk
  induction d with
  | zero => exact h
  | succ d ih => rw [← Nat.add_assoc]; unfold readN; rw [ih]
theorem rd_nat {k : Nat} (hk : k = 1 ∨ 4 ≤ k) {t : List UInt8} {f g : Cf} (h : rdk k t f = some g) : ∃ x, natO t = some x ∧ g = setX f k x := by
  have e : rdk k t f = match natO t with | some x => some (setX f k x) | none => none := by
    match k, hk with
    | 1, _ => rfl
    | k + 4, _ => rfl
  rw [e] at h
  cases hx : natO t with
  | none => rw [hx] at h; cases h
  | some x => rw [hx] at h; exact ⟨x, rfl, (Option.some.inj h).symm⟩
theorem rd_nat_mk {k : Nat} (hk : k = 1 ∨ 4 ≤ k) {t : List UInt8} {f : Cf} {x : Int} (h : natO t = some x) : rdk k t f = some (setX f k x) := by
  have e : rdk k t f = match natO t with | some x => some (setX f k x) | none => none := by
    match k, hk with
    | 1, _ => rfl
    | k + 4, _ => rfl
  rw [e, h]
theorem parseC_conf {f : Cf} (h : okC f) (hi : inC f) : parseC (confL f) = some f := by
  have hg := good_of h
  have z0 : readZ (sizesT f.z) = some f.z := by rw [sizesT_yes hg.z hg.zs]; exact readZ_text hg.z hg.zs
  have p2 : pO f.sh (textV f.ra f.sh) = some f.ra := by rw [textV_q hg.q]; exact pO_text hg.q hi.1
  have p3 : pO f.sh (textV f.mo f.sh) = some f.mo := by rw [textV_q hg.q]; exact pO_text hg.q hi.2
  have n1 : natO (cntT f.sh) = some f.sh := by rw [cntT_yes hg.sh]; exact natO_text hg.sh
  have n4 : natO (cntT f.wo) = some f.wo := by rw [cntT_yes hg.wo]; exact natO_text hg.wo
  have n5 : natO (cntT f.ba) = some f.ba := by rw [cntT_yes hg.ba]; exact natO_text hg.ba
  have n6 : natO (cntT f.mi) = some f.mi := by rw [cntT_yes hg.mi]; exact natO_text hg.mi
  have n7 : natO (cntT f.st) = some f.st := by rw [cntT_yes hg.st]; exact natO_text hg.st
  have n8 : natO (cntT f.bu) = some f.bu := by rw [cntT_yes hg.bu]; exact natO_text hg.bu
  have n9 : natO (cntT f.ch) = some f.ch := by rw [cntT_yes hg.ch]; exact natO_text hg.ch
  have n10 : natO (cntT f.wi) = some f.wi := by rw [cntT_yes hg.wi]; exact natO_text hg.wi
  have n11 : natO (cntT f.ca) = some f.ca := by rw [cntT_yes hg.ca]; exact natO_text hg.ca
  unfold parseC
  rw [split_conf, if_pos (by simp [wordsN, List.range_succ])]
  have s0 : readN (wordsN f 12) 0 = some zeroC := rfl
  have s1 : readN (wordsN f 12) 1 = some ⟨f.z, 0, 0, 0, 0, 0, 0, 0, 0, 0, 0, 0⟩ := readN_step (k := 0) s0 rfl rfl (by show (match readZ (sizesT f.z) with | some z => some { zeroC with z := z } | none => none) = _; rw [z0]; rfl)
  have s2 : readN (wordsN f 12) 2 = some ⟨f.z, f.sh, 0, 0, 0, 0, 0, 0, 0, 0, 0, 0⟩ := readN_step (k := 1) s1 rfl rfl (rd_nat_mk (by decide) n1)
  have s3 : readN (wordsN f 12) 3 = some ⟨f.z, f.sh, f.ra, 0, 0, 0, 0, 0, 0, 0, 0, 0⟩ := readN_step (k := 2) s2 rfl rfl (by show (match pO f.sh (textV f.ra f.sh) with | some x => some { (⟨f.z, f.sh, 0, 0, 0, 0, 0, 0, 0, 0, 0, 0⟩ : Cf) with ra := x } | none => none) = _; rw [p2])
  have s4 : readN (wordsN f 12) 4 = some ⟨f.z, f.sh, f.ra, f.mo, 0, 0, 0, 0, 0, 0, 0, 0⟩ := readN_step (k := 3) s3 rfl rfl (by show (match pO f.sh (textV f.mo f.sh) with | some x => some { (⟨f.z, f.sh, f.ra, 0, 0, 0, 0, 0, 0, 0, 0, 0⟩ : Cf) with mo := x } | none => none) = _; rw [p3])
  have s5 : readN (wordsN f 12) 5 = some ⟨f.z, f.sh, f.ra, f.mo, f.wo, 0, 0, 0, 0, 0, 0, 0⟩ := readN_step (k := 4) s4 rfl rfl (rd_nat_mk (by decide) n4)
  have s6 : readN (wordsN f 12) 6 = some ⟨f.z, f.sh, f.ra, f.mo, f.wo, f.ba, 0, 0, 0, 0, 0, 0⟩ := readN_step (k := 5) s5 rfl rfl (rd_nat_mk (by decide) n5)
  have s7 : readN (wordsN f 12) 7 = some ⟨f.z, f.sh, f.ra, f.mo, f.wo, f.ba, f.mi, 0, 0, 0, 0, 0⟩ := readN_step (k := 6) s6 rfl rfl (rd_nat_mk (by decide) n6)
  have s8 : readN (wordsN f 12) 8 = some ⟨f.z, f.sh, f.ra, f.mo, f.wo, f.ba, f.mi, f.st, 0, 0, 0, 0⟩ := readN_step (k := 7) s7 rfl rfl (rd_nat_mk (by decide) n7)
  have s9 : readN (wordsN f 12) 9 = some ⟨f.z, f.sh, f.ra, f.mo, f.wo, f.ba, f.mi, f.st, f.bu, 0, 0, 0⟩ := readN_step (k := 8) s8 rfl rfl (rd_nat_mk (by decide) n8)
  have s10 : readN (wordsN f 12) 10 = some ⟨f.z, f.sh, f.ra, f.mo, f.wo, f.ba, f.mi, f.st, f.bu, f.ch, 0, 0⟩ := readN_step (k := 9) s9 rfl rfl (rd_nat_mk (by decide) n9)
  have s11 : readN (wordsN f 12) 11 = some ⟨f.z, f.sh, f.ra, f.mo, f.wo, f.ba, f.mi, f.st, f.bu, f.ch, f.wi, 0⟩ := readN_step (k := 10) s10 rfl rfl (rd_nat_mk (by decide) n10)
  have s12 : readN (wordsN f 12) 12 = some ⟨f.z, f.sh, f.ra, f.mo, f.wo, f.ba, f.mi, f.st, f.bu, f.ch, f.wi, f.ca⟩ := readN_step (k := 11) s11 rfl rfl (rd_nat_mk (by decide) n11)
  exact s12
theorem array24 {α : Type} {cs : List α} (h : cs.length = 24) : ∃ a0 a1 a2 a3 a4 a5 a6 a7 a8 a9 a10 a11 a12 a13 a14 a15 a16 a17 a18 a19 a20 a21 a22 a23, cs = [a0, a1, a2, a3, a4, a5, a6, a7, a8, a9, a10, a11, a12, a13, a14, a15, a16, a17, a18, a19, a20, a21, a22, a23] := by
  match cs, h with
  | [a0, a1, a2, a3, a4, a5, a6, a7, a8, a9, a10, a11, a12, a13, a14, a15, a16, a17, a18, a19, a20, a21, a22, a23], _ => exact ⟨a0, a1, a2, a3, a4, a5, a6, a7, a8, a9, a10, a11, a12, a13, a14, a15, a16, a17, a18, a19, a20, a21, a22, a23, rfl⟩
set_option maxHeartbeats 1000000 in
theorem parseC_some {l : List UInt8} {f : Cf} (h : parseC l = some f) : okC f ∧ inC f ∧ confL f = l := by
  unfold parseC at h
  split at h
  · rename_i h24
    obtain ⟨a0, a1, a2, a3, a4, a5, a6, a7, a8, a9, a10, a11, a12, a13, a14, a15, a16, a17, a18, a19, a20, a21, a22, a23, hs⟩ := array24 h24
    have hl : join (splitSp l) [32] = l := split_join _ l (Nat.le_refl _)
    rw [hs] at h hl
    clear h24 hs
    obtain ⟨f11, h, w11, r11⟩ := readN_inv h
    have q11 : a22 = nm 11 := Option.some.inj w11
    clear w11
    obtain ⟨f10, h, w10, r10⟩ := readN_inv h
    have q10 : a20 = nm 10 := Option.some.inj w10
    clear w10
    obtain ⟨f9, h, w9, r9⟩ := readN_inv h
    have q9 : a18 = nm 9 := Option.some.inj w9
    clear w9
    obtain ⟨f8, h, w8, r8⟩ := readN_inv h
    have q8 : a16 = nm 8 := Option.some.inj w8
    clear w8
    obtain ⟨f7, h, w7, r7⟩ := readN_inv h
    have q7 : a14 = nm 7 := Option.some.inj w7
    clear w7
    obtain ⟨f6, h, w6, r6⟩ := readN_inv h
    have q6 : a12 = nm 6 := Option.some.inj w6
    clear w6
    obtain ⟨f5, h, w5, r5⟩ := readN_inv h
    have q5 : a10 = nm 5 := Option.some.inj w5
    clear w5
    obtain ⟨f4, h, w4, r4⟩ := readN_inv h
    have q4 : a8 = nm 4 := Option.some.inj w4
    clear w4
    obtain ⟨f3, h, w3, r3⟩ := readN_inv h
    have q3 : a6 = nm 3 := Option.some.inj w3
    clear w3
    obtain ⟨f2, h, w2, r2⟩ := readN_inv h
    have q2 : a4 = nm 2 := Option.some.inj w2
    clear w2
    obtain ⟨f1, h, w1, r1⟩ := readN_inv h
    have q1 : a2 = nm 1 := Option.some.inj w1
    clear w1
    obtain ⟨f0, h, w0, r0⟩ := readN_inv h
    have q0 : a0 = nm 0 := Option.some.inj w0
    clear w0
    obtain rfl : zeroC = f0 := Option.some.inj h
    clear h
    have r0' : (match readZ a1 with | some z => some { zeroC with z := z } | none => none) = some f1 := r0
    cases e0 : readZ a1 with
    | none => rw [e0] at r0'; cases r0'
    | some z =>
    rw [e0] at r0'
    obtain rfl := Option.some.inj r0'
    clear r0 r0'
    obtain ⟨x1, e1, rfl⟩ := rd_nat (by decide) r1
    clear r1
    have r2' : (match pO x1 a5 with | some x => some { (⟨z, x1, 0, 0, 0, 0, 0, 0, 0, 0, 0, 0⟩ : Cf) with ra := x } | none => none) = some f3 := r2
    cases e2 : pO x1 a5 with
    | none => rw [e2] at r2'; cases r2'
    | some x2 =>
    rw [e2] at r2'
    obtain rfl := Option.some.inj r2'
    clear r2 r2'
    have r3' : (match pO x1 a7 with | some x => some { (⟨z, x1, x2, 0, 0, 0, 0, 0, 0, 0, 0, 0⟩ : Cf) with mo := x } | none => none) = some f4 := r3
    cases e3 : pO x1 a7 with
    | none => rw [e3] at r3'; cases r3'
    | some x3 =>
    rw [e3] at r3'
    obtain rfl := Option.some.inj r3'
    clear r3 r3'
    obtain ⟨x4, e4, rfl⟩ := rd_nat (by decide) r4
    clear r4
    obtain ⟨x5, e5, rfl⟩ := rd_nat (by decide) r5
    clear r5
    obtain ⟨x6, e6, rfl⟩ := rd_nat (by decide) r6
    clear r6
    obtain ⟨x7, e7, rfl⟩ := rd_nat (by decide) r7
    clear r7
    obtain ⟨x8, e8, rfl⟩ := rd_nat (by decide) r8
    clear r8
    obtain ⟨x9, e9, rfl⟩ := rd_nat (by decide) r9
    clear r9
    obtain ⟨x10, e10, rfl⟩ := rd_nat (by decide) r10
    clear r10
    obtain ⟨x11, e11, rfl⟩ := rd_nat (by decide) r11
    clear r11
    obtain ⟨z1, z2, z3⟩ := readZ_some e0
    obtain ⟨q2a, b2, t2⟩ := pO_some e2
    obtain ⟨q3a, b3, t3⟩ := pO_some e3
    obtain ⟨i1, t1⟩ := natO_some e1
    obtain ⟨i4, t4⟩ := natO_some e4
    obtain ⟨i5, t5⟩ := natO_some e5
    obtain ⟨i6, t6⟩ := natO_some e6
    obtain ⟨i7, t7⟩ := natO_some e7
    obtain ⟨i8, t8⟩ := natO_some e8
    obtain ⟨i9, t9⟩ := natO_some e9
    obtain ⟨i10, t10⟩ := natO_some e10
    obtain ⟨i11, t11⟩ := natO_some e11
    have hG : Good ⟨z, x1, x2, x3, x4, x5, x6, x7, x8, x9, x10, x11⟩ := ⟨z1, z2, q2a, i1, i4, i5, i6, i7, i8, i9, i10, i11⟩
    refine ⟨hG.ok, ⟨b2, b3⟩, ?_⟩
    show join (wordsN ⟨z, x1, x2, x3, x4, x5, x6, x7, x8, x9, x10, x11⟩ 12) [32] = l
    rw [← hl]
    congr 1
    have v0 : sizesT z = a1 := by rw [sizesT_yes z1 z2]; exact z3
    have v2 : textV x2 x1 = a5 := by rw [textV_q q2a]; exact t2
    have v3 : textV x3 x1 = a7 := by rw [textV_q q2a]; exact t3
    have v1 : cntT x1 = a3 := by rw [cntT_yes i1]; exact t1
    have v4 : cntT x4 = a9 := by rw [cntT_yes i4]; exact t4
    have v5 : cntT x5 = a11 := by rw [cntT_yes i5]; exact t5
    have v6 : cntT x6 = a13 := by rw [cntT_yes i6]; exact t6
    have v7 : cntT x7 = a15 := by rw [cntT_yes i7]; exact t7
    have v8 : cntT x8 = a17 := by rw [cntT_yes i8]; exact t8
    have v9 : cntT x9 = a19 := by rw [cntT_yes i9]; exact t9
    have v10 : cntT x10 = a21 := by rw [cntT_yes i10]; exact t10
    have v11 : cntT x11 = a23 := by rw [cntT_yes i11]; exact t11
    show [nm 0, sizesT z, nm 1, cntT x1, nm 2, textV x2 x1, nm 3, textV x3 x1, nm 4, cntT x4, nm 5, cntT x5, nm 6, cntT x6, nm 7, cntT x7, nm 8, cntT x8, nm 9, cntT x9, nm 10, cntT x10, nm 11, cntT x11] = _
    rw [v0, v1, v2, v3, v4, v5, v6, v7, v8, v9, v10, v11, q0, q1, q2, q3, q4, q5, q6, q7, q8, q9, q10, q11] 
  · cases h
end Go.Proofs.YthcahpgandappaaGreatDoor
