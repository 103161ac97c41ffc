/- Texts of examples as plain functions on lists of bytes: the parts between single spaces, the text of an example, what reads it again, and that both ways of reading it (the program's and the reference's) find just the example that has the text. No program is named here. -/
import Derived.Test.YthcahpgandappaaGreatDoorDm
import Derived.Lib.Join
import Derived.Lib.IndexMore
namespace Go.Proofs.YthcahpgandappaaGreatDoor
open Go.Lib Go.RowKit

/-- The parts of a text between single spaces. -/
def splitSp : List UInt8 → List (List UInt8)
  | [] => [[]]
  | c :: r => if c = 32 then [] :: splitSp r else (c :: (splitSp r).headD []) :: (splitSp r).tail
theorem split_ne : ∀ l, splitSp l ≠ []
  | [] => by simp [splitSp]
  | c :: r => by unfold splitSp; split <;> simp
theorem split_cut : ∀ (a b : List UInt8), (32 : UInt8) ∉ a → splitSp (a ++ 32 :: b) = a :: splitSp b
  | [], b, _ => by simp [splitSp]
  | c :: a, b, h => by
    have hc : c ≠ 32 := fun e => h (by simp [e])
    rw [List.cons_append, splitSp, if_neg hc, split_cut a b (fun e => h (by simp [e]))]
    rfl
theorem split_last : ∀ (a : List UInt8), (32 : UInt8) ∉ a → splitSp a = [a]
  | [], _ => rfl
  | c :: a, h => by
    have hc : c ≠ 32 := fun e => h (by simp [e])
    rw [splitSp, if_neg hc, split_last a (fun e => h (by simp [e]))]
    rfl
theorem split_form : ∀ (l : List UInt8), ((32 : UInt8) ∉ l) ∨ ∃ a b, l = a ++ 32 :: b ∧ (32 : UInt8) ∉ a
  | [] => .inl (by simp)
  | c :: r => by
    by_cases hc : c = 32
    · exact .inr ⟨[], r, by simp [hc], by simp⟩
    · rcases split_form r with h | ⟨a, b, rfl, h⟩
      · exact .inl (by simp [h, Ne.symm hc])
      · exact .inr ⟨c :: a, b, rfl, by simp [h, Ne.symm hc]⟩
theorem join_cons2 (x : List UInt8) {r : List (List UInt8)} (h : r ≠ []) : join (x :: r) [32] = x ++ 32 :: join r [32] := by
  cases r with
  | nil => exact absurd rfl h
  | cons y r => rw [join_cons, join_cons]; simp [joinTail]
theorem split_join : ∀ (n : Nat) (l : List UInt8), l.length ≤ n → join (splitSp l) [32] = l
  | n, l, hn => by
    rcases split_form l with h | ⟨a, b, rfl, h⟩
    · rw [split_last l h, join_one]
    · rw [split_cut a b h, join_cons2 _ (split_ne b)]
      cases n with
      | zero => simp at hn
      | succ n => rw [split_join n b (by simp at hn; omega)]
theorem join_split : ∀ (ps : List (List UInt8)), ps ≠ [] → (∀ p ∈ ps, (32 : UInt8) ∉ p) → splitSp (join ps [32]) = ps
  | [], h, _ => absurd rfl h
  | [p], _, h => by rw [join_one, split_last p (h p (by simp))]
  | p :: x :: r, _, h => by
    rw [join_cons2 p (by simp), split_cut _ _ (h p (by simp)), join_split (x :: r) (by simp) (fun y hy => h y (by simp at hy ⊢; exact .inr hy))]
theorem join_append : ∀ (a b : List (List UInt8)), a ≠ [] → b ≠ [] → join (a ++ b) [32] = join a [32] ++ 32 :: join b [32]
  | [], _, h, _ => absurd rfl h
  | [p], b, _, hb => by rw [List.singleton_append, join_cons2 p hb, join_one]
  | p :: x :: r, b, _, hb => by
    rw [List.cons_append, join_cons2 p (by simp), join_append (x :: r) b (by simp) hb, join_cons2 p (by simp)]
    simp
theorem join_mem {c : UInt8} : ∀ (ps : List (List UInt8)), c ∈ join ps [32] → c = 32 ∨ ∃ p ∈ ps, c ∈ p
  | [], h => by simp [join] at h
  | [p], h => by rw [join_one] at h; exact .inr ⟨p, by simp, h⟩
  | p :: x :: r, h => by
    rw [join_cons2 p (by simp)] at h
    simp only [List.mem_append, List.mem_cons] at h
    rcases h with h | h | h
    · exact .inr ⟨p, by simp, h⟩
    · exact .inl h
    · rcases join_mem (x :: r) h with h | ⟨y, hy, h⟩
      · exact .inl h
      · exact .inr ⟨y, by simp at hy ⊢; exact .inr hy, h⟩

/-- What f makes of each element, if it makes something of all. -/
def mapO {α β : Type} (f : α → Option β) : List α → Option (List β)
  | [] => some []
  | a :: r => match f a, mapO f r with
    | some b, some m => some (b :: m)
    | _, _ => none
theorem mapO_len {α β : Type} {f : α → Option β} : ∀ {l : List α} {m : List β}, mapO f l = some m → m.length = l.length
  | [], m, h => by simp [mapO] at h; subst h; rfl
  | a :: r, m, h => by
    unfold mapO at h
    cases ha : f a with
    | none => rw [ha] at h; cases h
    | some b =>
      rw [ha] at h
      cases hr : mapO f r with
      | none => rw [hr] at h; cases h
      | some k => rw [hr] at h; injection h with h; subst h; simp [mapO_len hr]
theorem mapO_snoc {α β : Type} (f : α → Option β) : ∀ (l : List α) (m : List β) (a : α) (b : β), mapO f l = some m → f a = some b → mapO f (l ++ [a]) = some (m ++ [b])
  | [], m, a, b, h, hb => by simp [mapO] at h; subst h; simp [mapO, hb]
  | x :: r, m, a, b, h, hb => by
    rw [List.cons_append]
    unfold mapO at h ⊢
    cases hx : f x with
    | none => rw [hx] at h; cases h
    | some y =>
      rw [hx] at h
      cases hr : mapO f r with
      | none => rw [hr] at h; cases h
      | some k => rw [hr] at h; injection h with h; subst h; rw [mapO_snoc f r k a b hr hb]; rfl
theorem mapO_none {α β : Type} (f : α → Option β) : ∀ (l : List α) {a : α}, a ∈ l → f a = none → mapO f l = none
  | [], a, h, _ => by cases h
  | x :: r, a, h, hb => by
    unfold mapO
    rcases List.mem_cons.1 h with rfl | h
    · rw [hb]
    · rw [mapO_none f r h hb]; cases f x <;> rfl
theorem mapO_all {α β : Type} (f : α → Option β) (g : α → β) : ∀ (l : List α), (∀ a ∈ l, f a = some (g a)) → mapO f l = some (l.map g)
  | [], _ => rfl
  | x :: r, h => by
    unfold mapO
    rw [h x (by simp), mapO_all f g r (fun a ha => h a (by simp [ha]))]
    rfl
theorem mapO_back {α β : Type} {f : α → Option β} (g : β → α) (hg : ∀ a b, f a = some b → g b = a) : ∀ {l : List α} {m : List β}, mapO f l = some m → m.map g = l
  | [], m, h => by simp [mapO] at h; subst h; rfl
  | a :: r, m, h => by
    unfold mapO at h
    cases ha : f a with
    | none => rw [ha] at h; cases h
    | some b =>
      rw [ha] at h
      cases hr : mapO f r with
      | none => rw [hr] at h; cases h
      | some k => rw [hr] at h; injection h with h; subst h; rw [List.map_cons, hg a b ha, mapO_back g hg hr]
theorem mapO_mem {α β : Type} {f : α → Option β} (p : β → Prop) (hp : ∀ a b, f a = some b → p b) : ∀ {l : List α} {m : List β}, mapO f l = some m → ∀ x ∈ m, p x
  | [], m, h => by simp [mapO] at h; subst h; simp
  | a :: r, m, h => by
    unfold mapO at h
    cases ha : f a with
    | none => rw [ha] at h; cases h
    | some b =>
      rw [ha] at h
      cases hr : mapO f r with
      | none => rw [hr] at h; cases h
      | some k =>
        rw [hr] at h; injection h with h; subst h
        intro x hx
        rcases List.mem_cons.1 hx with rfl | hx
        · exact hp a _ ha
        · exact mapO_mem p hp hr x hx

/-- Within the bounds of int64. -/
def i64 (x : Int) : Prop := -9223372036854775808 ≤ x ∧ x ≤ 9223372036854775807
def qOk (q : Int) : Prop := 0 ≤ q ∧ q ≤ 62
instance (q : Int) : Decidable (qOk q) := by unfold qOk; infer_instance
/-- The number that a text stands for; the text of a number. -/
def pO (q : Int) (t : List UInt8) : Option Int := if qOk q ∧ (parseV t q.toNat).2 = true then some (parseV t q.toNat).1 else none
def wO (q : Int) (x : Int) : Option (List UInt8) := if qOk q then some (textL x q.toNat) else none
theorem toNat_le {q : Int} (h : qOk q) : q.toNat ≤ 62 := by have := h.1; have := h.2; omega
theorem pO_text {q x : Int} (hq : qOk q) (hx : i64 x) : pO q (textL x q.toNat) = some x := by
  unfold pO; rw [parse_text (toNat_le hq) hx.1 hx.2, if_pos ⟨hq, rfl⟩]
theorem pO_some {q x : Int} {t : List UInt8} (h : pO q t = some x) : qOk q ∧ i64 x ∧ textL x q.toNat = t := by
  unfold pO at h
  split at h
  · rename_i hc
    injection h with h
    subst h
    exact ⟨hc.1, parse_range _ _, parse_ok hc.2⟩
  · cases h
/-- A text has no character but digits, a minus and a point, and at least one. -/
theorem dig_mem {c : UInt8} : ∀ {l : List UInt8}, allDig l = true → c ∈ l → isDig c = true := fun h hc => by
  unfold allDig at h; exact List.all_eq_true.1 h c hc
theorem text_chars {x : Int} {q : Nat} {c : UInt8} (h : c ∈ textL x q) : c = 45 ∨ c = 46 ∨ isDig c = true := by
  unfold textL at h
  simp only [List.mem_append] at h
  rcases h with h | h | h
  · split at h
    · exact .inl (by simpa using h)
    · cases h
  · exact .inr (.inr (dig_mem (allDig_dec _) h))
  · unfold fracL at h
    split at h
    · cases h
    · rcases List.mem_cons.1 h with h | h
      · exact .inr (.inl h)
      · exact .inr (.inr (dig_mem (allDig_map_ch _ (run_lt (two_pos q) q _ (Nat.mod_lt _ (two_pos q)))) h))
theorem text_no32 (x : Int) (q : Nat) : (32 : UInt8) ∉ textL x q := fun h => by
  rcases text_chars h with h | h | h
  · exact absurd h (by decide)
  · exact absurd h (by decide)
  · exact absurd h (by decide)
theorem text_no62 (x : Int) (q : Nat) : (62 : UInt8) ∉ textL x q := fun h => by
  rcases text_chars h with h | h | h
  · exact absurd h (by decide)
  · exact absurd h (by decide)
  · exact absurd h (by decide)
theorem text_ne (x : Int) (q : Nat) : textL x q ≠ [] := by
  unfold textL
  intro h
  have := List.append_eq_nil_iff.1 (List.append_eq_nil_iff.1 h).2
  exact dec_ne _ this.1

/-- An example, as lists; the texts of its sides; its text. -/
abbrev Ex := List Int × List Int
def sideL (q : Nat) (l : List Int) : List UInt8 := join (l.map (fun x => textL x q)) [32]
def SEP : List UInt8 := [32, 62, 32]
def exL (q : Nat) (e : Ex) : List UInt8 := sideL q e.1 ++ SEP ++ sideL q e.2
def InE (e : Ex) : Prop := (∀ x ∈ e.1, i64 x) ∧ (∀ x ∈ e.2, i64 x)
def exOk (e : Ex) (q : Int) : Prop := qOk q ∧ e.1 ≠ [] ∧ e.2 ≠ []
instance (e : Ex) (q : Int) : Decidable (exOk e q) := by unfold exOk; infer_instance
def exT (e : Ex) (q : Int) : List UInt8 × Bool := if exOk e q then (exL q.toNat e, true) else ([], false)
theorem exT_yes {e : Ex} {q : Int} (h : exOk e q) : exT e q = (exL q.toNat e, true) := if_pos h
theorem exT_no {e : Ex} {q : Int} (h : ¬ exOk e q) : exT e q = ([], false) := if_neg h

/-- The numbers of a side; the example of a text, by the program's way. -/
def readS (q : Int) (l : List UInt8) : Option (List Int) := mapO (pO q) (splitSp l)
def readE (l : List UInt8) (q : Int) : Option Ex :=
  match readS q (cut l SEP).1, readS q (cut l SEP).2.1 with
  | some x, some y => some (x, y)
  | _, _ => none
theorem readS_some {q : Int} {l : List UInt8} {x : List Int} (h : readS q l = some x) : qOk q ∧ x ≠ [] ∧ (∀ y ∈ x, i64 y) ∧ sideL q.toNat x = l := by
  unfold readS at h
  have hl := mapO_len h
  have hne : x ≠ [] := fun e => by
    subst e
    exact split_ne l (List.eq_nil_of_length_eq_zero hl.symm)
  refine ⟨?_, hne, mapO_mem i64 (fun a b hb => (pO_some hb).2.1) h, ?_⟩
  · cases x with
    | nil => exact absurd rfl hne
    | cons y r => exact mapO_mem (fun _ => qOk q) (fun a b hb => (pO_some hb).1) h y (by simp)
  · have := mapO_back (fun x => textL x q.toNat) (fun a b hb => (pO_some hb).2.2) h
    unfold sideL
    rw [this]
    exact split_join _ l (Nat.le_refl _)
theorem split_side {q : Nat} {x : List Int} (h : x ≠ []) : splitSp (sideL q x) = x.map (fun y => textL y q) := by
  unfold sideL
  refine join_split _ (by simpa using h) (fun p hp => ?_)
  obtain ⟨y, _, rfl⟩ := List.mem_map.1 hp
  exact text_no32 y q
theorem mapO_side {q : Int} (hq : qOk q) : ∀ (x : List Int), (∀ y ∈ x, i64 y) → mapO (pO q) (x.map (fun y => textL y q.toNat)) = some x
  | [], _ => rfl
  | y :: r, h => by
    rw [List.map_cons]
    unfold mapO
    rw [pO_text hq (h y (by simp)), mapO_side hq r (fun a ha => h a (by simp [ha]))]
theorem readS_side {q : Int} (hq : qOk q) {x : List Int} (hx : x ≠ []) (h : ∀ y ∈ x, i64 y) : readS q (sideL q.toNat x) = some x := by
  unfold readS
  rw [split_side hx]
  exact mapO_side hq x h
theorem readS_nil (q : Int) : readS q [] = none := by
  cases h : readS q [] with
  | none => rfl
  | some x =>
    obtain ⟨_, hne, _, hs⟩ := readS_some h
    cases x with
    | nil => exact absurd rfl hne
    | cons y r =>
      unfold sideL at hs
      rw [List.map_cons] at hs
      cases r with
      | nil => rw [List.map_nil, join_one] at hs; exact absurd hs (text_ne y _)
      | cons z r => rw [join_cons2 _ (by simp)] at hs; simp at hs
theorem side_no62 (q : Nat) (x : List Int) : (62 : UInt8) ∉ sideL q x := fun h => by
  rcases join_mem _ h with h | ⟨p, hp, h⟩
  · exact absurd h (by decide)
  · obtain ⟨y, _, rfl⟩ := List.mem_map.1 hp
    exact text_no62 y q h
theorem cut_at {a b : List UInt8} (h : (62 : UInt8) ∉ a) : cut (a ++ SEP ++ b) SEP = (a, b, true) := by
  have hix : index (a ++ SEP ++ b) SEP = (a.length : Int) := by
    refine index_first (by simp [SEP]) ?_ ?_
    · unfold occAt
      rw [List.append_assoc, List.drop_left]
      simp [SEP, List.isPrefixOf]
    · intro j hj
      unfold occAt
      cases hp : SEP.isPrefixOf ((a ++ SEP ++ b).drop j) with
      | false => rfl
      | true =>
        exfalso
        obtain ⟨t, ht⟩ := List.isPrefixOf_iff_prefix.1 hp
        have h1 : ((a ++ SEP ++ b).drop j)[1]? = some 62 := by rw [← ht]; simp [SEP]
        rw [List.getElem?_drop, List.append_assoc] at h1
        by_cases hj1 : j + 1 < a.length
        · rw [List.getElem?_append_left hj1] at h1
          exact h (List.mem_of_getElem? h1)
        · have hj2 : j + 1 = a.length := by omega
          rw [hj2, List.getElem?_append_right (Nat.le_refl _)] at h1
          simp [SEP] at h1
  unfold cut
  rw [hix, if_pos (by omega)]
  have h2 : ((a.length : Int)).toNat = a.length := by omega
  rw [h2]
  have h3 : (a ++ SEP ++ b).take a.length = a := by rw [List.append_assoc, List.take_left]
  have h4 : (a ++ SEP ++ b).drop (a.length + SEP.length) = b := by
    rw [← List.length_append, List.drop_left]
  rw [h3, h4]
theorem cut_back {l : List UInt8} (h : (cut l SEP).2.2 = true) : l = (cut l SEP).1 ++ SEP ++ (cut l SEP).2.1 := by
  unfold cut at *
  split at h
  · rename_i h0
    rw [if_pos h0]
    rcases index_spec l SEP with ⟨e, _⟩ | ⟨i, e, hi, ho, _⟩
    · omega
    · rw [e]
      have h2 : ((i : Nat) : Int).toNat = i := by omega
      rw [h2]
      unfold occAt at ho
      obtain ⟨t, ht⟩ := List.isPrefixOf_iff_prefix.1 ho
      have h3 : l.drop (i + SEP.length) = t := by rw [← List.drop_drop, ← ht, List.drop_left]
      show l = l.take i ++ SEP ++ l.drop (i + SEP.length)
      rw [h3, List.append_assoc, ht, List.take_append_drop]
  · cases h
theorem cut_none {l : List UInt8} (h : (cut l SEP).2.2 = false) : (cut l SEP).2.1 = [] := by
  unfold cut at *
  split at h
  · cases h
  · rename_i h0; rw [if_neg h0]

/-- The program's way finds just the example that has the text. -/
theorem readE_text {e : Ex} {q : Int} (h : exOk e q) (hi : InE e) : readE (exL q.toNat e) q = some e := by
  unfold readE exL
  rw [cut_at (side_no62 _ _)]
  simp only [readS_side h.1 h.2.1 hi.1, readS_side h.1 h.2.2 hi.2]
theorem readE_some {e : Ex} {q : Int} {l : List UInt8} (h : readE l q = some e) : exOk e q ∧ InE e ∧ exL q.toNat e = l := by
  unfold readE at h
  cases h1 : readS q (cut l SEP).1 with
  | none => rw [h1] at h; cases h
  | some x =>
    cases h2 : readS q (cut l SEP).2.1 with
    | none => rw [h1, h2] at h; cases h
    | some y =>
      rw [h1, h2] at h
      injection h with h
      subst h
      obtain ⟨a1, a2, a3, a4⟩ := readS_some h1
      obtain ⟨b1, b2, b3, b4⟩ := readS_some h2
      refine ⟨⟨a1, a2, b2⟩, ⟨a3, b3⟩, ?_⟩
      cases hc : (cut l SEP).2.2 with
      | false => rw [cut_none hc, readS_nil] at h2; cases h2
      | true =>
        unfold exL
        simp only [a4, b4]
        exact (cut_back hc).symm
theorem exL_inj {e f : Ex} {q : Int} (he : exOk e q) (hf : exOk f q) (ie : InE e) (jf : InE f) (h : exL q.toNat e = exL q.toNat f) : e = f := by
  have h1 := readE_text he ie
  rw [h, readE_text hf jf] at h1
  injection h1 with h1
  exact h1.symm

/-- The reference's way: word by word; the first word that is a sign parts the sides. -/
def addE (right : Bool) (e : Ex) (x : Int) : Ex := if right = true then (e.1, e.2 ++ [x]) else (e.1 ++ [x], e.2)
def wordsE (q : Int) : List (List UInt8) → Bool → Ex → Option Ex
  | [], _, e => some e
  | w :: r, right, e => if w = [62] ∧ right = false then wordsE q r true e else match pO q w with
    | none => none
    | some x => wordsE q r right (addE right e x)
def readR (l : List UInt8) (q : Int) : Option Ex :=
  match wordsE q (splitSp l) false ([], []) with
  | none => none
  | some e => if exT e q = (l, true) then some e else none
theorem addE_in {right : Bool} {e : Ex} {x : Int} (h : InE e) (hx : i64 x) : InE (addE right e x) := by
  unfold addE
  split
  · refine ⟨h.1, fun y hy => ?_⟩
    rcases List.mem_append.1 hy with hy | hy
    · exact h.2 y hy
    · simp at hy; subst hy; exact hx
  · refine ⟨fun y hy => ?_, h.2⟩
    rcases List.mem_append.1 hy with hy | hy
    · exact h.1 y hy
    · simp at hy; subst hy; exact hx
theorem wordsE_in {q : Int} : ∀ {l : List (List UInt8)} {right : Bool} {e f : Ex}, InE e → wordsE q l right e = some f → InE f
  | [], _, e, f, h, hw => by simp [wordsE] at hw; subst hw; exact h
  | w :: r, right, e, f, h, hw => by
    unfold wordsE at hw
    split at hw
    · exact wordsE_in h hw
    · cases hp : pO q w with
      | none => rw [hp] at hw; cases hw
      | some x => rw [hp] at hw; exact wordsE_in (addE_in h (pO_some hp).2.1) hw
theorem text_ne62 (x : Int) (q : Nat) : textL x q ≠ [62] := fun h => text_no62 x q (by rw [h]; simp)
theorem wordsE_left {q : Int} (hq : qOk q) (tl : List (List UInt8)) : ∀ (x : List Int) (e : Ex), (∀ y ∈ x, i64 y) → wordsE q (x.map (fun y => textL y q.toNat) ++ tl) false e = wordsE q tl false (e.1 ++ x, e.2)
  | [], e, _ => by simp
  | y :: r, e, h => by
    rw [List.map_cons, List.cons_append, wordsE, if_neg (fun c => text_ne62 _ _ c.1), pO_text hq (h y (by simp))]
    show wordsE q _ false (addE false e y) = _
    rw [wordsE_left hq tl r _ (fun a ha => h a (by simp [ha]))]
    simp [addE]
theorem wordsE_right {q : Int} (hq : qOk q) : ∀ (x : List Int) (e : Ex), (∀ y ∈ x, i64 y) → wordsE q (x.map (fun y => textL y q.toNat)) true e = some (e.1, e.2 ++ x)
  | [], e, _ => by simp [wordsE]
  | y :: r, e, h => by
    rw [List.map_cons, wordsE, if_neg (fun c => text_ne62 _ _ c.1), pO_text hq (h y (by simp))]
    show wordsE q _ true (addE true e y) = _
    rw [wordsE_right hq r _ (fun a ha => h a (by simp [ha]))]
    simp [addE]
theorem split_ex {e : Ex} {q : Nat} (h1 : e.1 ≠ []) (h2 : e.2 ≠ []) : splitSp (exL q e) = e.1.map (fun y => textL y q) ++ [62] :: e.2.map (fun y => textL y q) := by
  have he : exL q e = join (e.1.map (fun y => textL y q) ++ [62] :: e.2.map (fun y => textL y q)) [32] := by
    rw [join_append _ _ (by simpa using h1) (by simp), join_cons2 _ (by simpa using h2)]
    simp [exL, sideL, SEP]
  rw [he]
  refine join_split _ (by simp) (fun p hp => ?_)
  rcases List.mem_append.1 hp with hp | hp
  · obtain ⟨y, _, rfl⟩ := List.mem_map.1 hp; exact text_no32 y q
  · rcases List.mem_cons.1 hp with rfl | hp
    · decide
    · obtain ⟨y, _, rfl⟩ := List.mem_map.1 hp; exact text_no32 y q
/-- Both ways are one. -/
theorem readR_same (l : List UInt8) (q : Int) : readR l q = readE l q := by
  cases hE : readE l q with
  | some e =>
    obtain ⟨ho, hi, rfl⟩ := readE_some hE
    unfold readR
    rw [split_ex ho.2.1 ho.2.2, wordsE_left ho.1 _ _ _ hi.1, wordsE, if_pos ⟨rfl, rfl⟩, wordsE_right ho.1 _ _ hi.2]
    simp [exT_yes ho]
  | none =>
    unfold readR
    cases hw : wordsE q (splitSp l) false ([], []) with
    | none => rfl
    | some e =>
      have hi : InE e := wordsE_in ⟨by simp, by simp⟩ hw
      show (if exT e q = (l, true) then some e else none) = none
      by_cases ho : exOk e q
      · rw [exT_yes ho, if_neg]
        intro h
        injection h with h
        rw [← h, readE_text ho hi] at hE
        cases hE
      · rw [exT_no ho, if_neg]
        intro h
        injection h with _ h
        cases h
end Go.Proofs.YthcahpgandappaaGreatDoor
