/- Pick of package data and of the reference: copies of the examples with some indices, or nothing. Condition: at most 100 examples and 100 indices, each list of at most 1000 numbers. -/
import Derived.Test.YthdkanmpapioeaaDoorEo
import Derived.Test.YthdkanmpapioeaaDoorEg
import Derived.Test.YthdkanmpapioeaaDoorEm
namespace Go.Proofs.YthdkanmpapioeaaDoor
open Go.RowKit

/-- The example with an index; those with some indices. -/
def atO (es : List Ex) (i : Int) : Option Ex := if 0 ≤ i ∧ i < es.length then some (ex es i.toNat) else none
def pickV (es : List Ex) (is : List Int) : Option (List Ex) := mapO (atO es) is
/-- Where the examples' lists lie. -/
def AtP (B : Nat) (W : World) (a : Option Addr) (es : List Ex) (P : Nat → Pl) : Prop := ∀ j, j < es.length → ∃ b off, a = some ⟨b, off, none⟩ ∧ b < B ∧ W.cell? ⟨b, off + j * 2, none⟩ = some (.slice (P j).xa (lx es j) (P j).xc) ∧ W.cell? ⟨b, off + j * 2 + 1, none⟩ = some (.slice (P j).ya (ly es j) (P j).yc) ∧
  RdK .i64 B W (P j).xa (ex es j).1 ∧ RdK .i64 B W (P j).ya (ex es j).2 ∧ ((P j).xa = none → (P j).xc = 0) ∧ ((P j).ya = none → (P j).yc = 0)
theorem atP_of {B : Nat} {W : World} {a : Option Addr} {es : List Ex} (h : RdE B W a es) : ∃ P, AtP B W a es P := by
  have each : ∀ j, j < es.length → ∃ p : Pl, ∃ b off, a = some ⟨b, off, none⟩ ∧ b < B ∧ W.cell? ⟨b, off + j * 2, none⟩ = some (.slice p.xa (lx es j) p.xc) ∧ W.cell? ⟨b, off + j * 2 + 1, none⟩ = some (.slice p.ya (ly es j) p.yc) ∧
      RdK .i64 B W p.xa (ex es j).1 ∧ RdK .i64 B W p.ya (ex es j).2 ∧ (p.xa = none → p.xc = 0) ∧ (p.ya = none → p.yc = 0) := fun j hj => by
    obtain ⟨b, off, xa, xc, ya, yc, ha, hb, h⟩ := h.at hj
    exact ⟨⟨xa, xc, ya, yc⟩, b, off, ha, hb, h⟩
  obtain ⟨P, hP⟩ := Go.Deep.choose_lt each
  exact ⟨P, hP⟩
theorem AtP.below {B : Nat} {W W' : World} {a : Option Addr} {es : List Ex} {P : Nat → Pl} (h : AtP B W a es P) (g : Below B W W') : AtP B W' a es P := fun j hj => by
  obtain ⟨b, off, ha, hb, h1, h2, h3, h4, h5⟩ := h j hj
  exact ⟨b, off, ha, hb, (g.cell (p := ⟨b, off + j * 2, none⟩) hb).trans h1, (g.cell (p := ⟨b, off + j * 2 + 1, none⟩) hb).trans h2, h3.below g, h4.below g, h5⟩
def atR (es : List Ex) (P : Nat → Pl) (i : Int) : Option (Pl × Ex) := if 0 ≤ i ∧ i < es.length then some (P i.toNat, ex es i.toNat) else none
theorem atR_snd (es : List Ex) (P : Nat → Pl) (i : Int) : atO es i = (atR es P i).map Prod.snd := by
  unfold atO atR
  split <;> rfl
theorem pick_some {es : List Ex} {P : Nat → Pl} : ∀ {is : List Int} {rs : List (Pl × Ex)}, rs.length = is.length → (∀ j, j < is.length → atR es P (el is j) = some (rs[j]?.getD nilR)) → pickV es is = some (rs.map Prod.snd)
  | [], rs, hl, _ => by
    obtain rfl : rs = [] := List.eq_nil_of_length_eq_zero (by simpa using hl)
    rfl
  | i :: is, rs, hl, h => by
    cases rs with
    | nil => simp at hl
    | cons r rs =>
      have h0 : atR es P i = some r := h 0 (by simp)
      have ih := pick_some (es := es) (P := P) (is := is) (rs := rs) (by simpa using hl) (fun j hj => by
        have := h (j + 1) (by simpa using hj)
        simpa [el] using this)
      unfold pickV at ih ⊢
      unfold mapO
      rw [atR_snd es P i, h0, ih]
      rfl
theorem pick_none {es : List Ex} {P : Nat → Pl} {is : List Int} {j : Nat} (hj : j < is.length) (h : atR es P (el is j) = none) : pickV es is = none := by
  unfold pickV
  refine mapO_none _ _ (a := el is j) (List.mem_of_getElem? (el_lt hj)) ?_
  rw [atR_snd es P, h]
  rfl
theorem atR_some {es : List Ex} {P : Nat → Pl} {i : Int} {r : Pl × Ex} (h : atR es P i = some r) : ∃ k : Nat, i = k ∧ k < es.length ∧ r = (P k, ex es k) := by
  unfold atR at h
  split at h
  · rename_i hc
    refine ⟨i.toNat, by omega, by omega, (Option.some.inj h).symm⟩
  · cases h
/-- Such examples can be read where those that were given can. -/
theorem rdL_of {B : Nat} {W : World} {a : Option Addr} {es : List Ex} {P : Nat → Pl} {is : List Int} {rs : List (Pl × Ex)} (h : AtP B W a es P) (hl : rs.length = is.length) (hr : ∀ j, j < is.length → atR es P (el is j) = some (rs[j]?.getD nilR)) : RdL B W rs := fun j r hj => by
  have hlt : j < is.length := by rw [← hl]; exact (List.getElem?_eq_some_iff.1 hj).1
  have h1 := hr j hlt
  rw [hj] at h1
  obtain ⟨k, _, hk, rfl⟩ := atR_some h1
  obtain ⟨_, _, _, _, _, _, h3, h4, h5⟩ := h k hk
  exact ⟨h3, h4, h5⟩
theorem smE_of {es : List Ex} {P : Nat → Pl} {is : List Int} {rs : List (Pl × Ex)} (h : SmE es) (hi : is.length ≤ 100) (hl : rs.length = is.length) (hr : ∀ j, j < is.length → atR es P (el is j) = some (rs[j]?.getD nilR)) : SmE (rs.map Prod.snd) := by
  refine ⟨by rw [List.length_map, hl]; exact hi, fun k hk => ?_⟩
  rw [List.length_map] at hk
  have h1 := hr k (by omega)
  obtain ⟨r, hr'⟩ : ∃ r, rs[k]? = some r := ⟨_, List.getElem?_eq_getElem hk⟩
  rw [hr'] at h1
  obtain ⟨m, _, hm, rfl⟩ := atR_some h1
  unfold lx ly
  rw [ex_map rs hr']
  exact h.2 m hm

set_option maxHeartbeats 2000000 in
theorem pickF_any {n : Nat} (i : Int) (a : Option Addr) (c : Nat) (es : List Ex) (P : Nat → Pl) (b : Nat) (w : World) (hn : es.length = n) (hl : n ≤ 100) (hb : Boxed w b 26 (.slice a n c)) (hP : AtP w.heap.size w a es P) :
    Calls Tryd.prog 36 #[.int .i64 i, .pointer (some ⟨b, 0, none⟩)] w fun e w' => ((∃ r : Pl × Ex, atR es P i = some r ∧ e = .returned (.tuple #[.agg #[.slice r.1.xa r.2.1.length r.1.xc, .slice r.1.ya r.2.2.length r.1.yc], .bool true])) ∨ (atR es P i = none ∧ ∃ r : Pl × Ex, e = .returned (.tuple #[.agg #[.slice r.1.xa r.2.1.length r.1.xc, .slice r.1.ya r.2.2.length r.1.yc], .bool false]))) ∧ Grew w w' := by
  have gA : Grew w (w.alloc (.cells #[.slice none 0 0, .slice none 0 0] 24)) := (Grew.refl w).alloc _
  have hT := Two.new w 24 (.slice none 0 0) (.slice none 0 0)
  have t0 := hT.c0
  have t1 := hT.c1
  have f0 := hT.f0
  have f1 := hT.f1
  have HG := Lib.hid gA
  have HT := Lib.hid hT
  have c0 := (boxed_kept hb gA).cell
  by_cases h : 0 ≤ i ∧ i < es.length
  · obtain ⟨k, rfl⟩ := Int.eq_ofNat_of_zero_le h.1
    have hk : k < n := by have := h.2; omega
    obtain ⟨bb, off, rfl, hbb, d0, d1, _⟩ := hP k (by omega)
    have e0 : (w.alloc (.cells #[.slice none 0 0, .slice none 0 0] 24)).cell? ⟨bb, off + k * 2, none⟩ = some (.slice (P k).xa (lx es k) (P k).xc) := (Below.cell gA (p := ⟨bb, off + k * 2, none⟩) hbb).trans d0
    have e1 : (w.alloc (.cells #[.slice none 0 0, .slice none 0 0] 24)).cell? ⟨bb, off + k * 2 + 1, none⟩ = some (.slice (P k).ya (ly es k) (P k).yc) := (Below.cell gA (p := ⟨bb, off + k * 2 + 1, none⟩) hbb).trans d1
    obtain ⟨r, hr⟩ : ∃ r, r = (P k, ex es k) := ⟨_, rfl⟩
    have HR : Hid (atR es P (k : Int) = some r) := Lib.hid (by unfold atR; rw [if_pos h, Int.toNat_natCast, hr])
    have HV : Hid (Value.agg #[.slice (P k).xa (lx es k) (P k).xc, .slice (P k).ya (ly es k) (P k).yc] = .agg #[.slice r.1.xa r.2.1.length r.1.xc, .slice r.1.ya r.2.2.length r.1.yc]) := Lib.hid (by rw [hr]; rfl)
    have HT4 := Lib.hid (Two.new w 24 (.slice (P k).xa (lx es k) (P k).xc) (.slice (P k).ya (ly es k) (P k).yc))
    have HG4 := Lib.hid ((Grew.refl w).alloc (.cells #[.slice (P k).xa (lx es k) (P k).xc, .slice (P k).ya (ly es k) (P k).yc] 24))
    clear hb hP h d0 d1 hT gA hr
    generalize lx es k = m1 at *
    generalize ly es k = m2 at *
    generalize (P k).xa = xa at *
    generalize (P k).xc = xc at *
    generalize (P k).ya = ya at *
    generalize (P k).yc = yc at *
    subst hn
    go_enter Tryd.func36, Tryd.ntmps36
    go_wp2
    have r0 := HT4.out.c0
    have r1 := HT4.out.c1
    exact bodyPost_ret (v := .tuple #[.agg #[.slice xa m1 xc, .slice ya m2 yc], .bool true]) (by simp [results, Tryd.results36, go_sem, r0, r1]) rfl ⟨.inl ⟨r, HR.out, by rw [HV.out]⟩, HG4.out⟩
  · have HR : Hid (atR es P i = none) := Lib.hid (by unfold atR; rw [if_neg h])
    have HT4 := Lib.hid hT
    have HG4 := Lib.hid gA
    subst hn
    by_cases h0 : i < 0
    · clear hb hP h hT gA
      go_enter Tryd.func36, Tryd.ntmps36
      go_wp2
      have r0 := HT4.out.c0
      have r1 := HT4.out.c1
      exact bodyPost_ret (v := .tuple #[.agg #[.slice none 0 0, .slice none 0 0], .bool false]) (by simp [results, Tryd.results36, go_sem, r0, r1]) rfl (by first | exact ⟨.inr ⟨HR.out, nilR, rfl⟩, HG4.out⟩ | exact ⟨.inr ⟨HR.out, ⟨none, 0, none, 0⟩, [], [], rfl⟩, HG4.out⟩ | exact ⟨.inr ⟨HR.out, ⟨none, 0, none, 0⟩, ([], []), rfl⟩, HG4.out⟩)
    · have h1 : (es.length : Int) ≤ i := by omega
      clear hb hP h hT gA
      go_enter Tryd.func36, Tryd.ntmps36
      go_wp2
      have r0 := HT4.out.c0
      have r1 := HT4.out.c1
      exact bodyPost_ret (v := .tuple #[.agg #[.slice none 0 0, .slice none 0 0], .bool false]) (by simp [results, Tryd.results36, go_sem, r0, r1]) rfl (by first | exact ⟨.inr ⟨HR.out, nilR, rfl⟩, HG4.out⟩ | exact ⟨.inr ⟨HR.out, ⟨none, 0, none, 0⟩, [], [], rfl⟩, HG4.out⟩ | exact ⟨.inr ⟨HR.out, ⟨none, 0, none, 0⟩, ([], []), rfl⟩, HG4.out⟩)

set_option maxHeartbeats 2000000 in
theorem dPick_any {n m : Nat} (a ia : Option Addr) (c ic : Nat) (es : List Ex) (is : List Int) (w : World) (hn : es.length = n) (hm : is.length = m) (hs : SmE es) (hl : m ≤ 100) (hr : RdE w.heap.size w a es) (hi : RdK .i64 w.heap.size w ia is) :
    Calls Tryd.prog 19 #[.slice a n c, .slice ia m ic] w fun e w' => (∃ v rs ok, e = .returned (.tuple #[v, .bool ok]) ∧ LotE w.heap.size w' v rs ∧ OwnL w.heap.size w' rs ∧ ((ok = true ∧ pickV es is = some (rs.map Prod.snd)) ∨ (ok = false ∧ pickV es is = none ∧ rs = []))) ∧ Grew w w' := by
  have hn1 := hs.1
  rw [hn] at hn1
  obtain ⟨P, hP⟩ := atP_of hr
  have hg : Grew w ((w.alloc (.cells #[.slice a n c] 26)).alloc (.cells #[.slice ia m ic] 38)) := ((Grew.refl w).alloc _).alloc _
  have b1 := (Boxed.new w 26 (.slice a n c)).alloc (.cells #[.slice ia m ic] 38)
  have b2 := Boxed.new (w.alloc (.cells #[.slice a n c] 26)) 38 (.slice ia m ic)
  rw [World.size_alloc] at b2
  have hsz : ((w.alloc (.cells #[.slice a n c] 26)).alloc (.cells #[.slice ia m ic] 38)).heap.size = w.heap.size + 1 + 1 := by simp
  have HG := Lib.hid hg
  have HP := Lib.hid hP
  have HI := Lib.hid hi
  have B1 := Lib.hid b1
  have B2 := Lib.hid b2
  have HSZ := Lib.hid hsz
  have HN := Lib.hid hn
  have HM := Lib.hid hm
  have HS := Lib.hid hs
  clear hg b1 b2 hsz hr hi hn hm hs hP
  go_enter Tryd.func19, Tryd.ntmps19
  go_wp2_with fail
  refine (valsI_any ia m ic _).mono ?_
  rintro e w1 ⟨rfl, rfl⟩
  rw [World.size_alloc]
  generalize (w.alloc (.cells #[.slice a n c] 26)).alloc (.cells #[.slice ia m ic] 38) = W0 at *
  obtain ⟨L, hL⟩ : ∃ L, w.heap.size = L := ⟨_, rfl⟩
  have HL := Lib.hid hL
  rw [hL] at B1 B2 HSZ ⊢
  clear hL
  go_wp2_with fail
  refine (mapE (gf := 55) (gs := 36) (lb := #[.pointer (some ⟨L + 1, 0, none⟩)]) (caps := #[.pointer (some ⟨L, 0, none⟩)]) (enters_of Tryd.func55 (by kernel_rfl) rfl) (enters_of Tryd.func36 (by kernel_rfl) rfl)
    (E := fun k => el is k) (o := fun k => atR es P (el is k)) (N := m) (rr := none) W0 (by omega) (fun x e => by cases e)
    (fun W g => valsI_yields 8 (by omega) HM.out (by omega) W (by rw [HSZ.out]; omega) g.size (boxed_kept B2.out g) (RdK.below ((RdK.below HI.out HG.out).mono HG.out.size) g) _)
    (fun k W hk g => pickF_any (el is k) a c es P L W HN.out hn1 (boxed_kept B1.out (grew_none g)) (by
      have h2 := HP.out.below (HG.out.trans (grew_none g))
      have h3 := (HG.out.trans (grew_none g)).size
      exact fun j hj => by
        obtain ⟨b, off, ha, hb, q1, q2, q3, q4, q5⟩ := h2 j hj
        exact ⟨b, off, ha, Nat.lt_of_lt_of_le hb h3, q1, q2, q3.mono h3, q4.mono h3, q5⟩))).mono ?_
  rintro e w2 ⟨⟨v, ms, rfl, hml, hmo, hrow⟩ | ⟨rfl, j, hj, hno⟩, g2⟩
  · have HG2 := Lib.hid (HG.out.trans (grew_none g2))
    obtain ⟨va, vc, rfl⟩ := own_form hrow
    have hlot : LotE W0.heap.size w2 (.slice va m vc) ms := by unfold LotE; rw [hml]; exact hrow
    have hP2 := HP.out.below HG2.out
    have hRL := rdL_of hP2 (hml.trans HM.out.symm) (fun j hj => hmo j (by rw [HM.out] at hj; exact hj))
    have HRE := Lib.hid (hlot.rdE (hRL.mono HG2.out.size))
    have HSM := Lib.hid (smE_of (P := P) HS.out (by rw [HM.out]; exact hl) (hml.trans HM.out.symm) (fun j hj => hmo j (by rw [HM.out] at hj; exact hj)))
    have HPV := Lib.hid (pick_some (P := P) (hml.trans HM.out.symm) (fun j hj => hmo j (by rw [HM.out] at hj; exact hj)))
    have HLE : Hid ((ms.map Prod.snd).length = m) := Lib.hid (by rw [List.length_map]; exact hml)
    clear hlot hP2 hRL hrow hmo hml g2 HG B1 B2 HSZ
    go_wp2_with fail
    refine (dcloneE_any va vc (ms.map Prod.snd) w2 HLE.out HSM.out HRE.out).mono ?_
    rintro e w3 ⟨⟨v3, rs, rfl, hrs, hl3, ho3⟩, g3⟩
    have hsz3 := HG2.out.size
    have HL3 := Lib.hid (hl3.mono hsz3)
    have HO3 := Lib.hid (OwnL.mono ho3 hsz3)
    have HPV3 : Hid (pickV es is = some (rs.map Prod.snd)) := Lib.hid (by rw [hrs]; exact HPV.out)
    obtain ⟨v3a, v3c, rfl, _, _⟩ := hl3.form
    clear hl3 ho3 hrs hsz3
    go_wp2
    go_ret2
    exact ⟨⟨_, rs, true, rfl, HL3.out, HO3.out, .inl ⟨rfl, HPV3.out⟩⟩, HG2.out.trans g3⟩
  · have HG2 := Lib.hid (HG.out.trans (grew_none g2))
    have HPV := Lib.hid (pick_none (P := P) (by rw [HM.out]; exact hj) hno)
    clear g2 hno HG B1 B2 HSZ
    go_wp2_with fail
    refine (dcloneE_any (n := 0) none 0 [] w2 rfl ⟨by decide, fun k hk => by simp at hk⟩ RdE.empty).mono ?_
    rintro e w3 ⟨⟨v3, rs, rfl, hrs, hl3, ho3⟩, g3⟩
    have hsz3 := HG2.out.size
    obtain rfl : rs = [] := List.map_eq_nil_iff.1 hrs
    have HL3 := Lib.hid (hl3.mono hsz3)
    have HO3 := Lib.hid (OwnL.mono ho3 hsz3)
    obtain ⟨v3a, v3c, rfl, _, _⟩ := hl3.form
    clear hl3 ho3 hrs hsz3
    go_wp2
    go_ret2
    exact ⟨⟨_, [], false, rfl, HL3.out, HO3.out, .inr ⟨rfl, HPV.out, rfl⟩⟩, HG2.out.trans g3⟩
end Go.Proofs.YthdkanmpapioeaaDoor
