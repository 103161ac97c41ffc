/- Texts: the reference's Unsigned; strconv.Itoa leaves what lies below; strings.Join of few numbers; join of package shape, number and Name of the reference. Conditions: the numbers are at most 2^20; the table of powers of ten is laid. -/
import Derived.Test.YtfgadjpdpocdbaaDoorShelf
import Derived.Test.YtfgadjpdpocdbaaDoorHe
import Derived.Test.YtfgadjpdpocdbaaDoorHb
import Derived.Deep.AppendLies
namespace Go.Proofs.YtfgadjpdpocdbaaDoor
open Go.RowKit Go.Shelf
set_option linter.unusedVariables false

theorem ret_str {a b : ByteArray} (h : a = b) : Ending.returned (.string a) = .returned (.string b) := by rw [h]
theorem str_append (a b : List UInt8) : (⟨a.toArray⟩ : ByteArray) ++ ⟨b.toArray⟩ = ⟨(a ++ b).toArray⟩ := by
  apply ByteArray.ext; simp
theorem digit_piece {d : Nat} (h : d < 10) : (⟨#[48, 49, 50, 51, 52, 53, 54, 55, 56, 57]⟩ : ByteArray).extract d (d + 1) = ⟨#[ch d]⟩ := by
  have h2 : ∀ k : Fin 10, (⟨#[48, 49, 50, 51, 52, 53, 54, 55, 56, 57]⟩ : ByteArray).extract k.val (k.val + 1) = ⟨#[ch k.val]⟩ := by decide
  exact h2 ⟨d, h⟩
set_option maxHeartbeats 4000000 in
theorem unsigned_any (n : Nat) (hn : n < 18446744073709551616) (w : World) :
    Calls Tryd.prog 44 #[.int .u64 (n : Int)] w fun e w' => e = .returned (.string ⟨(Lib.decDigits n).toArray⟩) ∧ Grew w w' := by
  induction n using Nat.strongRecOn generalizing w with
  | _ n ih =>
    obtain ⟨d, hd⟩ : ∃ d, n % 10 = d := ⟨_, rfl⟩
    have hd10 : d < 10 := by omega
    have r1 : (n : Int) % 10 = (d : Int) := by omega
    have HP := Lib.hid (digit_piece hd10)
    have IH := Lib.hid ih
    have HD := Lib.hid hd
    clear ih hd
    have hsl : ∀ W, (Instr.slice 9 (.string ⟨#[48, 49, 50, 51, 52, 53, 54, 55, 56, 57]⟩) (some (.int .u64 (d : Int))) (some (.int .u64 ((d : Int) + 1))) none).run Tryd.prog W = .ok (.string ⟨#[ch d]⟩) W := fun W => by
      rw [run_slice_string W 9 _ .u64 .u64 (d : Int) ((d : Int) + 1) Tryd.underlying9 (by omega) (by omega) (by show (d : Int) + 1 ≤ ((10 : Nat) : Int); omega)]
      rw [show ((d : Int)).toNat = d by omega, show ((d : Int) + 1).toNat = d + 1 by omega, HP.out]
    by_cases h10 : n < 10
    · go_enter Tryd.func44, Tryd.ntmps44
      go_wp2_with fail
      go_ret
      exact ⟨ret_str (by rw [Lib.decDigits_one h10, show n = d by have := HD.out; omega]; rfl), Grew.refl _⟩
    · obtain ⟨m, hm⟩ : ∃ m, n / 10 = m := ⟨_, rfl⟩
      have r2 : (n : Int) / 10 = (m : Int) := by omega
      have HM := Lib.hid hm
      have hmn : m < n := by omega
      have hm64 : m < 18446744073709551616 := by omega
      have hml := dec_len (u := m) (k := 20) (by omega) (by omega)
      clear hm
      go_enter Tryd.func44, Tryd.ntmps44
      go_wp2_with fail
      refine (IH.out m hmn hm64 _).mono ?_
      rintro e w1 ⟨rfl, g1⟩
      go_wp2_with fail
      go_ret
      exact ⟨ret_str (by rw [dec_snoc h10, ← str_append, HM.out, HD.out]), g1⟩
theorem tab_below {P : Program} {w w' : World} {B : Nat} {name : String} {k : IntKind} {zs : List Int} (h : Lib.TabIs P w name k zs) (hB : w.heap.size ≤ B) (g : Below B w w') : Lib.TabIs P w' name k zs := by
  unfold Lib.TabIs World.var? at *
  cases hg : P.globalNamed name with
  | none => simp [hg] at h
  | some i =>
    simp only [hg, Option.bind_some] at h ⊢
    have hlt : i < w.heap.size := by
      rcases Nat.lt_or_ge i w.heap.size with h' | h'
      · exact h'
      · rw [Array.getElem?_eq_none h'] at h; simp at h
    rw [g.block i (by omega)]
    exact h

theorem grow_grew (w : World) (k : Nat) (os : Array Obj) : Grew w (Go.Sort.grow (w.drewN k) os) := by
  refine ⟨rfl, rfl, rfl, by simp, fun j hj => ?_⟩
  show ((w.drewN k).heap ++ os)[j]? = _
  rw [Array.getElem?_append_left (by simpa using hj)]
  simp
theorem itoa_nat (n : Nat) : Lib.itoa (n : Int) = Lib.decDigits n := by unfold Lib.itoa; rw [if_neg (by omega), Int.toNat_natCast]
def nv (ns : List Nat) (k : Nat) : Nat := ns[k]?.getD 0
theorem nv_lt {ns : List Nat} {k : Nat} (h : k < ns.length) : ns[k]? = some (nv ns k) := by unfold nv; rw [List.getElem?_eq_getElem h]; rfl
theorem el_nat (ns : List Nat) (k : Nat) : el (ns.map (fun n : Nat => (n : Int))) k = (nv ns k : Int) := by
  unfold el nv
  rw [List.getElem?_map]
  cases ns[k]? <;> rfl
/-- The text of a number, as a value. -/
def tx (n : Nat) : Value := .string ⟨(Lib.decDigits n).toArray⟩
theorem tx_succ {ns : List Nat} {k : Nat} (h : k < ns.length) : (ns.map tx).take (k + 1) = (ns.map tx).take k ++ [tx (nv ns k)] := by
  rw [List.take_add_one, List.getElem?_map, nv_lt h]; simp
def txs (ns : List Nat) : List ByteArray := ns.map fun n => ⟨(Lib.decDigits n).toArray⟩
theorem txs_data (ns : List Nat) : (txs ns).map (·.data.toList) = ns.map Lib.decDigits := by simp [txs]
theorem txs_at {ns : List Nat} {j : Nat} {x : ByteArray} (h : (txs ns)[j]? = some x) : (ns.map tx)[j]? = some (.string x) := by
  unfold txs at h
  rw [List.getElem?_map] at h ⊢
  cases hj : ns[j]? with
  | none => rw [hj] at h; cases h
  | some n => rw [hj] at h; simp only [Option.map_some, Option.some.injEq] at h ⊢; rw [← h]; rfl
theorem join_len {ns : List Nat} (h : ∀ k, k < ns.length → nv ns k ≤ 1048576) (h3 : ns.length ≤ 3) : (Lib.join (ns.map Lib.decDigits) [46]).length ≤ 30 := by
  have hd : ∀ n : Nat, n ≤ 1048576 → (Lib.decDigits n).length ≤ 7 := fun n hn => dec_len (by omega) (by omega)
  match ns, h, h3 with
  | [], _, _ => simp [Lib.join_nil]
  | [p], h, _ =>
    have := hd p (h 0 (by simp))
    rw [List.map_cons, List.map_nil, Lib.join_one]; omega
  | [p, q], h, _ =>
    have h1 := hd p (h 0 (by simp))
    have h2 := hd q (h 1 (by simp))
    rw [List.map_cons, Lib.join_cons]
    simp [Lib.joinTail]; omega
  | [p, q, r], h, _ =>
    have h1 := hd p (h 0 (by simp))
    have h2 := hd q (h 1 (by simp))
    have h3 := hd r (h 2 (by simp))
    rw [List.map_cons, Lib.join_cons]
    simp [Lib.joinTail]; omega
  | _ :: _ :: _ :: _ :: _, _, h3 => simp at h3
theorem info_string : (Tryd.prog.info? 9).map (fun i => (i.zero, i.size, i.bytes)) = some (some (.string ⟨#[]⟩), 1, 16) := by kernel_rfl
theorem sjoin_n {n : Nat} (bk c : Nat) (ns : List Nat) (w : World) (hn : ns.length = n) (h3 : n ≤ 3) (hs : ∀ k, k < ns.length → nv ns k ≤ 1048576) (hb : bk < w.heap.size) (hc : n ≤ c) (hcells : ∀ j x, (ns.map tx)[j]? = some x → w.cell? ⟨bk, j, none⟩ = some x) :
    Calls Tryd.prog 42 #[.slice (some ⟨bk, 0, none⟩) n c, .string ⟨#[46]⟩] w fun e w' => e = .returned (.string ⟨(Lib.join (ns.map Lib.decDigits) [46]).toArray⟩) ∧ Grew w w' := by
  have hl : (txs ns).length = n := by unfold txs; rw [List.length_map]; exact hn
  have hj := join_len hs (by omega)
  have := Tryd.strings_Join bk 0 c (txs ns) ⟨#[46]⟩ w (fun j x hx => by rw [Nat.zero_add]; exact hcells j _ (txs_at hx)) hb (by omega) (by omega) (by rw [txs_data]; exact Nat.le_trans hj (by omega))
  rw [hl, txs_data] at this
  exact this

set_option maxHeartbeats 4000000 in
theorem join_any (L : List UInt8) (a : Option Addr) (c : Nat) (ns : List Nat) (w : World) (h2 : 2 ≤ ns.length) (h3 : ns.length ≤ 3) (hs : ∀ k, k < ns.length → nv ns k ≤ 1048576) (hL : L.length ≤ 10) (h : RdK .i64 w.heap.size w a (ns.map (fun n : Nat => (n : Int))))
    (hT : Lib.TabIs Tryd.prog w "internal/strconv.uint64pow10" .u64 Lib.pow10Tab) :
    Calls Tryd.prog 34 #[.string ⟨L.toArray⟩, .slice a ns.length c] w fun e w' => e = .returned (.string ⟨(L ++ Lib.join (ns.map Lib.decDigits) [46]).toArray⟩) ∧ Grew w w' := by
  obtain ⟨i0, hi, hz0, hz1, hz2⟩ := info_parts info_string
  have HX := Lib.hid h
  have HJ := Lib.hid (join_len hs h3)
  have HS := Lib.hid hs
  clear h hs
  go_enter Tryd.func34, Tryd.ntmps34
  go_wp2
  go_loopw [5, 10] (fun v i wr => ∃ k : Nat, k ≤ ns.length ∧ i = .int .i64 k ∧ Hid (wr.ownsRow w.heap.size 9 1 v k ((ns.map tx).take k)) ∧ Hid (Grew w wr)) (fun _ i _ => ns.length - (intOf i).toNat)
  case atStart => exact ⟨0, Nat.zero_le _, rfl, Lib.hid (World.ownsRow_nil _ _ _ _), Lib.hid (Grew.refl _)⟩
  case round =>
    obtain ⟨k, hk, rfl, HB, HG⟩ := hrel
    by_cases hlt : k < ns.length
    · obtain ⟨b, off, rfl, hb, hc⟩ := (HX.out.grow HG.out).at (k := k) (by rw [List.length_map]; exact hlt)
      rw [el_nat] at hc
      have hn := HS.out k hlt
      have HSu := Lib.hid (tx_succ hlt)
      generalize nv ns k = n at *
      have HI := Lib.hid (itoa_nat n)
      go_wp2_with fail
      refine (Tryd.strconv_Itoa (n : Int) (by omega) (by omega) _ (tab_below hT (Nat.le_refl _) HG.out)).mono ?_
      rintro e w1 ⟨rfl, kk, os, hw1⟩
      have g1 : Grew wr w1 := by rw [hw1]; exact grow_grew wr kk os
      rw [HI.out]
      have HB1 := Lib.hid (own_grow HB.out g1)
      have HG1 := Lib.hid (HG.out.trans g1)
      clear hw1 g1
      go_wp2_with (at_builtin; refine wpList_append_own _ rfl _ _ 67 rfl w.heap.size 9 i0 (.string ⟨#[]⟩) 1 16 Tryd.underlying67 hi hz0 hz1 hz2 rfl (by decide) _ k _ rfl (HB1.out.alloc _) ⟨w1.heap.size, 0, none⟩ 1 1 [tx n] rfl rfl ?qc2 ?qc3 ?qc4 ?qc5 ?qc6 ?_)
      case qc2 => exact cell_one_new _ _ _
      case qc3 => intro u hu; simp only [List.mem_singleton] at hu; subst hu; rfl
      case qc4 => unfold maxLen; omega
      case qc5 => omega
      case qc6 => have := HG1.out.size; simp; omega
      intro v' w2 hown hgrow hnil
      have HO : Hid (w2.ownsRow w.heap.size 9 1 v' (k + 1) ((ns.map tx).take (k + 1))) := Lib.hid (by rw [HSu.out]; exact hown)
      have HG2 : Hid (Grew w w2) := Lib.hid (Below.grown (HG1.out.alloc _) hgrow (by have := HG1.out.size; simp; omega) (fun j hj => (World.ownsRow.lt HB1.out j hj).1))
      clear hown hgrow hnil
      go_wp2_with fail
      go_roundw
      case rel => exact ⟨k + 1, by omega, by go_num, HO, HG2⟩
      case measure => simp [intOf]; omega
    · obtain rfl : k = ns.length := by omega
      have hb := HB.out
      rw [List.take_of_length_le (by simp)] at hb
      obtain ⟨g, cap, rfl, _, hg⟩ := World.ownsRow.form hb (by omega)
      have hf : ns.length ≤ cap := by
        rcases hb.2 with ⟨e, _⟩ | ⟨g, c', cur, e, _, _, hc, _⟩
        · cases e
        · injection e with _ _ e3; omega
      have HC : Hid (∀ j x, (ns.map tx)[j]? = some x → wr.cell? ⟨g, j, none⟩ = some x) := Lib.hid (fun j x hx => by
        have hj : j < ns.length := by
          rcases Nat.lt_or_ge j ns.length with h' | h'
          · exact h'
          · rw [List.getElem?_eq_none (by simpa using h')] at hx; cases hx
        rw [World.ownsRow.cellAt hb j (by omega)]
        exact hx)
      clear hb HB
      go_wp2_with fail
      refine (sjoin_n g cap ns _ rfl h3 HS.out hg hf HC.out).mono ?_
      rintro e w1 ⟨rfl, g1⟩
      have HJ2 : Hid ((⟨L.toArray⟩ : ByteArray) ++ ⟨(Lib.join (ns.map Lib.decDigits) [46]).toArray⟩ = ⟨(L ++ Lib.join (ns.map Lib.decDigits) [46]).toArray⟩) := Lib.hid (str_append _ _)
      have hj := HJ.out
      obtain ⟨J, hJ⟩ : ∃ J, Lib.join (ns.map Lib.decDigits) [46] = J := ⟨_, rfl⟩
      have HJ3 := Lib.hid hJ
      rw [hJ] at hj ⊢
      clear hJ
      go_wp2_with fail
      go_ret
      exact ⟨ret_str (by rw [← HJ3.out]; exact HJ2.out), HG.out.trans g1⟩
end Go.Proofs.YtfgadjpdpocdbaaDoor
