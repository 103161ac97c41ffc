/- The reference of layer 2: Unsigned, Decimal, halved, half, Text: each returns what the plain functions say; of what lay in memory nothing has changed. Conditions: the arguments are within their bounds. -/
import Derived.Test.YthcahpgandappaaGreatDoorYe
namespace Go.Proofs.YthcahpgandappaaGreatDoor
open Go.RowKit
set_option linter.unusedVariables false

theorem ret_str {a b : ByteArray} (h : a = b) : Ending.returned (.string a) = .returned (.string b) := by rw [h]
theorem str_append (a b : List UInt8) : (⟨a.toArray⟩ : ByteArray) ++ ⟨b.toArray⟩ = ⟨(a ++ b).toArray⟩ := by
  apply ByteArray.ext; simp
theorem digit_piece {d : Nat} (h : d < 10) : (⟨#[48, 49, 50, 51, 52, 53, 54, 55, 56, 57]⟩ : ByteArray).extract d (d + 1) = ⟨#[ch d]⟩ := by
  have h2 : ∀ k : Fin 10, (⟨#[48, 49, 50, 51, 52, 53, 54, 55, 56, 57]⟩ : ByteArray).extract k.val (k.val + 1) = ⟨#[ch k.val]⟩ := by decide
  exact h2 ⟨d, h⟩
set_option maxHeartbeats 4000000 in
theorem unsigned_any (n : Nat) (hn : n < 18446744073709551616) (w : World) :
    Calls Tryz.prog 18 #[.int .u64 (n : Int)] w fun e w' => e = .returned (.string ⟨(Lib.decDigits n).toArray⟩) ∧ Grew w w' := by
  induction n using Nat.strongRecOn generalizing w with
  | _ n ih =>
    obtain ⟨d, hd⟩ : ∃ d, n % 10 = d := ⟨_, rfl⟩
    have hd10 : d < 10 := by omega
    have r1 : (n : Int) % 10 = (d : Int) := by omega
    have HP := Lib.hid (digit_piece hd10)
    have IH := Lib.hid ih
    have HD := Lib.hid hd
    clear ih hd
    have hsl : ∀ W, (Instr.slice 9 (.string ⟨#[48, 49, 50, 51, 52, 53, 54, 55, 56, 57]⟩) (some (.int .u64 (d : Int))) (some (.int .u64 ((d : Int) + 1))) none).run Tryz.prog W = .ok (.string ⟨#[ch d]⟩) W := fun W => by
      rw [run_slice_string W 9 _ .u64 .u64 (d : Int) ((d : Int) + 1) Tryz.underlying9 (by omega) (by omega) (by show (d : Int) + 1 ≤ ((10 : Nat) : Int); omega)]
      rw [show ((d : Int)).toNat = d by omega, show ((d : Int) + 1).toNat = d + 1 by omega, HP.out]
    by_cases h10 : n < 10
    · go_enter Tryz.func18, Tryz.ntmps18
      go_wp2_with fail
      go_ret
      exact ⟨ret_str (by rw [Lib.decDigits_one h10, show n = d by have := HD.out; omega]; rfl), Grew.refl _⟩
    · obtain ⟨m, hm⟩ : ∃ m, n / 10 = m := ⟨_, rfl⟩
      have r2 : (n : Int) / 10 = (m : Int) := by omega
      have HM := Lib.hid hm
      have hmn : m < n := by omega
      have hm64 : m < 18446744073709551616 := by omega
      have hml := dec_len (u := m) (k := 20) (by omega) (by omega)
      clear hm
      go_enter Tryz.func18, Tryz.ntmps18
      go_wp2_with fail
      refine (IH.out m hmn hm64 _).mono ?_
      rintro e w1 ⟨rfl, g1⟩
      go_wp2_with fail
      go_ret
      exact ⟨ret_str (by rw [dec_snoc h10, ← str_append, HM.out, HD.out]), g1⟩
theorem decimal_any (n : Int) (w : World) (n0 : -9223372036854775808 ≤ n) (n1 : n ≤ 9223372036854775807) :
    Calls Tryz.prog 76 #[.int .i64 n] w fun e w' => e = .returned (.string ⟨(Lib.itoa n).toArray⟩) ∧ Grew w w' := by
  obtain ⟨m, hm⟩ : ∃ m, n.natAbs = m := ⟨_, rfl⟩
  have hm64 : m < 18446744073709551616 := by omega
  have hml := dec_len (u := m) (k := 20) (by omega) (by omega)
  by_cases hx : n < 0
  · have hr : IntKind.u64.wrap (-IntKind.u64.wrap n) = (m : Int) := by rw [mag_neg hx n0, hm]
    have HI := Lib.hid (show Lib.itoa n = [45] ++ Lib.decDigits m by unfold Lib.itoa; rw [if_pos hx, hm]; rfl)
    go_enter Tryz.func76, Tryz.ntmps76
    go_wp2_with fail
    refine (unsigned_any m hm64 _).mono ?_
    rintro e w1 ⟨rfl, g1⟩
    go_wp2_with fail
    go_ret
    exact ⟨ret_str (by rw [HI.out, ← str_append]), g1⟩
  · have hr : IntKind.u64.wrap n = (m : Int) := by rw [mag_pos hx n1, hm]
    have HI := Lib.hid (show Lib.itoa n = Lib.decDigits m by unfold Lib.itoa; rw [if_neg hx, show n.toNat = m by omega])
    go_enter Tryz.func76, Tryz.ntmps76
    go_wp2_with fail
    refine (unsigned_any m hm64 _).mono ?_
    rintro e w1 ⟨rfl, g1⟩
    go_wp2_with fail
    go_ret
    exact ⟨ret_str (by rw [HI.out]), g1⟩

theorem ch_at {s : ByteArray} {l : List Nat} (hs : s.data.toList = l.map ch) (hl : ∀ d ∈ l, d < 10) (k : Nat) (hk : k < s.size) :
    ∃ d, d < 10 ∧ (s[k]'hk).toNat = 48 + d ∧ l.drop k = d :: l.drop (k + 1) := by
  have hlen : k < l.length := by have := Lib.size_eq s; rw [hs, List.length_map] at this; omega
  have hm := hl _ (List.getElem_mem hlen)
  refine ⟨l[k], hm, ?_, List.drop_eq_getElem_cons hlen⟩
  have e : (s[k]'hk) = s.data.toList[k]'(by simpa using hk) := rfl
  have e2 : s.data.toList[k]'(by simpa using hk) = ch l[k] := by simp [hs]
  rw [e, e2, ch_toNat hm]
set_option maxHeartbeats 4000000 in
theorem halved_any (s : ByteArray) (l : List Nat) (w : World) (hs : s.data.toList = l.map ch) (hl : ∀ d ∈ l, d < 10) (hlen : l.length ≤ 100) :
    Calls Tryz.prog 72 #[.string s] w fun e w' => e = .returned (.string ⟨((hv 0 l).map ch).toArray⟩) ∧ Grew w w' := by
  have hsz : s.size = l.length := by have := Lib.size_eq s; rw [hs, List.length_map] at this; exact this
  have HS := Lib.hid hs
  have HSZ := Lib.hid hsz
  have hs100 : s.size ≤ 100 := by omega
  clear hs hsz
  go_enter Tryz.func72, Tryz.ntmps72
  go_wp2_with fail
  go_loopw [3, 4, 5] (fun o c i wr => ∃ (k cc : Nat) (O : List Nat), k ≤ s.size ∧ cc < 2 ∧ O.length = k ∧ O ++ hv cc (l.drop k) = hv 0 l ∧ o = .string ⟨(O.map ch).toArray⟩ ∧ c = .int .i64 (cc : Int) ∧ i = .int .i64 (k : Int) ∧ Grew w wr) (fun _ _ i _ => s.size - (intOf i).toNat)
  case atStart => exact ⟨0, 0, [], Nat.zero_le _, by omega, rfl, rfl, rfl, rfl, rfl, Grew.refl _⟩
  case round =>
    obtain ⟨k, cc, O, hk, hcc, hO, hrec, rfl, rfl, rfl, g⟩ := hrel
    by_cases hlt : k < s.size
    · obtain ⟨d, hd10, hdk, hdr⟩ := ch_at HS.out hl k hlt
      have HDR := Lib.hid hdr
      have HREC := Lib.hid hrec
      have HO := Lib.hid hO
      clear hdr hrec hO
      have hOl : O.length ≤ 100 := by have := HO.out; omega
      have hm10 : (10 * cc + d) / 2 < 10 := by omega
      have HM := Lib.hid (show (10 * (cc : Int) + (48 + (d : Int) - 48)) / 2 = (((10 * cc + d) / 2 : Nat) : Int) by omega)
      have HD1 := Lib.hid (show Lib.decDigits ((10 * cc + d) / 2) = [ch ((10 * cc + d) / 2)] from Lib.decDigits_one hm10)
      go_wp2_with fail
      rw [HM.out]
      refine (unsigned_any ((10 * cc + d) / 2) (by omega) _).mono ?_
      rintro e w1 ⟨rfl, g1⟩
      rw [HD1.out]
      go_wp2_with fail
      refine ⟨⟨k + 1, (10 * cc + d) % 2, O ++ [(10 * cc + d) / 2], by omega, by omega, by rw [List.length_append, HO.out]; rfl, ?_, ?_, ?_, by go_num, g.trans g1⟩, by simp [intOf]; omega⟩
      · rw [← HREC.out, HDR.out]; simp [hv]
      · rw [List.map_append, ← str_append]; rfl
      · congr 1; omega
    · have HDR := Lib.hid (show l.drop k = [] from List.drop_eq_nil_of_le (by have := HSZ.out; omega))
      have hOl : O.length ≤ 100 := by omega
      rw [HDR.out] at hrec
      by_cases hc0 : cc = 0
      · have HREC := Lib.hid (show O = hv 0 l by rw [← hrec, hc0]; simp [hv])
        have hc1 : ¬ (0 : Int) < cc := by omega
        clear hrec hc0 hO
        go_wp2_with fail
        go_ret
        exact ⟨ret_str (by rw [HREC.out]), g⟩
      · have HREC := Lib.hid (show O ++ [5] = hv 0 l by rw [← hrec]; simp [hv, Nat.pos_of_ne_zero hc0])
        have hc1 : (0 : Int) < cc := by omega
        clear hrec hc0 hO
        go_wp2_with fail
        go_ret
        exact ⟨ret_str (by rw [← HREC.out, List.map_append, ← str_append]; rfl), g⟩

set_option maxHeartbeats 4000000 in
theorem half_any (b : Nat) (s : ByteArray) (l : List Nat) (w : World) (hb : b < 2) (hs : s.data.toList = l.map ch) (hl : ∀ d ∈ l, d < 10) (hlen : l.length ≤ 90) :
    Calls Tryz.prog 44 #[.int .i64 (b : Int), .string s] w fun e w' => e = .returned (.string ⟨((hv b l).map ch).toArray⟩) ∧ Grew w w' := by
  have hsz : s.size = l.length := by have := Lib.size_eq s; rw [hs, List.length_map] at this; exact this
  have HS := Lib.hid hs
  have hs100 : s.size ≤ 100 := by omega
  clear hs hsz
  have hcv : (convert 68 9 (.slice (some ⟨w.heap.size, 0, none⟩) 1 1)).run Tryz.prog (w.alloc (.cells #[.int .u8 (48 + (b : Int))] 5)) = .ok (.string ⟨#[ch b]⟩) (w.alloc (.cells #[.int .u8 (48 + (b : Int))] 5)) :=
    run_convert_bytes_back (P := Tryz.prog) (w.alloc (.cells #[.int .u8 (48 + (b : Int))] 5)) 68 9 5 ⟨w.heap.size, 0, none⟩ 1 [ch b] Tryz.underlying68 Tryz.underlying5 Tryz.underlying9 (fun j hj => by
      obtain rfl : j = 0 := by simpa using hj
      have e : ((ch b).toNat : Int) = 48 + (b : Int) := by rw [ch_toNat (by omega)]; omega
      simp [Addr.add, e])
  have HC := Lib.hid (show (⟨#[ch b]⟩ : ByteArray) ++ s = ⟨((b :: l).map ch).toArray⟩ by
    rw [List.map_cons, ← HS.out]
    have := str_append [ch b] s.data.toList
    rw [Lib.mk_data] at this
    exact this)
  have hhl := hv_len (b :: l) 0
  have HT := Lib.hid (show hv 0 (b :: l) = (b / 2) :: hv b l by
    show (10 * 0 + b) / 2 :: hv ((10 * 0 + b) % 2) l = _
    rw [show (10 * 0 + b) % 2 = b by omega, show (10 * 0 + b) / 2 = b / 2 by omega])
  have hbl : ∀ d ∈ b :: l, d < 10 := by
    intro d hd
    rcases List.mem_cons.1 hd with rfl | h
    · omega
    · exact hl d h
  go_enter Tryz.func44, Tryz.ntmps44
  go_wp2_with fail
  rw [HC.out]
  refine (halved_any ⟨((b :: l).map ch).toArray⟩ (b :: l) _ rfl hbl (by simp; omega)).mono ?_
  rintro e w1 ⟨rfl, g1⟩
  rw [HT.out]
  go_wp2_with fail
  go_ret
  exact ⟨ret_str (by rw [Lib.extract_eq, List.take_of_length_le (by simp)]; simp), ((Grew.refl w).alloc _).trans g1⟩

set_option maxHeartbeats 4000000 in
set_option maxRecDepth 100000 in
theorem rtext_yes (x : Int) (q : Nat) (w : World) (hq : q ≤ 62) (x0 : -9223372036854775808 ≤ x) (x1 : x ≤ 9223372036854775807) :
    Calls Tryz.prog 19 #[.int .i64 x, .int .i64 (q : Int)] w fun e w' => e = .returned (.string ⟨(textL x q).toArray⟩) ∧ Grew w w' := by
  obtain ⟨n, hn⟩ : ∃ n, x.natAbs = n := ⟨_, rfl⟩
  have hn64 : n < 18446744073709551616 := by omega
  have hq0 : ¬ (q : Int) < 0 := by omega
  have hq62 : ¬ (62 : Int) < q := by omega
  by_cases hx : x < 0
  · have hm : IntKind.u64.wrap (-IntKind.u64.wrap x) = (n : Int) := by rw [mag_neg hx x0, hn]
    have HG := Lib.hid (show textL x q = [45] ++ (Lib.decDigits (n / 2 ^ q) ++ fracL q (n % 2 ^ q)) by unfold textL; rw [if_pos hx, hn])
    go_enter Tryz.func19, Tryz.ntmps19
    go_wp2_with fail
    go_loopw [7, 8] (fun d i wr => ∃ k : Nat, k ≤ q ∧ i = .int .i64 (k : Int) ∧ d = .string ⟨((run (2 ^ k) k (n % 2 ^ k)).map ch).toArray⟩ ∧ Grew w wr) (fun _ i _ => q - (intOf i).toNat)
    case atStart => exact ⟨0, Nat.zero_le _, rfl, by simp [run], Grew.refl _⟩
    case round =>
      obtain ⟨k, hk, rfl, rfl, g⟩ := hrel
      by_cases hlt : k < q
      · obtain ⟨b, hb⟩ : ∃ b, n / 2 ^ k % 2 = b := ⟨_, rfl⟩
        have hb2 : b < 2 := by omega
        have r1 : bits .and .u64 ((n : Int) / 2 ^ k) 1 = (b : Int) := by
          have e : ((n : Int) / 2 ^ k) = ((n / 2 ^ k : Nat) : Int) := by simp
          have hle : n / 2 ^ k ≤ n := Nat.div_le_self _ _
          rw [e]
          generalize n / 2 ^ k = z at *
          rw [and_one (by omega) (by omega)]; omega
        have HB := Lib.hid (half_step (n := n) (i := k))
        have HB2 := Lib.hid hb
        have hlt10 := run_lt (two_pos k) k _ (Nat.mod_lt n (two_pos k))
        have hrl := run_len (2 ^ k) k (n % 2 ^ k)
        have HLT := Lib.hid hlt10
        clear hb hlt10
        go_wp2_with fail
        refine (half_any b ⟨((run (2 ^ k) k (n % 2 ^ k)).map ch).toArray⟩ (run (2 ^ k) k (n % 2 ^ k)) _ hb2 rfl HLT.out (by omega)).mono ?_
        rintro e w1 ⟨rfl, g1⟩
        rw [← HB2.out, HB.out]
        go_wp2_with fail
        exact ⟨⟨k + 1, by omega, by go_num, rfl, g.trans g1⟩, by simp [intOf]; omega⟩
      · obtain rfl : k = q := by omega
        clear hlt hk
        obtain ⟨D, hD⟩ : ∃ D, run (2 ^ k) k (n % 2 ^ k) = D := ⟨_, rfl⟩
        have hlast := run_last (two_pos k) k _ (Nat.mod_lt n (two_pos k)) pow_dvd
        have hlt10 := run_lt (two_pos k) k _ (Nat.mod_lt n (two_pos k))
        have hrl := run_len (2 ^ k) k (n % 2 ^ k)
        have hne : D = [] ↔ n % 2 ^ k = 0 := by
          rw [← hD]
          constructor
          · intro h
            rcases Nat.eq_zero_or_pos (n % 2 ^ k) with h0 | h0
            · exact h0
            · exfalso
              cases k with
              | zero => simp [Nat.mod_one] at h0
              | succ k => rw [run, if_neg (by omega)] at h; cases h
          · intro h; rw [h, run_zero]
        rw [hD] at hlast hlt10 hrl ⊢
        obtain ⟨t, ht⟩ : ∃ t, (⟨(D.map ch).toArray⟩ : ByteArray) = t := ⟨_, rfl⟩
        rw [ht]
        have htl : t.data.toList = D.map ch := by rw [← ht]
        have htz : t.size = D.length := by rw [Lib.size_eq, htl, List.length_map]
        have ht100 : t.size ≤ 100 := by omega
        have hdl := dec_len (u := n / 2 ^ k) (k := 20) (by omega) (by have := Nat.div_le_self n (2 ^ k); omega)
        have HS := Lib.hid (show (n : Int) / 2 ^ k = ((n / 2 ^ k : Nat) : Int) by simp)
        have hle : n / 2 ^ k ≤ n := Nat.div_le_self _ _
        have HD := Lib.hid hD
        have HT := Lib.hid ht
        have HTL := Lib.hid htl
        have HLT := Lib.hid hlt10
        have HLA := Lib.hid hlast
        have HNE := Lib.hid hne
        clear hD ht htl hlt10 hlast hne
        cases D with
        | nil =>
          have hz0 : t.size = 0 := htz
          have HF := Lib.hid (show fracL k (n % 2 ^ k) = [] by unfold fracL; rw [if_pos (HNE.out.1 rfl)])
          have hte : (!t.toList.isEmpty) = false := by rw [Lib.toList_data, HTL.out]; rfl
          go_wp2_with fail
          go_loopw [7] (fun d wr => d = .string t ∧ Grew w wr) (fun _ _ => 0)
          case atStart => exact ⟨rfl, g⟩
          case round =>
            obtain ⟨rfl, g⟩ := hrel
            go_wp2_with fail
            rw [HS.out]
            refine (unsigned_any (n / 2 ^ k) (by omega) _).mono ?_
            rintro e w2 ⟨rfl, g2⟩
            go_wp2_with fail
            go_ret
            exact ⟨ret_str (by rw [HG.out, HF.out]; apply ByteArray.ext; simp), g.trans g2⟩
        | cons d0 D0 =>
          have hz0 : 0 < t.size := by rw [htz]; simp
          have hnz : ¬ n % 2 ^ k = 0 := by rw [← HNE.out]; simp
          have HF := Lib.hid (show fracL k (n % 2 ^ k) = [46] ++ t.data.toList by unfold fracL; rw [if_neg hnz, HD.out, HTL.out]; rfl)
          have hte : (!t.toList.isEmpty) = true := by rw [Lib.toList_data, HTL.out]; rfl
          obtain ⟨m, hm1⟩ : ∃ m, t.size = m + 1 := ⟨t.size - 1, by omega⟩
          have hltm : m < t.size := by omega
          obtain ⟨d, hd10, hdk, hdr⟩ := ch_at HTL.out HLT.out m hltm
          have hd0 : d ≠ 0 := by
            intro h0
            have e1 : (d0 :: D0).drop (m + 1) = [] := List.drop_eq_nil_of_le (by omega)
            rw [e1, h0] at hdr
            have e2 : (d0 :: D0) = (d0 :: D0).take m ++ [0] := by rw [← hdr, List.take_append_drop]
            apply HLA.out
            rw [e2]; simp
          have hd1 : 1 ≤ d := by omega
          have hlast1 : (t.size : Int) - 1 = (m : Int) := by omega
          clear hnz hd0 hdr htz
          have HM1 := Lib.hid hm1
          clear hm1
          go_wp2_with fail
          go_loopw [7] (fun d wr => d = .string t ∧ Grew w wr) (fun _ _ => 0)
          case atStart => exact ⟨rfl, g⟩
          case round =>
            obtain ⟨rfl, g⟩ := hrel
            go_wp2_with fail
            rw [HS.out]
            refine (unsigned_any (n / 2 ^ k) (by omega) _).mono ?_
            rintro e w2 ⟨rfl, g2⟩
            go_wp2_with fail
            go_ret
            exact ⟨ret_str (by rw [HG.out, HF.out]; apply ByteArray.ext; simp), g.trans g2⟩
  · have hm : IntKind.u64.wrap x = (n : Int) := by rw [mag_pos hx x1, hn]
    have HG := Lib.hid (show textL x q = [] ++ (Lib.decDigits (n / 2 ^ q) ++ fracL q (n % 2 ^ q)) by unfold textL; rw [if_neg hx, hn])
    go_enter Tryz.func19, Tryz.ntmps19
    go_wp2_with fail
    go_loopw [7, 8] (fun d i wr => ∃ k : Nat, k ≤ q ∧ i = .int .i64 (k : Int) ∧ d = .string ⟨((run (2 ^ k) k (n % 2 ^ k)).map ch).toArray⟩ ∧ Grew w wr) (fun _ i _ => q - (intOf i).toNat)
    case atStart => exact ⟨0, Nat.zero_le _, rfl, by simp [run], Grew.refl _⟩
    case round =>
      obtain ⟨k, hk, rfl, rfl, g⟩ := hrel
      by_cases hlt : k < q
      · obtain ⟨b, hb⟩ : ∃ b, n / 2 ^ k % 2 = b := ⟨_, rfl⟩
        have hb2 : b < 2 := by omega
        have r1 : bits .and .u64 ((n : Int) / 2 ^ k) 1 = (b : Int) := by
          have e : ((n : Int) / 2 ^ k) = ((n / 2 ^ k : Nat) : Int) := by simp
          have hle : n / 2 ^ k ≤ n := Nat.div_le_self _ _
          rw [e]
          generalize n / 2 ^ k = z at *
          rw [and_one (by omega) (by omega)]; omega
        have HB := Lib.hid (half_step (n := n) (i := k))
        have HB2 := Lib.hid hb
        have hlt10 := run_lt (two_pos k) k _ (Nat.mod_lt n (two_pos k))
        have hrl := run_len (2 ^ k) k (n % 2 ^ k)
        have HLT := Lib.hid hlt10
        clear hb hlt10
        go_wp2_with fail
        refine (half_any b ⟨((run (2 ^ k) k (n % 2 ^ k)).map ch).toArray⟩ (run (2 ^ k) k (n % 2 ^ k)) _ hb2 rfl HLT.out (by omega)).mono ?_
        rintro e w1 ⟨rfl, g1⟩
        rw [← HB2.out, HB.out]
        go_wp2_with fail
        exact ⟨⟨k + 1, by omega, by go_num, rfl, g.trans g1⟩, by simp [intOf]; omega⟩
      · obtain rfl : k = q := by omega
        clear hlt hk
        obtain ⟨D, hD⟩ : ∃ D, run (2 ^ k) k (n % 2 ^ k) = D := ⟨_, rfl⟩
        have hlast := run_last (two_pos k) k _ (Nat.mod_lt n (two_pos k)) pow_dvd
        have hlt10 := run_lt (two_pos k) k _ (Nat.mod_lt n (two_pos k))
        have hrl := run_len (2 ^ k) k (n % 2 ^ k)
        have hne : D = [] ↔ n % 2 ^ k = 0 := by
          rw [← hD]
          constructor
          · intro h
            rcases Nat.eq_zero_or_pos (n % 2 ^ k) with h0 | h0
            · exact h0
            · exfalso
              cases k with
              | zero => simp [Nat.mod_one] at h0
              | succ k => rw [run, if_neg (by omega)] at h; cases h
          · intro h; rw [h, run_zero]
        rw [hD] at hlast hlt10 hrl ⊢
        obtain ⟨t, ht⟩ : ∃ t, (⟨(D.map ch).toArray⟩ : ByteArray) = t := ⟨_, rfl⟩
        rw [ht]
        have htl : t.data.toList = D.map ch := by rw [← ht]
        have htz : t.size = D.length := by rw [Lib.size_eq, htl, List.length_map]
        have ht100 : t.size ≤ 100 := by omega
        have hdl := dec_len (u := n / 2 ^ k) (k := 20) (by omega) (by have := Nat.div_le_self n (2 ^ k); omega)
        have HS := Lib.hid (show (n : Int) / 2 ^ k = ((n / 2 ^ k : Nat) : Int) by simp)
        have hle : n / 2 ^ k ≤ n := Nat.div_le_self _ _
        have HD := Lib.hid hD
        have HT := Lib.hid ht
        have HTL := Lib.hid htl
        have HLT := Lib.hid hlt10
        have HLA := Lib.hid hlast
        have HNE := Lib.hid hne
        clear hD ht htl hlt10 hlast hne
        cases D with
        | nil =>
          have hz0 : t.size = 0 := htz
          have HF := Lib.hid (show fracL k (n % 2 ^ k) = [] by unfold fracL; rw [if_pos (HNE.out.1 rfl)])
          have hte : (!t.toList.isEmpty) = false := by rw [Lib.toList_data, HTL.out]; rfl
          go_wp2_with fail
          go_loopw [7] (fun d wr => d = .string t ∧ Grew w wr) (fun _ _ => 0)
          case atStart => exact ⟨rfl, g⟩
          case round =>
            obtain ⟨rfl, g⟩ := hrel
            go_wp2_with fail
            rw [HS.out]
            refine (unsigned_any (n / 2 ^ k) (by omega) _).mono ?_
            rintro e w2 ⟨rfl, g2⟩
            go_wp2_with fail
            go_ret
            exact ⟨ret_str (by rw [HG.out, HF.out]; apply ByteArray.ext; simp), g.trans g2⟩
        | cons d0 D0 =>
          have hz0 : 0 < t.size := by rw [htz]; simp
          have hnz : ¬ n % 2 ^ k = 0 := by rw [← HNE.out]; simp
          have HF := Lib.hid (show fracL k (n % 2 ^ k) = [46] ++ t.data.toList by unfold fracL; rw [if_neg hnz, HD.out, HTL.out]; rfl)
          have hte : (!t.toList.isEmpty) = true := by rw [Lib.toList_data, HTL.out]; rfl
          obtain ⟨m, hm1⟩ : ∃ m, t.size = m + 1 := ⟨t.size - 1, by omega⟩
          have hltm : m < t.size := by omega
          obtain ⟨d, hd10, hdk, hdr⟩ := ch_at HTL.out HLT.out m hltm
          have hd0 : d ≠ 0 := by
            intro h0
            have e1 : (d0 :: D0).drop (m + 1) = [] := List.drop_eq_nil_of_le (by omega)
            rw [e1, h0] at hdr
            have e2 : (d0 :: D0) = (d0 :: D0).take m ++ [0] := by rw [← hdr, List.take_append_drop]
            apply HLA.out
            rw [e2]; simp
          have hd1 : 1 ≤ d := by omega
          have hlast1 : (t.size : Int) - 1 = (m : Int) := by omega
          clear hnz hd0 hdr htz
          have HM1 := Lib.hid hm1
          clear hm1
          go_wp2_with fail
          go_loopw [7] (fun d wr => d = .string t ∧ Grew w wr) (fun _ _ => 0)
          case atStart => exact ⟨rfl, g⟩
          case round =>
            obtain ⟨rfl, g⟩ := hrel
            go_wp2_with fail
            rw [HS.out]
            refine (unsigned_any (n / 2 ^ k) (by omega) _).mono ?_
            rintro e w2 ⟨rfl, g2⟩
            go_wp2_with fail
            go_ret
            exact ⟨ret_str (by rw [HG.out, HF.out]; apply ByteArray.ext; simp), g.trans g2⟩
theorem rtext_no (x q : Int) (w : World) (hq : ¬ (0 ≤ q ∧ q ≤ 62)) :
    Calls Tryz.prog 19 #[.int .i64 x, .int .i64 q] w fun e w' => e = .returned (.string ⟨#[]⟩) ∧ Grew w w' := by
  by_cases h0 : q < 0
  · go_enter Tryz.func19, Tryz.ntmps19
    go_wp2_with fail
    go_ret
    exact ⟨rfl, Grew.refl _⟩
  · have h1 : 62 < q := by omega
    go_enter Tryz.func19, Tryz.ntmps19
    go_wp2_with fail
    go_ret
    exact ⟨rfl, Grew.refl _⟩
theorem rtext_any (x q : Int) (w : World) (x0 : -9223372036854775808 ≤ x) (x1 : x ≤ 9223372036854775807) :
    Calls Tryz.prog 19 #[.int .i64 x, .int .i64 q] w fun e w' => e = .returned (.string ⟨(textV x q).toArray⟩) ∧ Grew w w' := by
  by_cases h : 0 ≤ q ∧ q ≤ 62
  · obtain ⟨n, rfl⟩ := Int.eq_ofNat_of_zero_le h.1
    rw [show textV x ((n : Nat) : Int) = textL x n from textV_yes (by omega)]
    exact rtext_yes x n w (by omega) x0 x1
  · rw [textV_no h]
    exact rtext_no x q w h
end Go.Proofs.YthcahpgandappaaGreatDoor
