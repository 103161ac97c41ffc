/- Configurations: as numbers (Cf), in memory (CfM); the code of one (codeC). No condition. -/
import Derived.Test.YthcahpgandappaaGreatDoorNa
namespace Go.Proofs.YthcahpgandappaaGreatDoor
open Go.RowKit

/-- A configuration: its sizes, and its numbers in their order. -/
structure Cf where
  z : List Int
  sh : Int
  ra : Int
  mo : Int
  wo : Int
  ba : Int
  mi : Int
  st : Int
  bu : Int
  ch : Int
  wi : Int
  ca : Int
/-- Block b holds a configuration. -/
def CfM (W : World) (b : Nat) (a : Option Addr) (n c : Nat) (f : Cf) : Prop := W.heap[b]? = some (.cells #[.slice a n c, .int .i64 f.sh, .int .i64 f.ra, .int .i64 f.mo, .int .i64 f.wo, .int .i64 f.ba, .int .i64 f.mi, .int .i64 f.st, .int .i64 f.bu, .int .i64 f.ch, .int .i64 f.wi, .int .i64 f.ca] 24 (0, 0))
section
variable {W W' : World} {b n c : Nat} {a : Option Addr} {f : Cf}
theorem CfM.lt (h : CfM W b a n c f) : b < W.heap.size := (Array.getElem?_eq_some_iff.1 h).1
theorem CfM.c0 (h : CfM W b a n c f) : W.cell? ⟨b, 0, none⟩ = some (.slice a n c) := by simp [World.cell?, show W.heap[b]? = _ from h]
theorem CfM.c1 (h : CfM W b a n c f) : W.cell? ⟨b, 1, none⟩ = some (.int .i64 f.sh) := by simp [World.cell?, show W.heap[b]? = _ from h]
theorem CfM.c2 (h : CfM W b a n c f) : W.cell? ⟨b, 2, none⟩ = some (.int .i64 f.ra) := by simp [World.cell?, show W.heap[b]? = _ from h]
theorem CfM.c3 (h : CfM W b a n c f) : W.cell? ⟨b, 3, none⟩ = some (.int .i64 f.mo) := by simp [World.cell?, show W.heap[b]? = _ from h]
theorem CfM.c4 (h : CfM W b a n c f) : W.cell? ⟨b, 4, none⟩ = some (.int .i64 f.wo) := by simp [World.cell?, show W.heap[b]? = _ from h]
theorem CfM.c5 (h : CfM W b a n c f) : W.cell? ⟨b, 5, none⟩ = some (.int .i64 f.ba) := by simp [World.cell?, show W.heap[b]? = _ from h]
theorem CfM.c6 (h : CfM W b a n c f) : W.cell? ⟨b, 6, none⟩ = some (.int .i64 f.mi) := by simp [World.cell?, show W.heap[b]? = _ from h]
theorem CfM.c7 (h : CfM W b a n c f) : W.cell? ⟨b, 7, none⟩ = some (.int .i64 f.st) := by simp [World.cell?, show W.heap[b]? = _ from h]
theorem CfM.c8 (h : CfM W b a n c f) : W.cell? ⟨b, 8, none⟩ = some (.int .i64 f.bu) := by simp [World.cell?, show W.heap[b]? = _ from h]
theorem CfM.c9 (h : CfM W b a n c f) : W.cell? ⟨b, 9, none⟩ = some (.int .i64 f.ch) := by simp [World.cell?, show W.heap[b]? = _ from h]
theorem CfM.c10 (h : CfM W b a n c f) : W.cell? ⟨b, 10, none⟩ = some (.int .i64 f.wi) := by simp [World.cell?, show W.heap[b]? = _ from h]
theorem CfM.c11 (h : CfM W b a n c f) : W.cell? ⟨b, 11, none⟩ = some (.int .i64 f.ca) := by simp [World.cell?, show W.heap[b]? = _ from h]
theorem CfM.fz (h : CfM W b a n c f) (k : Nat) : W.frozen? ⟨b, k, none⟩ = false := by simp [World.frozen?, show W.heap[b]? = _ from h]
theorem CfM.set0 (h : CfM W b a n c f) (a' : Option Addr) (n' c' : Nat) (z' : List Int) : CfM (W.setCell ⟨b, 0, none⟩ (.slice a' n' c')) b a' n' c' { f with z := z' } := by
  have := heap_setCell_same W b 0 #[.slice a n c, .int .i64 f.sh, .int .i64 f.ra, .int .i64 f.mo, .int .i64 f.wo, .int .i64 f.ba, .int .i64 f.mi, .int .i64 f.st, .int .i64 f.bu, .int .i64 f.ch, .int .i64 f.wi, .int .i64 f.ca] 24 (.slice a' n' c') h
  unfold CfM
  rw [this]; rfl
theorem CfM.set1 (h : CfM W b a n c f) (v : Int) : CfM (W.setCell ⟨b, 1, none⟩ (.int .i64 v)) b a n c { f with sh := v } := by
  have := heap_setCell_same W b 1 #[.slice a n c, .int .i64 f.sh, .int .i64 f.ra, .int .i64 f.mo, .int .i64 f.wo, .int .i64 f.ba, .int .i64 f.mi, .int .i64 f.st, .int .i64 f.bu, .int .i64 f.ch, .int .i64 f.wi, .int .i64 f.ca] 24 (.int .i64 v) h
  unfold CfM
  rw [this]; rfl
theorem CfM.set2 (h : CfM W b a n c f) (v : Int) : CfM (W.setCell ⟨b, 2, none⟩ (.int .i64 v)) b a n c { f with ra := v } := by
  have := heap_setCell_same W b 2 #[.slice a n c, .int .i64 f.sh, .int .i64 f.ra, .int .i64 f.mo, .int .i64 f.wo, .int .i64 f.ba, .int .i64 f.mi, .int .i64 f.st, .int .i64 f.bu, .int .i64 f.ch, .int .i64 f.wi, .int .i64 f.ca] 24 (.int .i64 v) h
  unfold CfM
  rw [this]; rfl
theorem CfM.set3 (h : CfM W b a n c f) (v : Int) : CfM (W.setCell ⟨b, 3, none⟩ (.int .i64 v)) b a n c { f with mo := v } := by
  have := heap_setCell_same W b 3 #[.slice a n c, .int .i64 f.sh, .int .i64 f.ra, .int .i64 f.mo, .int .i64 f.wo, .int .i64 f.ba, .int .i64 f.mi, .int .i64 f.st, .int .i64 f.bu, .int .i64 f.ch, .int .i64 f.wi, .int .i64 f.ca] 24 (.int .i64 v) h
  unfold CfM
  rw [this]; rfl
theorem CfM.set4 (h : CfM W b a n c f) (v : Int) : CfM (W.setCell ⟨b, 4, none⟩ (.int .i64 v)) b a n c { f with wo := v } := by
  have := heap_setCell_same W b 4 #[.slice a n c, .int .i64 f.sh, .int .i64 f.ra, .int .i64 f.mo, .int .i64 f.wo, .int .i64 f.ba, .int .i64 f.mi, .int .i64 f.st, .int .i64 f.bu, .int .i64 f.ch, .int .i64 f.wi, .int .i64 f.ca] 24 (.int .i64 v) h
  unfold CfM
  rw [this]; rfl
theorem CfM.set5 (h : CfM W b a n c f) (v : Int) : CfM (W.setCell ⟨b, 5, none⟩ (.int .i64 v)) b a n c { f with ba := v } := by
  have := heap_setCell_same W b 5 #[.slice a n c, .int .i64 f.sh, .int .i64 f.ra, .int .i64 f.mo, .int .i64 f.wo, .int .i64 f.ba, .int .i64 f.mi, .int .i64 f.st, .int .i64 f.bu, .int .i64 f.ch, .int .i64 f.wi, .int .i64 f.ca] 24 (.int .i64 v) h
  unfold CfM
  rw [this]; rfl
theorem CfM.set6 (h : CfM W b a n c f) (v : Int) : CfM (W.setCell ⟨b, 6, none⟩ (.int .i64 v)) b a n c { f with mi := v } := by
  have := heap_setCell_same W b 6 #[.slice a n c, .int .i64 f.sh, .int .i64 f.ra, .int .i64 f.mo, .int .i64 f.wo, .int .i64 f.ba, .int .i64 f.mi, .int .i64 f.st, .int .i64 f.bu, .int .i64 f.ch, .int .i64 f.wi, .int .i64 f.ca] 24 (.int .i64 v) h
  unfold CfM
  rw [this]; rfl
theorem CfM.set7 (h : CfM W b a n c f) (v : Int) : CfM (W.setCell ⟨b, 7, none⟩ (.int .i64 v)) b a n c { f with st := v } := by
  have := heap_setCell_same W b 7 #[.slice a n c, .int .i64 f.sh, .int .i64 f.ra, .int .i64 f.mo, .int .i64 f.wo, .int .i64 f.ba, .int .i64 f.mi, .int .i64 f.st, .int .i64 f.bu, .int .i64 f.ch, .int .i64 f.wi, .int .i64 f.ca] 24 (.int .i64 v) h
  unfold CfM
  rw [this]; rfl
theorem CfM.set8 (h : CfM W b a n c f) (v : Int) : CfM (W.setCell ⟨b, 8, none⟩ (.int .i64 v)) b a n c { f with bu := v } := by
  have := heap_setCell_same W b 8 #[.slice a n c, .int .i64 f.sh, .int .i64 f.ra, .int .i64 f.mo, .int .i64 f.wo, .int .i64 f.ba, .int .i64 f.mi, .int .i64 f.st, .int .i64 f.bu, .int .i64 f.ch, .int .i64 f.wi, .int .i64 f.ca] 24 (.int .i64 v) h
  unfold CfM
  rw [this]; rfl
theorem CfM.set9 (h : CfM W b a n c f) (v : Int) : CfM (W.setCell ⟨b, 9, none⟩ (.int .i64 v)) b a n c { f with ch := v } := by
  have := heap_setCell_same W b 9 #[.slice a n c, .int .i64 f.sh, .int .i64 f.ra, .int .i64 f.mo, .int .i64 f.wo, .int .i64 f.ba, .int .i64 f.mi, .int .i64 f.st, .int .i64 f.bu, .int .i64 f.ch, .int .i64 f.wi, .int .i64 f.ca] 24 (.int .i64 v) h
  unfold CfM
  rw [this]; rfl
theorem CfM.set10 (h : CfM W b a n c f) (v : Int) : CfM (W.setCell ⟨b, 10, none⟩ (.int .i64 v)) b a n c { f with wi := v } := by
  have := heap_setCell_same W b 10 #[.slice a n c, .int .i64 f.sh, .int .i64 f.ra, .int .i64 f.mo, .int .i64 f.wo, .int .i64 f.ba, .int .i64 f.mi, .int .i64 f.st, .int .i64 f.bu, .int .i64 f.ch, .int .i64 f.wi, .int .i64 f.ca] 24 (.int .i64 v) h
  unfold CfM
  rw [this]; rfl
theorem CfM.set11 (h : CfM W b a n c f) (v : Int) : CfM (W.setCell ⟨b, 11, none⟩ (.int .i64 v)) b a n c { f with ca := v } := by
  have := heap_setCell_same W b 11 #[.slice a n c, .int .i64 f.sh, .int .i64 f.ra, .int .i64 f.mo, .int .i64 f.wo, .int .i64 f.ba, .int .i64 f.mi, .int .i64 f.st, .int .i64 f.bu, .int .i64 f.ch, .int .i64 f.wi, .int .i64 f.ca] 24 (.int .i64 v) h
  unfold CfM
  rw [this]; rfl
theorem CfM.alloc (h : CfM W b a n c f) (o : Obj) : CfM (W.alloc o) b a n c f := (Below.heap_alloc W o b h.lt).trans h
theorem CfM.grow (h : CfM W b a n c f) (g : Grew W W') : CfM W' b a n c f := (Below.block g b h.lt).trans h
theorem CfM.below {B : Nat} (h : CfM W b a n c f) (g : Below B W W') (hB : b < B) : CfM W' b a n c f := (Below.block g b hB).trans h
theorem CfM.grown {r : Option Nat} (h : CfM W b a n c f) (g : W.grownBy W' r) (hne : some b ≠ r) : CfM W' b a n c f := (g.block b h.lt hne).trans h
theorem CfM.new (W : World) (a : Option Addr) (n c : Nat) (f : Cf) : CfM (W.alloc (.cells #[.slice a n c, .int .i64 f.sh, .int .i64 f.ra, .int .i64 f.mo, .int .i64 f.wo, .int .i64 f.ba, .int .i64 f.mi, .int .i64 f.st, .int .i64 f.bu, .int .i64 f.ch, .int .i64 f.wi, .int .i64 f.ca] 24)) W.heap.size a n c f := (MapKept.heap_alloc W _).1
end

/-- Whether a number is from lo to hi. -/
def inR (n lo hi : Int) : Bool := decide (lo ≤ n ∧ n ≤ hi)
theorem inR_yes {n lo hi : Int} (h : lo ≤ n ∧ n ≤ hi) : inR n lo hi = true := decide_eq_true h
theorem inR_no {n lo hi : Int} (h : ¬ (lo ≤ n ∧ n ≤ hi)) : inR n lo hi = false := decide_eq_false h
theorem inR_of {n lo hi : Int} (h : inR n lo hi = true) : lo ≤ n ∧ n ≤ hi := of_decide_eq_true h
theorem inR_not {n lo hi : Int} (h : inR n lo hi = false) : ¬ (lo ≤ n ∧ n ≤ hi) := of_decide_eq_false h
end Go.Proofs.YthcahpgandappaaGreatDoor
