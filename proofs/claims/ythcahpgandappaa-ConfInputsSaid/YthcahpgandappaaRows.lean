/-
  No cell of these rows narrows 'for every input' (looked for: loops, veiled, ifaces, maps, wideKeys, modest, calm, conditions, laid).
  DERIVED. THE GIVEN ROWS OF THIS SEAT. 3 by the template 'for every input the law returns true; each argument reads behind the call as it read before'; 0 by the template 'total and deterministic' (their statements: YthcahpgandappaaTotals.lean).
  GIVEN WITH THE SEED: the statements are not yours to turn. If you find one false, say at which input.
  Laid BY PROGRAM, IN A SANDBOX (cutbox-rows.mjs): the forced cells as the released guide's own fill.sh prints them over the translation 35a2045300035926… (all of the seat's roots in one cut). By AI agents, Wed Nov 11 2026. No macro, syntax, notation, axiom, sorry.
-/
import Derived.Test.YthcahpgandappaaChecked
import GoSem.Claim
import GoSem.ClaimJoined
import GoSem.ClaimMapViews
import Derived.JoinedTies
import Derived.KernelRfl
namespace Go.Proofs.Ythcahpgandappaa
/- THE CELL 'sum', in the pinned program and in every row, IS THE sha256 OF THE DUMP (.gsa) THAT YthcahpgandappaaProg.lean LOADS. Nothing in Lean hashes anything: it is a label: what it is worth is what the hold of that sum in a sandbox is worth. -/
noncomputable def Try.pinned : Pinned := { name := "ythcahpgandappaa", sum := "35a2045300035926417fb61a9e3905be5b68248bc77048974c0ccf9298dd14a3", checked := Try.checked }
namespace Rows
def none {H : Type} : Left H := { results := [], args := [] }

/-- 'sakialaw11.ConfChecks': WHATEVER THE INPUT: true; the input reads as it did. -/
def confChecksSpec : ChangeSpec := { name := "confChecks", fn := fun _ => fun
  | [d1, d2] => { results := [.lit (.bool true)], args := [d1, d2] }
  | _ => none }
def confChecksRow : OpenClaim := { program := "ythcahpgandappaa", sum := "35a2045300035926417fb61a9e3905be5b68248bc77048974c0ccf9298dd14a3", func := "sakia/sakialaw11.ConfChecks", spec := "confChecks", unfollowed := true, recurses := true, apart := false }
def ConfChecksSaid : Prop := confChecksRow.holds Try.pinned (OpenSpec.ofChange confChecksSpec)

/-- ITS FALSE NEIGHBOUR: 'it returns false'. Refute it at one input. -/
def confChecksWrong : ChangeSpec := { name := "confChecks", fn := fun _ => fun
  | [d1, d2] => { results := [.lit (.bool false)], args := [d1, d2] }
  | _ => none }
def ConfChecksWrongFalsely : Prop := confChecksRow.holds Try.pinned (OpenSpec.ofChange confChecksWrong)

/-- 'sakialaw11.ConfInputs': WHATEVER THE INPUT: true; the input reads as it did. -/
def confInputsSpec : ChangeSpec := { name := "confInputs", fn := fun _ => fun
  | [d] => { results := [.lit (.bool true)], args := [d] }
  | _ => none }
def confInputsRow : OpenClaim := { program := "ythcahpgandappaa", sum := "35a2045300035926417fb61a9e3905be5b68248bc77048974c0ccf9298dd14a3", func := "sakia/sakialaw11.ConfInputs", spec := "confInputs", unfollowed := true, recurses := true, apart := false }
def ConfInputsSaid : Prop := confInputsRow.holds Try.pinned (OpenSpec.ofChange confInputsSpec)

/-- ITS FALSE NEIGHBOUR: 'it returns false'. Refute it at one input. -/
def confInputsWrong : ChangeSpec := { name := "confInputs", fn := fun _ => fun
  | [d] => { results := [.lit (.bool false)], args := [d] }
  | _ => none }
def ConfInputsWrongFalsely : Prop := confInputsRow.holds Try.pinned (OpenSpec.ofChange confInputsWrong)

/-- 'sakialaw11.ConfNeeds': WHATEVER THE INPUT: true; the input reads as it did. -/
def confNeedsSpec : ChangeSpec := { name := "confNeeds", fn := fun _ => fun
  | [d1, d2] => { results := [.lit (.bool true)], args := [d1, d2] }
  | _ => none }
def confNeedsRow : OpenClaim := { program := "ythcahpgandappaa", sum := "35a2045300035926417fb61a9e3905be5b68248bc77048974c0ccf9298dd14a3", func := "sakia/sakialaw11.ConfNeeds", spec := "confNeeds", unfollowed := true, recurses := true, apart := false }
def ConfNeedsSaid : Prop := confNeedsRow.holds Try.pinned (OpenSpec.ofChange confNeedsSpec)

/-- ITS FALSE NEIGHBOUR: 'it returns false'. Refute it at one input. -/
def confNeedsWrong : ChangeSpec := { name := "confNeeds", fn := fun _ => fun
  | [d1, d2] => { results := [.lit (.bool false)], args := [d1, d2] }
  | _ => none }
def ConfNeedsWrongFalsely : Prop := confNeedsRow.holds Try.pinned (OpenSpec.ofChange confNeedsWrong)

/- THE SECOND FORM. 'bulk': how many values and letters a reading holds, each counted each time it is reached (what is shared counts as often as it is met; a slice's spare places count too). A statement '..UptoSaid' is the law's where the arguments, and the package variables that the reading takes, are together of bulk at most 1048576: NARROWER than '..Said'. Prove '..Said' where nothing that the law and all that it calls make is longer than what came in: it says more and counts as full. Else prove '..UptoSaid'. A law counts once. -/
mutual
def uptoBulk {H : Type} : DataW H → Nat
  | .lit (.string bytes) => bytes.length + 1
  | .lit _ => 1
  | .nil => 1
  | .ptr d => uptoBulk d + 1
  | .slice elems spare => uptoBulkAll elems + uptoBulkAll spare + 1
  | .agg parts => uptoBulkAll parts + 1
  | .iface _ d => uptoBulk d + 1
  | .map entries => uptoBulkEntries entries + 1
  | .held _ => 1
def uptoBulkAll {H : Type} : List (DataW H) → Nat
  | [] => 0
  | d :: r => uptoBulk d + uptoBulkAll r
def uptoBulkEntries {H : Type} : List (Lit × DataW H) → Nat
  | [] => 0
  | x :: r => uptoBulkEntry x + uptoBulkEntries r
def uptoBulkEntry {H : Type} : Lit × DataW H → Nat
  | (.string bytes, d) => bytes.length + uptoBulk d + 1
  | (_, d) => uptoBulk d + 1
 end
def uptoSmall : (H : Type) → List (DataW H) → Bool := fun _ ds => decide (uptoBulkAll ds ≤ 1048576)
def OpenSpec.upto (s : _root_.Go.ChangeSpec) : _root_.Go.OpenSpec := { _root_.Go.OpenSpec.ofChange s with cond := some uptoSmall }

/-- 'sakialaw11.ConfChecks', WHERE WHAT IT READS IS OF BULK AT MOST 1048576: true; the input reads as it did. -/
def confChecksUptoRow : OpenClaim := { program := "ythcahpgandappaa", sum := "35a2045300035926417fb61a9e3905be5b68248bc77048974c0ccf9298dd14a3", func := "sakia/sakialaw11.ConfChecks", spec := "confChecks", unfollowed := true, recurses := true, apart := false, narrowed := true }
def ConfChecksUptoSaid : Prop := confChecksUptoRow.holds Try.pinned (OpenSpec.upto confChecksSpec)

/-- 'sakialaw11.ConfInputs', WHERE WHAT IT READS IS OF BULK AT MOST 1048576: true; the input reads as it did. -/
def confInputsUptoRow : OpenClaim := { program := "ythcahpgandappaa", sum := "35a2045300035926417fb61a9e3905be5b68248bc77048974c0ccf9298dd14a3", func := "sakia/sakialaw11.ConfInputs", spec := "confInputs", unfollowed := true, recurses := true, apart := false, narrowed := true }
def ConfInputsUptoSaid : Prop := confInputsUptoRow.holds Try.pinned (OpenSpec.upto confInputsSpec)

/-- 'sakialaw11.ConfNeeds', WHERE WHAT IT READS IS OF BULK AT MOST 1048576: true; the input reads as it did. -/
def confNeedsUptoRow : OpenClaim := { program := "ythcahpgandappaa", sum := "35a2045300035926417fb61a9e3905be5b68248bc77048974c0ccf9298dd14a3", func := "sakia/sakialaw11.ConfNeeds", spec := "confNeeds", unfollowed := true, recurses := true, apart := false, narrowed := true }
def ConfNeedsUptoSaid : Prop := confNeedsUptoRow.holds Try.pinned (OpenSpec.upto confNeedsSpec)

end Rows
end Go.Proofs.Ythcahpgandappaa
