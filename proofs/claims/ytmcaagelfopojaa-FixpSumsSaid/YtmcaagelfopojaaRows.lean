/-
  No cell of these rows narrows 'for every input' (looked for: loops, veiled, ifaces, maps, wideKeys, modest, calm, conditions, laid).
  DERIVED. THE GIVEN ROWS OF THIS SEAT. 6 by the template 'for every input the law returns true; each argument reads behind the call as it read before'; 0 by the template 'total and deterministic' (their statements: YtmcaagelfopojaaTotals.lean).
  GIVEN WITH THE SEED: the statements are not yours to turn. If you find one false, say at which input.
  Laid BY PROGRAM, IN A SANDBOX (cutbox-rows.mjs): the forced cells as the released guide's own fill.sh prints them over the translation 617fb9b1a3a788f4… (all of the seat's roots in one cut). By AI agents, Wed Nov 11 2026. No macro, syntax, notation, axiom, sorry.
-/
import Derived.Test.YtmcaagelfopojaaChecked
import GoSem.Claim
import GoSem.ClaimJoined
import GoSem.ClaimMapViews
import Derived.JoinedTies
import Derived.KernelRfl
namespace Go.Proofs.Ytmcaagelfopojaa
/- THE CELL 'sum', in the pinned program and in every row, IS THE sha256 OF THE DUMP (.gsa) THAT YtmcaagelfopojaaProg.lean LOADS. Nothing in Lean hashes anything: it is a label: what it is worth is what the hold of that sum in a sandbox is worth. -/
noncomputable def Try.pinned : Pinned := { name := "ytmcaagelfopojaa", sum := "617fb9b1a3a788f4f0a01096e6978006ac239c08aded06f8a57bc18ac7b6cc56", checked := Try.checked }
namespace Rows
def none {H : Type} : Left H := { results := [], args := [] }

/-- 'sakialaw01.FixpProducts': WHATEVER THE INPUT: true; the input reads as it did. -/
def fixpProductsSpec : ChangeSpec := { name := "fixpProducts", fn := fun _ => fun
  | [d1, d2] => { results := [.lit (.bool true)], args := [d1, d2] }
  | _ => none }
def fixpProductsRow : OpenClaim := { program := "ytmcaagelfopojaa", sum := "617fb9b1a3a788f4f0a01096e6978006ac239c08aded06f8a57bc18ac7b6cc56", func := "sakia/sakialaw01.FixpProducts", spec := "fixpProducts", apart := false }
def FixpProductsSaid : Prop := fixpProductsRow.holds Try.pinned (OpenSpec.ofChange fixpProductsSpec)

/-- ITS FALSE NEIGHBOUR: 'it returns false'. Refute it at one input. -/
def fixpProductsWrong : ChangeSpec := { name := "fixpProducts", fn := fun _ => fun
  | [d1, d2] => { results := [.lit (.bool false)], args := [d1, d2] }
  | _ => none }
def FixpProductsWrongFalsely : Prop := fixpProductsRow.holds Try.pinned (OpenSpec.ofChange fixpProductsWrong)

/-- 'sakialaw01.FixpShifts': WHATEVER THE INPUT: true; the input reads as it did. -/
def fixpShiftsSpec : ChangeSpec := { name := "fixpShifts", fn := fun _ => fun
  | [d1, d2, d3] => { results := [.lit (.bool true)], args := [d1, d2, d3] }
  | _ => none }
def fixpShiftsRow : OpenClaim := { program := "ytmcaagelfopojaa", sum := "617fb9b1a3a788f4f0a01096e6978006ac239c08aded06f8a57bc18ac7b6cc56", func := "sakia/sakialaw01.FixpShifts", spec := "fixpShifts", apart := false }
def FixpShiftsSaid : Prop := fixpShiftsRow.holds Try.pinned (OpenSpec.ofChange fixpShiftsSpec)

/-- ITS FALSE NEIGHBOUR: 'it returns false'. Refute it at one input. -/
def fixpShiftsWrong : ChangeSpec := { name := "fixpShifts", fn := fun _ => fun
  | [d1, d2, d3] => { results := [.lit (.bool false)], args := [d1, d2, d3] }
  | _ => none }
def FixpShiftsWrongFalsely : Prop := fixpShiftsRow.holds Try.pinned (OpenSpec.ofChange fixpShiftsWrong)

/-- 'sakialaw01.FixpMuls': WHATEVER THE INPUT: true; the input reads as it did. -/
def fixpMulsSpec : ChangeSpec := { name := "fixpMuls", fn := fun _ => fun
  | [d1, d2, d3] => { results := [.lit (.bool true)], args := [d1, d2, d3] }
  | _ => none }
def fixpMulsRow : OpenClaim := { program := "ytmcaagelfopojaa", sum := "617fb9b1a3a788f4f0a01096e6978006ac239c08aded06f8a57bc18ac7b6cc56", func := "sakia/sakialaw01.FixpMuls", spec := "fixpMuls", apart := false }
def FixpMulsSaid : Prop := fixpMulsRow.holds Try.pinned (OpenSpec.ofChange fixpMulsSpec)

/-- ITS FALSE NEIGHBOUR: 'it returns false'. Refute it at one input. -/
def fixpMulsWrong : ChangeSpec := { name := "fixpMuls", fn := fun _ => fun
  | [d1, d2, d3] => { results := [.lit (.bool false)], args := [d1, d2, d3] }
  | _ => none }
def FixpMulsWrongFalsely : Prop := fixpMulsRow.holds Try.pinned (OpenSpec.ofChange fixpMulsWrong)

/-- 'sakialaw01.FixpSums': WHATEVER THE INPUT: true; the input reads as it did. -/
def fixpSumsSpec : ChangeSpec := { name := "fixpSums", fn := fun _ => fun
  | [d1, d2] => { results := [.lit (.bool true)], args := [d1, d2] }
  | _ => none }
def fixpSumsRow : OpenClaim := { program := "ytmcaagelfopojaa", sum := "617fb9b1a3a788f4f0a01096e6978006ac239c08aded06f8a57bc18ac7b6cc56", func := "sakia/sakialaw01.FixpSums", spec := "fixpSums", unfollowed := true, recurses := true, apart := false }
def FixpSumsSaid : Prop := fixpSumsRow.holds Try.pinned (OpenSpec.ofChange fixpSumsSpec)

/-- ITS FALSE NEIGHBOUR: 'it returns false'. Refute it at one input. -/
def fixpSumsWrong : ChangeSpec := { name := "fixpSums", fn := fun _ => fun
  | [d1, d2] => { results := [.lit (.bool false)], args := [d1, d2] }
  | _ => none }
def FixpSumsWrongFalsely : Prop := fixpSumsRow.holds Try.pinned (OpenSpec.ofChange fixpSumsWrong)

/-- 'sakialaw01.FixpGates': WHATEVER THE INPUT: true; the input reads as it did. -/
def fixpGatesSpec : ChangeSpec := { name := "fixpGates", fn := fun _ => fun
  | [d1, d2] => { results := [.lit (.bool true)], args := [d1, d2] }
  | _ => none }
def fixpGatesRow : OpenClaim := { program := "ytmcaagelfopojaa", sum := "617fb9b1a3a788f4f0a01096e6978006ac239c08aded06f8a57bc18ac7b6cc56", func := "sakia/sakialaw01.FixpGates", spec := "fixpGates", unfollowed := true, recurses := true, apart := false }
def FixpGatesSaid : Prop := fixpGatesRow.holds Try.pinned (OpenSpec.ofChange fixpGatesSpec)

/-- ITS FALSE NEIGHBOUR: 'it returns false'. Refute it at one input. -/
def fixpGatesWrong : ChangeSpec := { name := "fixpGates", fn := fun _ => fun
  | [d1, d2] => { results := [.lit (.bool false)], args := [d1, d2] }
  | _ => none }
def FixpGatesWrongFalsely : Prop := fixpGatesRow.holds Try.pinned (OpenSpec.ofChange fixpGatesWrong)

/-- 'sakialaw01.FixpFloors': WHATEVER THE INPUT: true; the input reads as it did. -/
def fixpFloorsSpec : ChangeSpec := { name := "fixpFloors", fn := fun _ => fun
  | [d1, d2, d3] => { results := [.lit (.bool true)], args := [d1, d2, d3] }
  | _ => none }
def fixpFloorsRow : OpenClaim := { program := "ytmcaagelfopojaa", sum := "617fb9b1a3a788f4f0a01096e6978006ac239c08aded06f8a57bc18ac7b6cc56", func := "sakia/sakialaw01.FixpFloors", spec := "fixpFloors", apart := false }
def FixpFloorsSaid : Prop := fixpFloorsRow.holds Try.pinned (OpenSpec.ofChange fixpFloorsSpec)

/-- ITS FALSE NEIGHBOUR: 'it returns false'. Refute it at one input. -/
def fixpFloorsWrong : ChangeSpec := { name := "fixpFloors", fn := fun _ => fun
  | [d1, d2, d3] => { results := [.lit (.bool false)], args := [d1, d2, d3] }
  | _ => none }
def FixpFloorsWrongFalsely : Prop := fixpFloorsRow.holds Try.pinned (OpenSpec.ofChange fixpFloorsWrong)

/- THE SECOND FORM. 'bulk': how many values and letters a reading holds, each counted each time it is reached (what is shared counts as often as it is met; a slice's spare places count too). A statement '..UptoSaid' is the law's where the arguments, and the package variables that the reading takes, are together of bulk at most 1048576: NARROWER than '..Said'. Prove '..Said' where nothing that the law and all that it calls make is longer than what came in: it says more and counts as full. Else prove '..UptoSaid'. A law counts once. -/
mutual
def uptoBulk {H : Type} : DataW H → Nat
  | .lit (.string bytes) => bytes.length + 1
  | .lit _ => 1
  | .nil => 1
  | .ptr d => uptoBulk d + 1
  | .slice elems spare => uptoBulkAll elems + uptoBulkAll spare + 1
  | .agg parts => uptoBulkAll parts + 1
  | .iface _ d => uptoBulk d + 1
  | .map entries => uptoBulkEntries entries + 1
  | .held _ => 1
def uptoBulkAll {H : Type} : List (DataW H) → Nat
  | [] => 0
  | d :: r => uptoBulk d + uptoBulkAll r
def uptoBulkEntries {H : Type} : List (Lit × DataW H) → Nat
  | [] => 0
  | x :: r => uptoBulkEntry x + uptoBulkEntries r
def uptoBulkEntry {H : Type} : Lit × DataW H → Nat
  | (.string bytes, d) => bytes.length + uptoBulk d + 1
  | (_, d) => uptoBulk d + 1
 end
def uptoSmall : (H : Type) → List (DataW H) → Bool := fun _ ds => decide (uptoBulkAll ds ≤ 1048576)
def OpenSpec.upto (s : _root_.Go.ChangeSpec) : _root_.Go.OpenSpec := { _root_.Go.OpenSpec.ofChange s with cond := some uptoSmall }

/-- 'sakialaw01.FixpProducts', WHERE WHAT IT READS IS OF BULK AT MOST 1048576: true; the input reads as it did. -/
def fixpProductsUptoRow : OpenClaim := { program := "ytmcaagelfopojaa", sum := "617fb9b1a3a788f4f0a01096e6978006ac239c08aded06f8a57bc18ac7b6cc56", func := "sakia/sakialaw01.FixpProducts", spec := "fixpProducts", apart := false, narrowed := true }
def FixpProductsUptoSaid : Prop := fixpProductsUptoRow.holds Try.pinned (OpenSpec.upto fixpProductsSpec)

/-- 'sakialaw01.FixpShifts', WHERE WHAT IT READS IS OF BULK AT MOST 1048576: true; the input reads as it did. -/
def fixpShiftsUptoRow : OpenClaim := { program := "ytmcaagelfopojaa", sum := "617fb9b1a3a788f4f0a01096e6978006ac239c08aded06f8a57bc18ac7b6cc56", func := "sakia/sakialaw01.FixpShifts", spec := "fixpShifts", apart := false, narrowed := true }
def FixpShiftsUptoSaid : Prop := fixpShiftsUptoRow.holds Try.pinned (OpenSpec.upto fixpShiftsSpec)

/-- 'sakialaw01.FixpMuls', WHERE WHAT IT READS IS OF BULK AT MOST 1048576: true; the input reads as it did. -/
def fixpMulsUptoRow : OpenClaim := { program := "ytmcaagelfopojaa", sum := "617fb9b1a3a788f4f0a01096e6978006ac239c08aded06f8a57bc18ac7b6cc56", func := "sakia/sakialaw01.FixpMuls", spec := "fixpMuls", apart := false, narrowed := true }
def FixpMulsUptoSaid : Prop := fixpMulsUptoRow.holds Try.pinned (OpenSpec.upto fixpMulsSpec)

/-- 'sakialaw01.FixpSums', WHERE WHAT IT READS IS OF BULK AT MOST 1048576: true; the input reads as it did. -/
def fixpSumsUptoRow : OpenClaim := { program := "ytmcaagelfopojaa", sum := "617fb9b1a3a788f4f0a01096e6978006ac239c08aded06f8a57bc18ac7b6cc56", func := "sakia/sakialaw01.FixpSums", spec := "fixpSums", unfollowed := true, recurses := true, apart := false, narrowed := true }
def FixpSumsUptoSaid : Prop := fixpSumsUptoRow.holds Try.pinned (OpenSpec.upto fixpSumsSpec)

/-- 'sakialaw01.FixpGates', WHERE WHAT IT READS IS OF BULK AT MOST 1048576: true; the input reads as it did. -/
def fixpGatesUptoRow : OpenClaim := { program := "ytmcaagelfopojaa", sum := "617fb9b1a3a788f4f0a01096e6978006ac239c08aded06f8a57bc18ac7b6cc56", func := "sakia/sakialaw01.FixpGates", spec := "fixpGates", unfollowed := true, recurses := true, apart := false, narrowed := true }
def FixpGatesUptoSaid : Prop := fixpGatesUptoRow.holds Try.pinned (OpenSpec.upto fixpGatesSpec)

/-- 'sakialaw01.FixpFloors', WHERE WHAT IT READS IS OF BULK AT MOST 1048576: true; the input reads as it did. -/
def fixpFloorsUptoRow : OpenClaim := { program := "ytmcaagelfopojaa", sum := "617fb9b1a3a788f4f0a01096e6978006ac239c08aded06f8a57bc18ac7b6cc56", func := "sakia/sakialaw01.FixpFloors", spec := "fixpFloors", apart := false, narrowed := true }
def FixpFloorsUptoSaid : Prop := fixpFloorsUptoRow.holds Try.pinned (OpenSpec.upto fixpFloorsSpec)

end Rows
end Go.Proofs.Ytmcaagelfopojaa
