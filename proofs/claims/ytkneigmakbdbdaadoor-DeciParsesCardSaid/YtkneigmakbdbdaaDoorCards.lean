/-
  DERIVED. GIVEN WITH THE SEED: THE CARDS: each row of YtkneigmakbdbdaaDoorRows.lean that lists a variable, with what it lists TIED to the program's text (the seventh form; the later family's looks); each row that meets fmt, with fmt's text TOLD by the authors' own Lean function (tested against real Go, not proved from fmt's source: count such statements apart). THE CARD IS WHAT COUNTS. Prove the row's statement (the work); the ties are given (YtkneigmakbdbdaaDoorTie.lean); close each card by the builder's one call (the guide's Derived/Test/ToyasCard.lean, 'card_holds'). Laid BY PROGRAM, IN A SANDBOX (cutbox-door.mjs). By AI agents, Wed Nov 11 2026. No macro, syntax, notation, axiom, sorry.
-/
import Derived.Test.YtkneigmakbdbdaaDoorRows
import GoSem.ClaimSeven
namespace Go.Proofs.YtkneigmakbdbdaaDoor
namespace Rows

/-- THE TIED CARD OF 'sakialaw02.DeciTexts'. -/
def deciTextsCard : Claim7 := { stood := { row := deciTextsRow, standIns := [], harness := (true, "1dc3264609aa5854e290919012ee3998a9edc3c51f3979f36144b701090de2eb"), looks := false }, kinds := [], alts := [], laidByText := true, laidKinds := [.data, .data, .data], laidTests := true, laidLooks := .later }
def DeciTextsCardSaid : Prop := Claim7.holds Tryd.pinned (.plain (OpenSpec.ofChange deciTextsSpec)) deciTextsCard

/-- THE TIED CARD OF 'sakialaw02.DeciParses'. -/
def deciParsesCard : Claim7 := { stood := { row := deciParsesRow, standIns := [], harness := (true, "1dc3264609aa5854e290919012ee3998a9edc3c51f3979f36144b701090de2eb"), looks := false }, kinds := [], alts := [], laidByText := true, laidKinds := [.data, .data, .data], laidTests := true, laidLooks := .later }
def DeciParsesCardSaid : Prop := Claim7.holds Tryd.pinned (.plain (OpenSpec.ofChange deciParsesSpec)) deciParsesCard

/-- THE TIED CARD OF 'sakialaw02.DeciApart'. -/
def deciApartCard : Claim7 := { stood := { row := deciApartRow, standIns := [], harness := (true, "1dc3264609aa5854e290919012ee3998a9edc3c51f3979f36144b701090de2eb"), looks := false }, kinds := [], alts := [], laidByText := true, laidKinds := [.data, .data, .data], laidTests := true, laidLooks := .later }
def DeciApartCardSaid : Prop := Claim7.holds Tryd.pinned (.plain (OpenSpec.ofChange deciApartSpec)) deciApartCard

/-- THE TIED CARD OF 'sakialaw02.DeciParts'. -/
def deciPartsCard : Claim7 := { stood := { row := deciPartsRow, standIns := [], harness := (true, "1dc3264609aa5854e290919012ee3998a9edc3c51f3979f36144b701090de2eb"), looks := false }, kinds := [], alts := [], laidByText := true, laidKinds := [.data, .data, .data], laidTests := true, laidLooks := .later }
def DeciPartsCardSaid : Prop := Claim7.holds Tryd.pinned (.plain (OpenSpec.ofChange deciPartsSpec)) deciPartsCard

/-- THE TIED CARD OF 'sakialaw02.DeciNumbers'. -/
def deciNumbersCard : Claim7 := { stood := { row := deciNumbersRow, standIns := [], harness := (true, "1dc3264609aa5854e290919012ee3998a9edc3c51f3979f36144b701090de2eb"), looks := false }, kinds := [], alts := [], laidByText := true, laidKinds := [.data, .data, .data], laidTests := true, laidLooks := .later }
def DeciNumbersCardSaid : Prop := Claim7.holds Tryd.pinned (.plain (OpenSpec.ofChange deciNumbersSpec)) deciNumbersCard

/-- THE SECOND FORM's CARD OF 'sakialaw02.DeciTexts'. -/
def deciTextsUptoCard : Claim7 := { stood := { row := deciTextsUptoRow, standIns := [], harness := (true, "1dc3264609aa5854e290919012ee3998a9edc3c51f3979f36144b701090de2eb"), looks := false }, kinds := [], alts := [], laidByText := true, laidKinds := [.data, .data, .data], laidTests := true, laidLooks := .later }
def DeciTextsUptoCardSaid : Prop := Claim7.holds Tryd.pinned (.plain (OpenSpec.upto deciTextsSpec)) deciTextsUptoCard

/-- THE SECOND FORM's CARD OF 'sakialaw02.DeciParses'. -/
def deciParsesUptoCard : Claim7 := { stood := { row := deciParsesUptoRow, standIns := [], harness := (true, "1dc3264609aa5854e290919012ee3998a9edc3c51f3979f36144b701090de2eb"), looks := false }, kinds := [], alts := [], laidByText := true, laidKinds := [.data, .data, .data], laidTests := true, laidLooks := .later }
def DeciParsesUptoCardSaid : Prop := Claim7.holds Tryd.pinned (.plain (OpenSpec.upto deciParsesSpec)) deciParsesUptoCard

/-- THE SECOND FORM's CARD OF 'sakialaw02.DeciApart'. -/
def deciApartUptoCard : Claim7 := { stood := { row := deciApartUptoRow, standIns := [], harness := (true, "1dc3264609aa5854e290919012ee3998a9edc3c51f3979f36144b701090de2eb"), looks := false }, kinds := [], alts := [], laidByText := true, laidKinds := [.data, .data, .data], laidTests := true, laidLooks := .later }
def DeciApartUptoCardSaid : Prop := Claim7.holds Tryd.pinned (.plain (OpenSpec.upto deciApartSpec)) deciApartUptoCard

/-- THE SECOND FORM's CARD OF 'sakialaw02.DeciParts'. -/
def deciPartsUptoCard : Claim7 := { stood := { row := deciPartsUptoRow, standIns := [], harness := (true, "1dc3264609aa5854e290919012ee3998a9edc3c51f3979f36144b701090de2eb"), looks := false }, kinds := [], alts := [], laidByText := true, laidKinds := [.data, .data, .data], laidTests := true, laidLooks := .later }
def DeciPartsUptoCardSaid : Prop := Claim7.holds Tryd.pinned (.plain (OpenSpec.upto deciPartsSpec)) deciPartsUptoCard

/-- THE SECOND FORM's CARD OF 'sakialaw02.DeciNumbers'. -/
def deciNumbersUptoCard : Claim7 := { stood := { row := deciNumbersUptoRow, standIns := [], harness := (true, "1dc3264609aa5854e290919012ee3998a9edc3c51f3979f36144b701090de2eb"), looks := false }, kinds := [], alts := [], laidByText := true, laidKinds := [.data, .data, .data], laidTests := true, laidLooks := .later }
def DeciNumbersUptoCardSaid : Prop := Claim7.holds Tryd.pinned (.plain (OpenSpec.upto deciNumbersSpec)) deciNumbersUptoCard
end Rows
end Go.Proofs.YtkneigmakbdbdaaDoor
