/-
  DERIVED. GIVEN WITH THE SEED: THE CARDS: each row of YthdkanmpapioeaaDoorRows.lean that lists a variable, with what it lists TIED to the program's text (the seventh form; the later family's looks); each row that meets fmt, with fmt's text TOLD by the authors' own Lean function (tested against real Go, not proved from fmt's source: count such statements apart). THE CARD IS WHAT COUNTS. Prove the row's statement (the work); the ties are given (YthdkanmpapioeaaDoorTie.lean); close each card by the builder's one call (the guide's Derived/Test/ToyasCard.lean, 'card_holds'). Laid BY PROGRAM, IN A SANDBOX (cutbox-door.mjs). By AI agents, Wed Nov 11 2026. No macro, syntax, notation, axiom, sorry.
-/
import Derived.Test.YthdkanmpapioeaaDoorRows
import GoSem.ClaimSeven
namespace Go.Proofs.YthdkanmpapioeaaDoor
namespace Rows

/-- THE TIED CARD OF 'sakialaw10.DataTexts'. -/
def dataTextsCard : Claim7 := { stood := { row := dataTextsRow, standIns := [], harness := (true, "a786581236e034baba1a4b58f856679d8af8d66f934cccb4bda7f9e9885481d2"), looks := false }, kinds := [], alts := [], laidByText := true, laidKinds := [.data, .data, .data, .data, .pinned], laidTests := true, laidLooks := .later }
def DataTextsCardSaid : Prop := Claim7.holds Tryd.pinned (.plain (OpenSpec.ofChange dataTextsSpec)) dataTextsCard

/-- THE TIED CARD OF 'sakialaw10.DataParses'. -/
def dataParsesCard : Claim7 := { stood := { row := dataParsesRow, standIns := [], harness := (true, "a786581236e034baba1a4b58f856679d8af8d66f934cccb4bda7f9e9885481d2"), looks := false }, kinds := [], alts := [], laidByText := true, laidKinds := [.data, .data, .data, .data, .pinned], laidTests := true, laidLooks := .later }
def DataParsesCardSaid : Prop := Claim7.holds Tryd.pinned (.plain (OpenSpec.ofChange dataParsesSpec)) dataParsesCard

/-- THE TIED CARD OF 'sakialaw10.DataChecks'. -/
def dataChecksCard : Claim7 := { stood := { row := dataChecksRow, standIns := [], harness := (true, "a786581236e034baba1a4b58f856679d8af8d66f934cccb4bda7f9e9885481d2"), looks := false }, kinds := [], alts := [], laidByText := true, laidKinds := [.data, .data, .data], laidTests := true, laidLooks := .later }
def DataChecksCardSaid : Prop := Claim7.holds Tryd.pinned (.plain (OpenSpec.ofChange dataChecksSpec)) dataChecksCard

/-- THE TIED CARD OF 'sakialaw10.DataPicks'. -/
def dataPicksCard : Claim7 := { stood := { row := dataPicksRow, standIns := [], harness := (true, "a786581236e034baba1a4b58f856679d8af8d66f934cccb4bda7f9e9885481d2"), looks := false }, kinds := [], alts := [], laidByText := true, laidKinds := [.data, .data, .data], laidTests := true, laidLooks := .later }
def DataPicksCardSaid : Prop := Claim7.holds Tryd.pinned (.plain (OpenSpec.ofChange dataPicksSpec)) dataPicksCard

/-- THE TIED CARD OF 'sakialaw10.DataRanges'. -/
def dataRangesCard : Claim7 := { stood := { row := dataRangesRow, standIns := [], harness := (true, "a786581236e034baba1a4b58f856679d8af8d66f934cccb4bda7f9e9885481d2"), looks := false }, kinds := [], alts := [], laidByText := true, laidKinds := [.data, .data, .data], laidTests := true, laidLooks := .later }
def DataRangesCardSaid : Prop := Claim7.holds Tryd.pinned (.plain (OpenSpec.ofChange dataRangesSpec)) dataRangesCard

/-- THE TIED CARD OF 'sakialaw10.DataCopies'. -/
def dataCopiesCard : Claim7 := { stood := { row := dataCopiesRow, standIns := [], harness := (true, "a786581236e034baba1a4b58f856679d8af8d66f934cccb4bda7f9e9885481d2"), looks := false }, kinds := [], alts := [], laidByText := true, laidKinds := [.data, .data, .data], laidTests := true, laidLooks := .later }
def DataCopiesCardSaid : Prop := Claim7.holds Tryd.pinned (.plain (OpenSpec.ofChange dataCopiesSpec)) dataCopiesCard

/-- THE SECOND FORM's CARD OF 'sakialaw10.DataTexts'. -/
def dataTextsUptoCard : Claim7 := { stood := { row := dataTextsUptoRow, standIns := [], harness := (true, "a786581236e034baba1a4b58f856679d8af8d66f934cccb4bda7f9e9885481d2"), looks := false }, kinds := [], alts := [], laidByText := true, laidKinds := [.data, .data, .data, .data, .pinned], laidTests := true, laidLooks := .later }
def DataTextsUptoCardSaid : Prop := Claim7.holds Tryd.pinned (.plain (OpenSpec.upto dataTextsSpec)) dataTextsUptoCard

/-- THE SECOND FORM's CARD OF 'sakialaw10.DataParses'. -/
def dataParsesUptoCard : Claim7 := { stood := { row := dataParsesUptoRow, standIns := [], harness := (true, "a786581236e034baba1a4b58f856679d8af8d66f934cccb4bda7f9e9885481d2"), looks := false }, kinds := [], alts := [], laidByText := true, laidKinds := [.data, .data, .data, .data, .pinned], laidTests := true, laidLooks := .later }
def DataParsesUptoCardSaid : Prop := Claim7.holds Tryd.pinned (.plain (OpenSpec.upto dataParsesSpec)) dataParsesUptoCard

/-- THE SECOND FORM's CARD OF 'sakialaw10.DataChecks'. -/
def dataChecksUptoCard : Claim7 := { stood := { row := dataChecksUptoRow, standIns := [], harness := (true, "a786581236e034baba1a4b58f856679d8af8d66f934cccb4bda7f9e9885481d2"), looks := false }, kinds := [], alts := [], laidByText := true, laidKinds := [.data, .data, .data], laidTests := true, laidLooks := .later }
def DataChecksUptoCardSaid : Prop := Claim7.holds Tryd.pinned (.plain (OpenSpec.upto dataChecksSpec)) dataChecksUptoCard

/-- THE SECOND FORM's CARD OF 'sakialaw10.DataPicks'. -/
def dataPicksUptoCard : Claim7 := { stood := { row := dataPicksUptoRow, standIns := [], harness := (true, "a786581236e034baba1a4b58f856679d8af8d66f934cccb4bda7f9e9885481d2"), looks := false }, kinds := [], alts := [], laidByText := true, laidKinds := [.data, .data, .data], laidTests := true, laidLooks := .later }
def DataPicksUptoCardSaid : Prop := Claim7.holds Tryd.pinned (.plain (OpenSpec.upto dataPicksSpec)) dataPicksUptoCard

/-- THE SECOND FORM's CARD OF 'sakialaw10.DataRanges'. -/
def dataRangesUptoCard : Claim7 := { stood := { row := dataRangesUptoRow, standIns := [], harness := (true, "a786581236e034baba1a4b58f856679d8af8d66f934cccb4bda7f9e9885481d2"), looks := false }, kinds := [], alts := [], laidByText := true, laidKinds := [.data, .data, .data], laidTests := true, laidLooks := .later }
def DataRangesUptoCardSaid : Prop := Claim7.holds Tryd.pinned (.plain (OpenSpec.upto dataRangesSpec)) dataRangesUptoCard

/-- THE SECOND FORM's CARD OF 'sakialaw10.DataCopies'. -/
def dataCopiesUptoCard : Claim7 := { stood := { row := dataCopiesUptoRow, standIns := [], harness := (true, "a786581236e034baba1a4b58f856679d8af8d66f934cccb4bda7f9e9885481d2"), looks := false }, kinds := [], alts := [], laidByText := true, laidKinds := [.data, .data, .data], laidTests := true, laidLooks := .later }
def DataCopiesUptoCardSaid : Prop := Claim7.holds Tryd.pinned (.plain (OpenSpec.upto dataCopiesSpec)) dataCopiesUptoCard
end Rows
end Go.Proofs.YthdkanmpapioeaaDoor
