/-
  DERIVED. GIVEN WITH THE SEED: THE CARDS: each row of YtfjbchmneojgaaaDoorRows.lean that lists a variable, with what it lists TIED to the program's text (the seventh form; the later family's looks); each row that meets fmt, with fmt's text TOLD by the authors' own Lean function (tested against real Go, not proved from fmt's source: count such statements apart). THE CARD IS WHAT COUNTS. Prove the row's statement (the work); the ties are given (YtfjbchmneojgaaaDoorTie.lean); close each card by the builder's one call (the guide's Derived/Test/ToyasCard.lean, 'card_holds'). Laid BY PROGRAM, IN A SANDBOX (cutbox-door.mjs). By AI agents, Wed Nov 11 2026. No macro, syntax, notation, axiom, sorry.
-/
import Derived.Test.YtfjbchmneojgaaaDoorRows
import GoSem.ClaimSeven
namespace Go.Proofs.YtfjbchmneojgaaaDoor
namespace Rows

/-- THE TIED CARD OF 'archivumlaw01.DigestPermutes'. -/
def digestPermutesCard : Claim7 := { stood := { row := digestPermutesRow, standIns := [], harness := (true, "280c02de953955338018498cf6fba117732bdeded41a15fbf9e28c4ac14ce8df"), looks := false }, kinds := [], alts := [], laidByText := true, laidKinds := [.data, .data], laidTests := true, laidLooks := .later }
def DigestPermutesCardSaid : Prop := Claim7.holds Tryd.pinned (.plain (OpenSpec.ofChange digestPermutesSpec)) digestPermutesCard

/-- THE TIED CARD OF 'archivumlaw01.DigestSums'. -/
def digestSumsCard : Claim7 := { stood := { row := digestSumsRow, standIns := [], harness := (true, "280c02de953955338018498cf6fba117732bdeded41a15fbf9e28c4ac14ce8df"), looks := false }, kinds := [], alts := [], laidByText := true, laidKinds := [.data, .data], laidTests := true, laidLooks := .later }
def DigestSumsCardSaid : Prop := Claim7.holds Tryd.pinned (.plain (OpenSpec.ofChange digestSumsSpec)) digestSumsCard

/-- THE TIED CARD OF 'archivumlaw01.DigestTexts'. -/
def digestTextsCard : Claim7 := { stood := { row := digestTextsRow, standIns := [], harness := (true, "280c02de953955338018498cf6fba117732bdeded41a15fbf9e28c4ac14ce8df"), looks := false }, kinds := [], alts := [], laidByText := true, laidKinds := [.data, .data], laidTests := true, laidLooks := .later }
def DigestTextsCardSaid : Prop := Claim7.holds Tryd.pinned (.plain (OpenSpec.ofChange digestTextsSpec)) digestTextsCard

/-- THE TIED CARD OF 'archivumlaw01.DigestDiffers'. -/
def digestDiffersCard : Claim7 := { stood := { row := digestDiffersRow, standIns := [], harness := (true, "280c02de953955338018498cf6fba117732bdeded41a15fbf9e28c4ac14ce8df"), looks := false }, kinds := [], alts := [], laidByText := true, laidKinds := [.data, .data], laidTests := true, laidLooks := .later }
def DigestDiffersCardSaid : Prop := Claim7.holds Tryd.pinned (.plain (OpenSpec.ofChange digestDiffersSpec)) digestDiffersCard

/-- THE TIED CARD OF 'archivumlaw01.DigestStreams'. -/
def digestStreamsCard : Claim7 := { stood := { row := digestStreamsRow, standIns := [], harness := (true, "280c02de953955338018498cf6fba117732bdeded41a15fbf9e28c4ac14ce8df"), looks := false }, kinds := [], alts := [], laidByText := true, laidKinds := [.data, .data], laidTests := true, laidLooks := .later }
def DigestStreamsCardSaid : Prop := Claim7.holds Tryd.pinned (.plain (OpenSpec.ofChange digestStreamsSpec)) digestStreamsCard

/-- THE TIED CARD OF 'archivumlaw01.DigestClones'. -/
def digestClonesCard : Claim7 := { stood := { row := digestClonesRow, standIns := [], harness := (true, "280c02de953955338018498cf6fba117732bdeded41a15fbf9e28c4ac14ce8df"), looks := false }, kinds := [], alts := [], laidByText := true, laidKinds := [.data, .data], laidTests := true, laidLooks := .later }
def DigestClonesCardSaid : Prop := Claim7.holds Tryd.pinned (.plain (OpenSpec.ofChange digestClonesSpec)) digestClonesCard

/-- THE TIED CARD OF 'archivumlaw01.DigestBack'. -/
def digestBackCard : Claim7 := { stood := { row := digestBackRow, standIns := [], harness := (true, "280c02de953955338018498cf6fba117732bdeded41a15fbf9e28c4ac14ce8df"), looks := false }, kinds := [], alts := [], laidByText := true, laidKinds := [.data, .data], laidTests := true, laidLooks := .later }
def DigestBackCardSaid : Prop := Claim7.holds Tryd.pinned (.plain (OpenSpec.ofChange digestBackSpec)) digestBackCard

/-- THE SECOND FORM's CARD OF 'archivumlaw01.DigestPermutes'. -/
def digestPermutesUptoCard : Claim7 := { stood := { row := digestPermutesUptoRow, standIns := [], harness := (true, "280c02de953955338018498cf6fba117732bdeded41a15fbf9e28c4ac14ce8df"), looks := false }, kinds := [], alts := [], laidByText := true, laidKinds := [.data, .data], laidTests := true, laidLooks := .later }
def DigestPermutesUptoCardSaid : Prop := Claim7.holds Tryd.pinned (.plain (OpenSpec.upto digestPermutesSpec)) digestPermutesUptoCard

/-- THE SECOND FORM's CARD OF 'archivumlaw01.DigestSums'. -/
def digestSumsUptoCard : Claim7 := { stood := { row := digestSumsUptoRow, standIns := [], harness := (true, "280c02de953955338018498cf6fba117732bdeded41a15fbf9e28c4ac14ce8df"), looks := false }, kinds := [], alts := [], laidByText := true, laidKinds := [.data, .data], laidTests := true, laidLooks := .later }
def DigestSumsUptoCardSaid : Prop := Claim7.holds Tryd.pinned (.plain (OpenSpec.upto digestSumsSpec)) digestSumsUptoCard

/-- THE SECOND FORM's CARD OF 'archivumlaw01.DigestTexts'. -/
def digestTextsUptoCard : Claim7 := { stood := { row := digestTextsUptoRow, standIns := [], harness := (true, "280c02de953955338018498cf6fba117732bdeded41a15fbf9e28c4ac14ce8df"), looks := false }, kinds := [], alts := [], laidByText := true, laidKinds := [.data, .data], laidTests := true, laidLooks := .later }
def DigestTextsUptoCardSaid : Prop := Claim7.holds Tryd.pinned (.plain (OpenSpec.upto digestTextsSpec)) digestTextsUptoCard

/-- THE SECOND FORM's CARD OF 'archivumlaw01.DigestDiffers'. -/
def digestDiffersUptoCard : Claim7 := { stood := { row := digestDiffersUptoRow, standIns := [], harness := (true, "280c02de953955338018498cf6fba117732bdeded41a15fbf9e28c4ac14ce8df"), looks := false }, kinds := [], alts := [], laidByText := true, laidKinds := [.data, .data], laidTests := true, laidLooks := .later }
def DigestDiffersUptoCardSaid : Prop := Claim7.holds Tryd.pinned (.plain (OpenSpec.upto digestDiffersSpec)) digestDiffersUptoCard

/-- THE SECOND FORM's CARD OF 'archivumlaw01.DigestStreams'. -/
def digestStreamsUptoCard : Claim7 := { stood := { row := digestStreamsUptoRow, standIns := [], harness := (true, "280c02de953955338018498cf6fba117732bdeded41a15fbf9e28c4ac14ce8df"), looks := false }, kinds := [], alts := [], laidByText := true, laidKinds := [.data, .data], laidTests := true, laidLooks := .later }
def DigestStreamsUptoCardSaid : Prop := Claim7.holds Tryd.pinned (.plain (OpenSpec.upto digestStreamsSpec)) digestStreamsUptoCard

/-- THE SECOND FORM's CARD OF 'archivumlaw01.DigestClones'. -/
def digestClonesUptoCard : Claim7 := { stood := { row := digestClonesUptoRow, standIns := [], harness := (true, "280c02de953955338018498cf6fba117732bdeded41a15fbf9e28c4ac14ce8df"), looks := false }, kinds := [], alts := [], laidByText := true, laidKinds := [.data, .data], laidTests := true, laidLooks := .later }
def DigestClonesUptoCardSaid : Prop := Claim7.holds Tryd.pinned (.plain (OpenSpec.upto digestClonesSpec)) digestClonesUptoCard

/-- THE SECOND FORM's CARD OF 'archivumlaw01.DigestBack'. -/
def digestBackUptoCard : Claim7 := { stood := { row := digestBackUptoRow, standIns := [], harness := (true, "280c02de953955338018498cf6fba117732bdeded41a15fbf9e28c4ac14ce8df"), looks := false }, kinds := [], alts := [], laidByText := true, laidKinds := [.data, .data], laidTests := true, laidLooks := .later }
def DigestBackUptoCardSaid : Prop := Claim7.holds Tryd.pinned (.plain (OpenSpec.upto digestBackSpec)) digestBackUptoCard
end Rows
end Go.Proofs.YtfjbchmneojgaaaDoor
