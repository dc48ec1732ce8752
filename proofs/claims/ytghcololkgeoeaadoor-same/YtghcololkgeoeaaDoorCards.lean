/-
  DERIVED. GIVEN WITH THE SEED: THE CARDS: each row of YtghcololkgeoeaaDoorRows.lean that lists a variable, with what it lists TIED to the program's text (the seventh form; the later family's looks); each row that meets fmt, with fmt's text TOLD by the authors' own Lean function (tested against real Go, not proved from fmt's source: count such statements apart). THE CARD IS WHAT COUNTS. Prove the row's statement (the work); the ties are given (YtghcololkgeoeaaDoorTie.lean); close each card by the builder's one call (the guide's Derived/Test/ToyasCard.lean, 'card_holds'). Laid BY PROGRAM, IN A SANDBOX (cutbox-door.mjs). By AI agents, Wed Nov 11 2026. No macro, syntax, notation, axiom, sorry.
-/
import Derived.Test.YtghcololkgeoeaaDoorRows
import GoSem.ClaimSeven
namespace Go.Proofs.YtghcololkgeoeaaDoor
namespace Rows

/-- THE TIED CARD OF 'funnelkeep.Ordered'. -/
def orderedCard : Claim7 := { stood := { row := orderedRow, standIns := [], harness := (true, "5faa3791d056fafbe02d38dbf46545141186c8a9b64b2d6f94b742223ba1e1a1"), looks := false }, kinds := [], alts := [], laidByText := true, laidKinds := [.data, .data, .data], laidTests := true, laidLooks := .later }
def OrderedCardSaid : Prop := Claim7.holds Tryd.pinned (.plain (OpenSpec.ofChange orderedSpec)) orderedCard

/-- THE TIED CARD OF 'funnelkeep.Kept'. -/
def keptCard : Claim7 := { stood := { row := keptRow, standIns := [], harness := (true, "5faa3791d056fafbe02d38dbf46545141186c8a9b64b2d6f94b742223ba1e1a1"), looks := false }, kinds := [], alts := [], laidByText := true, laidKinds := [.data, .data, .data], laidTests := true, laidLooks := .later }
def KeptCardSaid : Prop := Claim7.holds Tryd.pinned (.plain (OpenSpec.ofChange keptSpec)) keptCard

/-- THE TIED CARD OF 'funnelkeep.Same'. -/
def sameCard : Claim7 := { stood := { row := sameRow, standIns := [], harness := (true, "5faa3791d056fafbe02d38dbf46545141186c8a9b64b2d6f94b742223ba1e1a1"), looks := false }, kinds := [], alts := [], laidByText := true, laidKinds := [.data, .data, .data], laidTests := true, laidLooks := .later }
def SameCardSaid : Prop := Claim7.holds Tryd.pinned (.plain (OpenSpec.ofChange sameSpec)) sameCard

/-- THE TIED CARD OF 'funnelkeep.Lively'. -/
def livelyCard : Claim7 := { stood := { row := livelyRow, standIns := [], harness := (true, "5faa3791d056fafbe02d38dbf46545141186c8a9b64b2d6f94b742223ba1e1a1"), looks := false }, kinds := [], alts := [], laidByText := true, laidKinds := [.data, .data, .data], laidTests := true, laidLooks := .later }
def LivelyCardSaid : Prop := Claim7.holds Tryd.pinned (.plain (OpenSpec.ofChange livelySpec)) livelyCard

/-- THE TIED CARD OF 'funnelkeep.Refused'. -/
def refusedCard : Claim7 := { stood := { row := refusedRow, standIns := [], harness := (true, "5faa3791d056fafbe02d38dbf46545141186c8a9b64b2d6f94b742223ba1e1a1"), looks := false }, kinds := [], alts := [], laidByText := true, laidKinds := [.data, .data, .data], laidTests := true, laidLooks := .later }
def RefusedCardSaid : Prop := Claim7.holds Tryd.pinned (.plain (OpenSpec.ofChange refusedSpec)) refusedCard

/-- THE TIED CARD OF 'funnelkeep.Chunked'. -/
def chunkedCard : Claim7 := { stood := { row := chunkedRow, standIns := [], harness := (true, "5faa3791d056fafbe02d38dbf46545141186c8a9b64b2d6f94b742223ba1e1a1"), looks := false }, kinds := [], alts := [], laidByText := true, laidKinds := [.data, .data, .data], laidTests := true, laidLooks := .later }
def ChunkedCardSaid : Prop := Claim7.holds Tryd.pinned (.plain (OpenSpec.ofChange chunkedSpec)) chunkedCard

/-- THE TIED CARD OF 'funnelkeep.Spelled'. -/
def spelledCard : Claim7 := { stood := { row := spelledRow, standIns := [], harness := (true, "5faa3791d056fafbe02d38dbf46545141186c8a9b64b2d6f94b742223ba1e1a1"), looks := false }, kinds := [], alts := [], laidByText := true, laidKinds := [.data, .data, .data], laidTests := true, laidLooks := .later }
def SpelledCardSaid : Prop := Claim7.holds Tryd.pinned (.plain (OpenSpec.ofChange spelledSpec)) spelledCard

/-- THE SECOND FORM's CARD OF 'funnelkeep.Ordered'. -/
def orderedUptoCard : Claim7 := { stood := { row := orderedUptoRow, standIns := [], harness := (true, "5faa3791d056fafbe02d38dbf46545141186c8a9b64b2d6f94b742223ba1e1a1"), looks := false }, kinds := [], alts := [], laidByText := true, laidKinds := [.data, .data, .data], laidTests := true, laidLooks := .later }
def OrderedUptoCardSaid : Prop := Claim7.holds Tryd.pinned (.plain (OpenSpec.upto orderedSpec)) orderedUptoCard

/-- THE SECOND FORM's CARD OF 'funnelkeep.Kept'. -/
def keptUptoCard : Claim7 := { stood := { row := keptUptoRow, standIns := [], harness := (true, "5faa3791d056fafbe02d38dbf46545141186c8a9b64b2d6f94b742223ba1e1a1"), looks := false }, kinds := [], alts := [], laidByText := true, laidKinds := [.data, .data, .data], laidTests := true, laidLooks := .later }
def KeptUptoCardSaid : Prop := Claim7.holds Tryd.pinned (.plain (OpenSpec.upto keptSpec)) keptUptoCard

/-- THE SECOND FORM's CARD OF 'funnelkeep.Same'. -/
def sameUptoCard : Claim7 := { stood := { row := sameUptoRow, standIns := [], harness := (true, "5faa3791d056fafbe02d38dbf46545141186c8a9b64b2d6f94b742223ba1e1a1"), looks := false }, kinds := [], alts := [], laidByText := true, laidKinds := [.data, .data, .data], laidTests := true, laidLooks := .later }
def SameUptoCardSaid : Prop := Claim7.holds Tryd.pinned (.plain (OpenSpec.upto sameSpec)) sameUptoCard

/-- THE SECOND FORM's CARD OF 'funnelkeep.Lively'. -/
def livelyUptoCard : Claim7 := { stood := { row := livelyUptoRow, standIns := [], harness := (true, "5faa3791d056fafbe02d38dbf46545141186c8a9b64b2d6f94b742223ba1e1a1"), looks := false }, kinds := [], alts := [], laidByText := true, laidKinds := [.data, .data, .data], laidTests := true, laidLooks := .later }
def LivelyUptoCardSaid : Prop := Claim7.holds Tryd.pinned (.plain (OpenSpec.upto livelySpec)) livelyUptoCard

/-- THE SECOND FORM's CARD OF 'funnelkeep.Refused'. -/
def refusedUptoCard : Claim7 := { stood := { row := refusedUptoRow, standIns := [], harness := (true, "5faa3791d056fafbe02d38dbf46545141186c8a9b64b2d6f94b742223ba1e1a1"), looks := false }, kinds := [], alts := [], laidByText := true, laidKinds := [.data, .data, .data], laidTests := true, laidLooks := .later }
def RefusedUptoCardSaid : Prop := Claim7.holds Tryd.pinned (.plain (OpenSpec.upto refusedSpec)) refusedUptoCard

/-- THE SECOND FORM's CARD OF 'funnelkeep.Chunked'. -/
def chunkedUptoCard : Claim7 := { stood := { row := chunkedUptoRow, standIns := [], harness := (true, "5faa3791d056fafbe02d38dbf46545141186c8a9b64b2d6f94b742223ba1e1a1"), looks := false }, kinds := [], alts := [], laidByText := true, laidKinds := [.data, .data, .data], laidTests := true, laidLooks := .later }
def ChunkedUptoCardSaid : Prop := Claim7.holds Tryd.pinned (.plain (OpenSpec.upto chunkedSpec)) chunkedUptoCard

/-- THE SECOND FORM's CARD OF 'funnelkeep.Spelled'. -/
def spelledUptoCard : Claim7 := { stood := { row := spelledUptoRow, standIns := [], harness := (true, "5faa3791d056fafbe02d38dbf46545141186c8a9b64b2d6f94b742223ba1e1a1"), looks := false }, kinds := [], alts := [], laidByText := true, laidKinds := [.data, .data, .data], laidTests := true, laidLooks := .later }
def SpelledUptoCardSaid : Prop := Claim7.holds Tryd.pinned (.plain (OpenSpec.upto spelledSpec)) spelledUptoCard
end Rows
end Go.Proofs.YtghcololkgeoeaaDoor
