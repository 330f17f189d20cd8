/-
  DERIVED. GIVEN WITH THE SEED: THE CARDS: each row of YtjdcafeljdnfeaaDoorRows.lean that lists a variable, with what it lists TIED to the program's text (the seventh form; the later family's looks); each row that meets fmt, with fmt's text TOLD by the authors' own Lean function (tested against real Go, not proved from fmt's source: count such statements apart). THE CARD IS WHAT COUNTS. Prove the row's statement (the work); the ties are given (YtjdcafeljdnfeaaDoorTie.lean); close each card by the builder's one call (the guide's Derived/Test/ToyasCard.lean, 'card_holds'). Laid BY PROGRAM, IN A SANDBOX (cutbox-door.mjs). By AI agents, Wed Nov 11 2026. No macro, syntax, notation, axiom, sorry.
-/
import Derived.Test.YtjdcafeljdnfeaaDoorRows
import GoSem.ClaimSeven
namespace Go.Proofs.YtjdcafeljdnfeaaDoor
namespace Rows

/-- THE TIED CARD OF 'corduroylaw20.RealTells'. -/
def realTellsCard : Claim7 := { stood := { row := realTellsRow, standIns := [], harness := (true, "7ad4775ce33f32ca1bd73f99308bf525a2a0a50045f4eabe574568d438913837"), looks := false }, kinds := [], alts := [], laidByText := true, laidKinds := [.data], laidTests := true, laidLooks := .later }
def RealTellsCardSaid : Prop := Claim7.holds Tryd.pinned (.plain (OpenSpec.ofChange realTellsSpec)) realTellsCard

/-- THE TIED CARD OF 'corduroylaw20.RealMaps'. -/
def realMapsCard : Claim7 := { stood := { row := realMapsRow, standIns := [], harness := (true, "7ad4775ce33f32ca1bd73f99308bf525a2a0a50045f4eabe574568d438913837"), looks := false }, kinds := [], alts := [], laidByText := true, laidKinds := [.data], laidTests := true, laidLooks := .later }
def RealMapsCardSaid : Prop := Claim7.holds Tryd.pinned (.plain (OpenSpec.ofChange realMapsSpec)) realMapsCard

/-- THE TIED CARD OF 'corduroylaw20.RealKinds'. -/
def realKindsCard : Claim7 := { stood := { row := realKindsRow, standIns := [], harness := (true, "7ad4775ce33f32ca1bd73f99308bf525a2a0a50045f4eabe574568d438913837"), looks := false }, kinds := [], alts := [], laidByText := true, laidKinds := [.data], laidTests := true, laidLooks := .later }
def RealKindsCardSaid : Prop := Claim7.holds Tryd.pinned (.plain (OpenSpec.ofChange realKindsSpec)) realKindsCard

/-- THE SECOND FORM's CARD OF 'corduroylaw20.RealTells'. -/
def realTellsUptoCard : Claim7 := { stood := { row := realTellsUptoRow, standIns := [], harness := (true, "7ad4775ce33f32ca1bd73f99308bf525a2a0a50045f4eabe574568d438913837"), looks := false }, kinds := [], alts := [], laidByText := true, laidKinds := [.data], laidTests := true, laidLooks := .later }
def RealTellsUptoCardSaid : Prop := Claim7.holds Tryd.pinned (.plain (OpenSpec.upto realTellsSpec)) realTellsUptoCard

/-- THE SECOND FORM's CARD OF 'corduroylaw20.RealMaps'. -/
def realMapsUptoCard : Claim7 := { stood := { row := realMapsUptoRow, standIns := [], harness := (true, "7ad4775ce33f32ca1bd73f99308bf525a2a0a50045f4eabe574568d438913837"), looks := false }, kinds := [], alts := [], laidByText := true, laidKinds := [.data], laidTests := true, laidLooks := .later }
def RealMapsUptoCardSaid : Prop := Claim7.holds Tryd.pinned (.plain (OpenSpec.upto realMapsSpec)) realMapsUptoCard

/-- THE SECOND FORM's CARD OF 'corduroylaw20.RealKinds'. -/
def realKindsUptoCard : Claim7 := { stood := { row := realKindsUptoRow, standIns := [], harness := (true, "7ad4775ce33f32ca1bd73f99308bf525a2a0a50045f4eabe574568d438913837"), looks := false }, kinds := [], alts := [], laidByText := true, laidKinds := [.data], laidTests := true, laidLooks := .later }
def RealKindsUptoCardSaid : Prop := Claim7.holds Tryd.pinned (.plain (OpenSpec.upto realKindsSpec)) realKindsUptoCard
end Rows
end Go.Proofs.YtjdcafeljdnfeaaDoor
