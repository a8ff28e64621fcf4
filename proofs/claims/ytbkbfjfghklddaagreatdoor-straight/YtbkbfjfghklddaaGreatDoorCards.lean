/-
  DERIVED. GIVEN WITH THE SEED: THE CARDS: each row of YtbkbfjfghklddaaGreatDoorRows.lean that lists a variable, with what it lists TIED to the program's text (the seventh form; the later family's looks); each row that meets fmt, with fmt's text TOLD by the authors' own Lean function (tested against real Go, not proved from fmt's source: count such statements apart). THE CARD IS WHAT COUNTS. Prove the row's statement (the work); the ties are given (YtbkbfjfghklddaaGreatDoorTie.lean); close each card by the builder's one call (the guide's Derived/Test/ToyasCard.lean, 'card_holds'). Laid BY PROGRAM, IN A SANDBOX (cutbox-door.mjs). By AI agents, Wed Nov 11 2026. No macro, syntax, notation, axiom, sorry.
-/
import Derived.Test.YtbkbfjfghklddaaGreatDoorRows
import GoSem.ClaimSeven
namespace Go.Proofs.YtbkbfjfghklddaaGreatDoor
namespace Rows

/-- THE TIED CARD OF 'wardkeep.Straight'. -/
def straightCard : Claim7 := { stood := { row := straightRow, standIns := [], harness := (true, "33c931bb0d24aa542d6b0c8682a53b0fa05caba13f013ca17b913f1159ec2938"), looks := true }, kinds := [], alts := [], goes := true, laidByText := true, laidKinds := [.data, .data, .data, .data, .sentinel, .sentinel, .pinned], laidTests := true, laidLooks := .later }
def StraightCardSaid : Prop := Claim7.holds Tryz.pinned (.plain (OpenSpec.ofChange straightSpec)) straightCard

/-- THE TIED CARD OF 'wardlaw.Checked'. -/
def checkedCard : Claim7 := { stood := { row := checkedRow, standIns := [], harness := (true, "33c931bb0d24aa542d6b0c8682a53b0fa05caba13f013ca17b913f1159ec2938"), looks := true }, kinds := [], alts := [], goes := true, laidByText := true, laidKinds := [.data, .data, .data, .data, .sentinel, .sentinel, .pinned], laidTests := true, laidLooks := .later }
def CheckedCardSaid : Prop := Claim7.holds Tryz.pinned (.plain (OpenSpec.ofChange checkedSpec)) checkedCard

/-- THE TIED CARD OF 'wardlaw.Proved'. -/
def provedCard : Claim7 := { stood := { row := provedRow, standIns := [], harness := (true, "33c931bb0d24aa542d6b0c8682a53b0fa05caba13f013ca17b913f1159ec2938"), looks := true }, kinds := [], alts := [], goes := true, laidByText := true, laidKinds := [.data, .data, .data, .data, .sentinel, .sentinel, .pinned], laidTests := true, laidLooks := .later }
def ProvedCardSaid : Prop := Claim7.holds Tryz.pinned (.plain (OpenSpec.ofChange provedSpec)) provedCard

/-- THE TIED CARD OF 'wardkeep.Summed'. -/
def summedCard : Claim7 := { stood := { row := summedRow, standIns := [], harness := (true, "33c931bb0d24aa542d6b0c8682a53b0fa05caba13f013ca17b913f1159ec2938"), looks := true }, kinds := [], alts := [], goes := true, laidByText := true, laidKinds := [.data, .data, .data, .data, .sentinel, .sentinel, .pinned], laidTests := true, laidLooks := .later }
def SummedCardSaid : Prop := Claim7.holds Tryz.pinned (.plain (OpenSpec.ofChange summedSpec)) summedCard

/-- THE SECOND FORM's CARD OF 'wardkeep.Straight'. -/
def straightUptoCard : Claim7 := { stood := { row := straightUptoRow, standIns := [], harness := (true, "33c931bb0d24aa542d6b0c8682a53b0fa05caba13f013ca17b913f1159ec2938"), looks := true }, kinds := [], alts := [], goes := true, laidByText := true, laidKinds := [.data, .data, .data, .data, .sentinel, .sentinel, .pinned], laidTests := true, laidLooks := .later }
def StraightUptoCardSaid : Prop := Claim7.holds Tryz.pinned (.plain (OpenSpec.upto straightSpec)) straightUptoCard

/-- THE SECOND FORM's CARD OF 'wardlaw.Checked'. -/
def checkedUptoCard : Claim7 := { stood := { row := checkedUptoRow, standIns := [], harness := (true, "33c931bb0d24aa542d6b0c8682a53b0fa05caba13f013ca17b913f1159ec2938"), looks := true }, kinds := [], alts := [], goes := true, laidByText := true, laidKinds := [.data, .data, .data, .data, .sentinel, .sentinel, .pinned], laidTests := true, laidLooks := .later }
def CheckedUptoCardSaid : Prop := Claim7.holds Tryz.pinned (.plain (OpenSpec.upto checkedSpec)) checkedUptoCard

/-- THE SECOND FORM's CARD OF 'wardlaw.Proved'. -/
def provedUptoCard : Claim7 := { stood := { row := provedUptoRow, standIns := [], harness := (true, "33c931bb0d24aa542d6b0c8682a53b0fa05caba13f013ca17b913f1159ec2938"), looks := true }, kinds := [], alts := [], goes := true, laidByText := true, laidKinds := [.data, .data, .data, .data, .sentinel, .sentinel, .pinned], laidTests := true, laidLooks := .later }
def ProvedUptoCardSaid : Prop := Claim7.holds Tryz.pinned (.plain (OpenSpec.upto provedSpec)) provedUptoCard

/-- THE SECOND FORM's CARD OF 'wardkeep.Summed'. -/
def summedUptoCard : Claim7 := { stood := { row := summedUptoRow, standIns := [], harness := (true, "33c931bb0d24aa542d6b0c8682a53b0fa05caba13f013ca17b913f1159ec2938"), looks := true }, kinds := [], alts := [], goes := true, laidByText := true, laidKinds := [.data, .data, .data, .data, .sentinel, .sentinel, .pinned], laidTests := true, laidLooks := .later }
def SummedUptoCardSaid : Prop := Claim7.holds Tryz.pinned (.plain (OpenSpec.upto summedSpec)) summedUptoCard
end Rows
end Go.Proofs.YtbkbfjfghklddaaGreatDoor
