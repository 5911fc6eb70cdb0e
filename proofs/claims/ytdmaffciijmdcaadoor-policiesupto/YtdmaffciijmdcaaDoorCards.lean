/-
  DERIVED. GIVEN WITH THE SEED: THE CARDS: each row of YtdmaffciijmdcaaDoorRows.lean that lists a variable, with what it lists TIED to the program's text (the seventh form; the later family's looks); each row that meets fmt, with fmt's text TOLD by the authors' own Lean function (tested against real Go, not proved from fmt's source: count such statements apart). THE CARD IS WHAT COUNTS. Prove the row's statement (the work); the ties are given (YtdmaffciijmdcaaDoorTie.lean); close each card by the builder's one call (the guide's Derived/Test/ToyasCard.lean, 'card_holds'). Laid BY PROGRAM, IN A SANDBOX (cutbox-door.mjs). By AI agents, Wed Nov 11 2026. No macro, syntax, notation, axiom, sorry.
-/
import Derived.Test.YtdmaffciijmdcaaDoorRows
import GoSem.ClaimSeven
namespace Go.Proofs.YtdmaffciijmdcaaDoor
namespace Rows

/-- THE TIED CARD OF 'turnpikelaw.Policies'. -/
def policiesCard : Claim7 := { stood := { row := policiesRow, standIns := [], harness := (true, "bd6d8c3e1c9a2a698e26f395fb498952780ab90f1d319ae9611ecb31e6a12192"), looks := false }, kinds := [], alts := [], laidByText := true, laidKinds := [.data, .pinned], laidTests := true, laidLooks := .later }
def PoliciesCardSaid : Prop := Claim7.holds Tryd.pinned (.plain (OpenSpec.ofChange policiesSpec)) policiesCard

/-- THE TIED CARD OF 'turnpikekeep.First'. -/
def firstCard : Claim7 := { stood := { row := firstRow, standIns := [], harness := (true, "bd6d8c3e1c9a2a698e26f395fb498952780ab90f1d319ae9611ecb31e6a12192"), looks := false }, kinds := [], alts := [], laidByText := true, laidKinds := [.data, .pinned], laidTests := true, laidLooks := .later }
def FirstCardSaid : Prop := Claim7.holds Tryd.pinned (.plain (OpenSpec.ofChange firstSpec)) firstCard

/-- THE TIED CARD OF 'turnpikekeep.Spoiled'. -/
def spoiledCard : Claim7 := { stood := { row := spoiledRow, standIns := [], harness := (true, "bd6d8c3e1c9a2a698e26f395fb498952780ab90f1d319ae9611ecb31e6a12192"), looks := false }, kinds := [], alts := [], laidByText := true, laidKinds := [.data, .pinned], laidTests := true, laidLooks := .later }
def SpoiledCardSaid : Prop := Claim7.holds Tryd.pinned (.plain (OpenSpec.ofChange spoiledSpec)) spoiledCard

/-- THE SECOND FORM's CARD OF 'turnpikelaw.Policies'. -/
def policiesUptoCard : Claim7 := { stood := { row := policiesUptoRow, standIns := [], harness := (true, "bd6d8c3e1c9a2a698e26f395fb498952780ab90f1d319ae9611ecb31e6a12192"), looks := false }, kinds := [], alts := [], laidByText := true, laidKinds := [.data, .pinned], laidTests := true, laidLooks := .later }
def PoliciesUptoCardSaid : Prop := Claim7.holds Tryd.pinned (.plain (OpenSpec.upto policiesSpec)) policiesUptoCard

/-- THE SECOND FORM's CARD OF 'turnpikekeep.First'. -/
def firstUptoCard : Claim7 := { stood := { row := firstUptoRow, standIns := [], harness := (true, "bd6d8c3e1c9a2a698e26f395fb498952780ab90f1d319ae9611ecb31e6a12192"), looks := false }, kinds := [], alts := [], laidByText := true, laidKinds := [.data, .pinned], laidTests := true, laidLooks := .later }
def FirstUptoCardSaid : Prop := Claim7.holds Tryd.pinned (.plain (OpenSpec.upto firstSpec)) firstUptoCard

/-- THE SECOND FORM's CARD OF 'turnpikekeep.Spoiled'. -/
def spoiledUptoCard : Claim7 := { stood := { row := spoiledUptoRow, standIns := [], harness := (true, "bd6d8c3e1c9a2a698e26f395fb498952780ab90f1d319ae9611ecb31e6a12192"), looks := false }, kinds := [], alts := [], laidByText := true, laidKinds := [.data, .pinned], laidTests := true, laidLooks := .later }
def SpoiledUptoCardSaid : Prop := Claim7.holds Tryd.pinned (.plain (OpenSpec.upto spoiledSpec)) spoiledUptoCard
end Rows
end Go.Proofs.YtdmaffciijmdcaaDoor
