/-
  DERIVED. GIVEN WITH THE SEED: THE CARDS: each row of YtfkggpminmonmaaGreatDoorRows.lean that lists a variable, with what it lists TIED to the program's text (the seventh form; the later family's looks); each row that meets fmt, with fmt's text TOLD by the authors' own Lean function (tested against real Go, not proved from fmt's source: count such statements apart). THE CARD IS WHAT COUNTS. Prove the row's statement (the work); the ties are given (YtfkggpminmonmaaGreatDoorTie.lean); close each card by the builder's one call (the guide's Derived/Test/ToyasCard.lean, 'card_holds'). Laid BY PROGRAM, IN A SANDBOX (cutbox-door.mjs). By AI agents, Wed Nov 11 2026. No macro, syntax, notation, axiom, sorry.
-/
import Derived.Test.YtfkggpminmonmaaGreatDoorRows
import GoSem.ClaimSeven
namespace Go.Proofs.YtfkggpminmonmaaGreatDoor
namespace Rows

/-- THE TIED CARD OF 'turnpikelaw.Heads'. -/
def headsCard : Claim7 := { stood := { row := headsRow, standIns := [], harness := (true, "6acc5e9786dce95543c2e9e347f0b406b267d4bdbb1b9fcbb03af89d8e39c162"), looks := false }, kinds := [], alts := [], laidByText := true, laidKinds := [.data, .pinned], laidTests := true, laidLooks := .later }
def HeadsCardSaid : Prop := Claim7.holds Tryz.pinned (.plain (OpenSpec.ofChange headsSpec)) headsCard

/-- THE TIED CARD OF 'turnpikekeep.Guarded'. -/
def guardedCard : Claim7 := { stood := { row := guardedRow, standIns := [], harness := (true, "6acc5e9786dce95543c2e9e347f0b406b267d4bdbb1b9fcbb03af89d8e39c162"), looks := false }, kinds := [], alts := [], laidByText := true, laidKinds := [.data, .pinned], laidTests := true, laidLooks := .later }
def GuardedCardSaid : Prop := Claim7.holds Tryz.pinned (.plain (OpenSpec.ofChange guardedSpec)) guardedCard

/-- THE TIED CARD OF 'turnpikekeep.Apart'. -/
def apartCard : Claim7 := { stood := { row := apartRow, standIns := [], harness := (true, "6acc5e9786dce95543c2e9e347f0b406b267d4bdbb1b9fcbb03af89d8e39c162"), looks := false }, kinds := [], alts := [], laidByText := true, laidKinds := [.data, .pinned], laidTests := true, laidLooks := .later }
def ApartCardSaid : Prop := Claim7.holds Tryz.pinned (.plain (OpenSpec.ofChange apartSpec)) apartCard

/-- THE SECOND FORM's CARD OF 'turnpikelaw.Heads'. -/
def headsUptoCard : Claim7 := { stood := { row := headsUptoRow, standIns := [], harness := (true, "6acc5e9786dce95543c2e9e347f0b406b267d4bdbb1b9fcbb03af89d8e39c162"), looks := false }, kinds := [], alts := [], laidByText := true, laidKinds := [.data, .pinned], laidTests := true, laidLooks := .later }
def HeadsUptoCardSaid : Prop := Claim7.holds Tryz.pinned (.plain (OpenSpec.upto headsSpec)) headsUptoCard

/-- THE SECOND FORM's CARD OF 'turnpikekeep.Guarded'. -/
def guardedUptoCard : Claim7 := { stood := { row := guardedUptoRow, standIns := [], harness := (true, "6acc5e9786dce95543c2e9e347f0b406b267d4bdbb1b9fcbb03af89d8e39c162"), looks := false }, kinds := [], alts := [], laidByText := true, laidKinds := [.data, .pinned], laidTests := true, laidLooks := .later }
def GuardedUptoCardSaid : Prop := Claim7.holds Tryz.pinned (.plain (OpenSpec.upto guardedSpec)) guardedUptoCard

/-- THE SECOND FORM's CARD OF 'turnpikekeep.Apart'. -/
def apartUptoCard : Claim7 := { stood := { row := apartUptoRow, standIns := [], harness := (true, "6acc5e9786dce95543c2e9e347f0b406b267d4bdbb1b9fcbb03af89d8e39c162"), looks := false }, kinds := [], alts := [], laidByText := true, laidKinds := [.data, .pinned], laidTests := true, laidLooks := .later }
def ApartUptoCardSaid : Prop := Claim7.holds Tryz.pinned (.plain (OpenSpec.upto apartSpec)) apartUptoCard
end Rows
end Go.Proofs.YtfkggpminmonmaaGreatDoor
