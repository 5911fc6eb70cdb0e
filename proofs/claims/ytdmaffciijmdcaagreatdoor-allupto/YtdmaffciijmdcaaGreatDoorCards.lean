/-
  DERIVED. GIVEN WITH THE SEED: THE CARDS: each row of YtdmaffciijmdcaaGreatDoorRows.lean that lists a variable, with what it lists TIED to the program's text (the seventh form; the later family's looks); each row that meets fmt, with fmt's text TOLD by the authors' own Lean function (tested against real Go, not proved from fmt's source: count such statements apart). THE CARD IS WHAT COUNTS. Prove the row's statement (the work); the ties are given (YtdmaffciijmdcaaGreatDoorTie.lean); close each card by the builder's one call (the guide's Derived/Test/ToyasCard.lean, 'card_holds'). Laid BY PROGRAM, IN A SANDBOX (cutbox-door.mjs). By AI agents, Wed Nov 11 2026. No macro, syntax, notation, axiom, sorry.
-/
import Derived.Test.YtdmaffciijmdcaaGreatDoorRows
import GoSem.ClaimSeven
namespace Go.Proofs.YtdmaffciijmdcaaGreatDoor
namespace Rows

/-- THE TIED CARD OF 'turnpikelaw.Heads'. -/
def headsCard : Claim7 := { stood := { row := headsRow, standIns := [], harness := (true, "6ccd4c7663fe2c674c23504b6e085d94d3027e38c6877015cc523e03b434bd38"), looks := false }, kinds := [], alts := [], laidByText := true, laidKinds := [.data, .pinned], laidTests := true, laidLooks := .later }
def HeadsCardSaid : Prop := Claim7.holds Tryz.pinned (.plain (OpenSpec.ofChange headsSpec)) headsCard

/-- THE TIED CARD OF 'turnpikekeep.Guarded'. -/
def guardedCard : Claim7 := { stood := { row := guardedRow, standIns := [], harness := (true, "6ccd4c7663fe2c674c23504b6e085d94d3027e38c6877015cc523e03b434bd38"), looks := false }, kinds := [], alts := [], laidByText := true, laidKinds := [.data, .pinned], laidTests := true, laidLooks := .later }
def GuardedCardSaid : Prop := Claim7.holds Tryz.pinned (.plain (OpenSpec.ofChange guardedSpec)) guardedCard

/-- THE TIED CARD OF 'turnpikelaw.Relays'. -/
def relaysCard : Claim7 := { stood := { row := relaysRow, standIns := [], harness := (true, "6ccd4c7663fe2c674c23504b6e085d94d3027e38c6877015cc523e03b434bd38"), looks := false }, kinds := [], alts := [], laidByText := true, laidKinds := [.data, .pinned], laidTests := true, laidLooks := .later }
def RelaysCardSaid : Prop := Claim7.holds Tryz.pinned (.plain (OpenSpec.ofChange relaysSpec)) relaysCard

/-- THE TIED CARD OF 'turnpikekeep.Through'. -/
def throughCard : Claim7 := { stood := { row := throughRow, standIns := [], harness := (true, "6ccd4c7663fe2c674c23504b6e085d94d3027e38c6877015cc523e03b434bd38"), looks := false }, kinds := [], alts := [], laidByText := true, laidKinds := [.data, .pinned], laidTests := true, laidLooks := .later }
def ThroughCardSaid : Prop := Claim7.holds Tryz.pinned (.plain (OpenSpec.ofChange throughSpec)) throughCard

/-- THE TIED CARD OF 'turnpikekeep.Reloaded'. -/
def reloadedCard : Claim7 := { stood := { row := reloadedRow, standIns := [], harness := (true, "6ccd4c7663fe2c674c23504b6e085d94d3027e38c6877015cc523e03b434bd38"), looks := false }, kinds := [], alts := [], laidByText := true, laidKinds := [.data, .pinned], laidTests := true, laidLooks := .later }
def ReloadedCardSaid : Prop := Claim7.holds Tryz.pinned (.plain (OpenSpec.ofChange reloadedSpec)) reloadedCard

/-- THE TIED CARD OF 'turnpikekeep.Idle'. -/
def idleCard : Claim7 := { stood := { row := idleRow, standIns := [], harness := (true, "6ccd4c7663fe2c674c23504b6e085d94d3027e38c6877015cc523e03b434bd38"), looks := false }, kinds := [], alts := [], laidByText := true, laidKinds := [.data, .pinned], laidTests := true, laidLooks := .later }
def IdleCardSaid : Prop := Claim7.holds Tryz.pinned (.plain (OpenSpec.ofChange idleSpec)) idleCard

/-- THE TIED CARD OF 'turnpikekeep.Apart'. -/
def apartCard : Claim7 := { stood := { row := apartRow, standIns := [], harness := (true, "6ccd4c7663fe2c674c23504b6e085d94d3027e38c6877015cc523e03b434bd38"), looks := false }, kinds := [], alts := [], laidByText := true, laidKinds := [.data, .pinned], laidTests := true, laidLooks := .later }
def ApartCardSaid : Prop := Claim7.holds Tryz.pinned (.plain (OpenSpec.ofChange apartSpec)) apartCard

/-- THE TIED CARD OF 'turnpikelaw.All'. -/
def allCard : Claim7 := { stood := { row := allRow, standIns := [], harness := (true, "6ccd4c7663fe2c674c23504b6e085d94d3027e38c6877015cc523e03b434bd38"), looks := false }, kinds := [], alts := [], laidByText := true, laidKinds := [.data, .pinned], laidTests := true, laidLooks := .later }
def AllCardSaid : Prop := Claim7.holds Tryz.pinned (.plain (OpenSpec.ofChange allSpec)) allCard

/-- THE SECOND FORM's CARD OF 'turnpikelaw.Heads'. -/
def headsUptoCard : Claim7 := { stood := { row := headsUptoRow, standIns := [], harness := (true, "6ccd4c7663fe2c674c23504b6e085d94d3027e38c6877015cc523e03b434bd38"), looks := false }, kinds := [], alts := [], laidByText := true, laidKinds := [.data, .pinned], laidTests := true, laidLooks := .later }
def HeadsUptoCardSaid : Prop := Claim7.holds Tryz.pinned (.plain (OpenSpec.upto headsSpec)) headsUptoCard

/-- THE SECOND FORM's CARD OF 'turnpikekeep.Guarded'. -/
def guardedUptoCard : Claim7 := { stood := { row := guardedUptoRow, standIns := [], harness := (true, "6ccd4c7663fe2c674c23504b6e085d94d3027e38c6877015cc523e03b434bd38"), looks := false }, kinds := [], alts := [], laidByText := true, laidKinds := [.data, .pinned], laidTests := true, laidLooks := .later }
def GuardedUptoCardSaid : Prop := Claim7.holds Tryz.pinned (.plain (OpenSpec.upto guardedSpec)) guardedUptoCard

/-- THE SECOND FORM's CARD OF 'turnpikelaw.Relays'. -/
def relaysUptoCard : Claim7 := { stood := { row := relaysUptoRow, standIns := [], harness := (true, "6ccd4c7663fe2c674c23504b6e085d94d3027e38c6877015cc523e03b434bd38"), looks := false }, kinds := [], alts := [], laidByText := true, laidKinds := [.data, .pinned], laidTests := true, laidLooks := .later }
def RelaysUptoCardSaid : Prop := Claim7.holds Tryz.pinned (.plain (OpenSpec.upto relaysSpec)) relaysUptoCard

/-- THE SECOND FORM's CARD OF 'turnpikekeep.Through'. -/
def throughUptoCard : Claim7 := { stood := { row := throughUptoRow, standIns := [], harness := (true, "6ccd4c7663fe2c674c23504b6e085d94d3027e38c6877015cc523e03b434bd38"), looks := false }, kinds := [], alts := [], laidByText := true, laidKinds := [.data, .pinned], laidTests := true, laidLooks := .later }
def ThroughUptoCardSaid : Prop := Claim7.holds Tryz.pinned (.plain (OpenSpec.upto throughSpec)) throughUptoCard

/-- THE SECOND FORM's CARD OF 'turnpikekeep.Reloaded'. -/
def reloadedUptoCard : Claim7 := { stood := { row := reloadedUptoRow, standIns := [], harness := (true, "6ccd4c7663fe2c674c23504b6e085d94d3027e38c6877015cc523e03b434bd38"), looks := false }, kinds := [], alts := [], laidByText := true, laidKinds := [.data, .pinned], laidTests := true, laidLooks := .later }
def ReloadedUptoCardSaid : Prop := Claim7.holds Tryz.pinned (.plain (OpenSpec.upto reloadedSpec)) reloadedUptoCard

/-- THE SECOND FORM's CARD OF 'turnpikekeep.Idle'. -/
def idleUptoCard : Claim7 := { stood := { row := idleUptoRow, standIns := [], harness := (true, "6ccd4c7663fe2c674c23504b6e085d94d3027e38c6877015cc523e03b434bd38"), looks := false }, kinds := [], alts := [], laidByText := true, laidKinds := [.data, .pinned], laidTests := true, laidLooks := .later }
def IdleUptoCardSaid : Prop := Claim7.holds Tryz.pinned (.plain (OpenSpec.upto idleSpec)) idleUptoCard

/-- THE SECOND FORM's CARD OF 'turnpikekeep.Apart'. -/
def apartUptoCard : Claim7 := { stood := { row := apartUptoRow, standIns := [], harness := (true, "6ccd4c7663fe2c674c23504b6e085d94d3027e38c6877015cc523e03b434bd38"), looks := false }, kinds := [], alts := [], laidByText := true, laidKinds := [.data, .pinned], laidTests := true, laidLooks := .later }
def ApartUptoCardSaid : Prop := Claim7.holds Tryz.pinned (.plain (OpenSpec.upto apartSpec)) apartUptoCard

/-- THE SECOND FORM's CARD OF 'turnpikelaw.All'. -/
def allUptoCard : Claim7 := { stood := { row := allUptoRow, standIns := [], harness := (true, "6ccd4c7663fe2c674c23504b6e085d94d3027e38c6877015cc523e03b434bd38"), looks := false }, kinds := [], alts := [], laidByText := true, laidKinds := [.data, .pinned], laidTests := true, laidLooks := .later }
def AllUptoCardSaid : Prop := Claim7.holds Tryz.pinned (.plain (OpenSpec.upto allSpec)) allUptoCard
end Rows
end Go.Proofs.YtdmaffciijmdcaaGreatDoor
