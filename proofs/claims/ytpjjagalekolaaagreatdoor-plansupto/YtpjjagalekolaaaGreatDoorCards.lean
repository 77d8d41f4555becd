/-
  DERIVED. GIVEN WITH THE SEED: THE CARDS: each row of YtpjjagalekolaaaGreatDoorRows.lean that lists a variable, with what it lists TIED to the program's text (the seventh form; the later family's looks); each row that meets fmt, with fmt's text TOLD by the authors' own Lean function (tested against real Go, not proved from fmt's source: count such statements apart). THE CARD IS WHAT COUNTS. Prove the row's statement (the work); the ties are given (YtpjjagalekolaaaGreatDoorTie.lean); close each card by the builder's one call (the guide's Derived/Test/ToyasCard.lean, 'card_holds'). Laid BY PROGRAM, IN A SANDBOX (cutbox-door.mjs). By AI agents, Wed Nov 11 2026. No macro, syntax, notation, axiom, sorry.
-/
import Derived.Test.YtpjjagalekolaaaGreatDoorRows
import GoSem.ClaimSeven
namespace Go.Proofs.YtpjjagalekolaaaGreatDoor
namespace Rows

/-- THE TIED CARD OF 'convoylaw.Plans'. -/
def plansCard : Claim7 := { stood := { row := plansRow, standIns := [], harness := (true, "bbc8f74c8b4a25b82c2e136c8d7f762d22a93d23c7f01d67affcad7e072265ed"), looks := true }, kinds := [], alts := [], laidByText := true, laidKinds := [.data, .data, .data, .data, .pinned], laidTests := true, laidLooks := .later }
def PlansCardSaid : Prop := Claim7.holds Tryz.pinned (.plain (OpenSpec.ofChange plansSpec)) plansCard

/-- THE TIED CARD OF 'convoykeep.Reaches'. -/
def reachesCard : Claim7 := { stood := { row := reachesRow, standIns := [], harness := (true, "bbc8f74c8b4a25b82c2e136c8d7f762d22a93d23c7f01d67affcad7e072265ed"), looks := true }, kinds := [], alts := [], laidByText := true, laidKinds := [.data, .data, .data, .data, .data, .pinned], laidTests := true, laidLooks := .later }
def ReachesCardSaid : Prop := Claim7.holds Tryz.pinned (.plain (OpenSpec.ofChange reachesSpec)) reachesCard

/-- THE TIED CARD OF 'convoykeep.Spares'. -/
def sparesCard : Claim7 := { stood := { row := sparesRow, standIns := [], harness := (true, "bbc8f74c8b4a25b82c2e136c8d7f762d22a93d23c7f01d67affcad7e072265ed"), looks := true }, kinds := [], alts := [], laidByText := true, laidKinds := [.data, .data, .data, .data, .data, .pinned], laidTests := true, laidLooks := .later }
def SparesCardSaid : Prop := Claim7.holds Tryz.pinned (.plain (OpenSpec.ofChange sparesSpec)) sparesCard

/-- THE TIED CARD OF 'convoykeep.Round'. -/
def roundCard : Claim7 := { stood := { row := roundRow, standIns := [], harness := (true, "bbc8f74c8b4a25b82c2e136c8d7f762d22a93d23c7f01d67affcad7e072265ed"), looks := true }, kinds := [], alts := [], laidByText := true, laidKinds := [.data, .data, .data, .data, .data, .pinned], laidTests := true, laidLooks := .later }
def RoundCardSaid : Prop := Claim7.holds Tryz.pinned (.plain (OpenSpec.ofChange roundSpec)) roundCard

/-- THE SECOND FORM's CARD OF 'convoylaw.Plans'. -/
def plansUptoCard : Claim7 := { stood := { row := plansUptoRow, standIns := [], harness := (true, "bbc8f74c8b4a25b82c2e136c8d7f762d22a93d23c7f01d67affcad7e072265ed"), looks := true }, kinds := [], alts := [], laidByText := true, laidKinds := [.data, .data, .data, .data, .pinned], laidTests := true, laidLooks := .later }
def PlansUptoCardSaid : Prop := Claim7.holds Tryz.pinned (.plain (OpenSpec.upto plansSpec)) plansUptoCard

/-- THE SECOND FORM's CARD OF 'convoykeep.Reaches'. -/
def reachesUptoCard : Claim7 := { stood := { row := reachesUptoRow, standIns := [], harness := (true, "bbc8f74c8b4a25b82c2e136c8d7f762d22a93d23c7f01d67affcad7e072265ed"), looks := true }, kinds := [], alts := [], laidByText := true, laidKinds := [.data, .data, .data, .data, .data, .pinned], laidTests := true, laidLooks := .later }
def ReachesUptoCardSaid : Prop := Claim7.holds Tryz.pinned (.plain (OpenSpec.upto reachesSpec)) reachesUptoCard

/-- THE SECOND FORM's CARD OF 'convoykeep.Spares'. -/
def sparesUptoCard : Claim7 := { stood := { row := sparesUptoRow, standIns := [], harness := (true, "bbc8f74c8b4a25b82c2e136c8d7f762d22a93d23c7f01d67affcad7e072265ed"), looks := true }, kinds := [], alts := [], laidByText := true, laidKinds := [.data, .data, .data, .data, .data, .pinned], laidTests := true, laidLooks := .later }
def SparesUptoCardSaid : Prop := Claim7.holds Tryz.pinned (.plain (OpenSpec.upto sparesSpec)) sparesUptoCard

/-- THE SECOND FORM's CARD OF 'convoykeep.Round'. -/
def roundUptoCard : Claim7 := { stood := { row := roundUptoRow, standIns := [], harness := (true, "bbc8f74c8b4a25b82c2e136c8d7f762d22a93d23c7f01d67affcad7e072265ed"), looks := true }, kinds := [], alts := [], laidByText := true, laidKinds := [.data, .data, .data, .data, .data, .pinned], laidTests := true, laidLooks := .later }
def RoundUptoCardSaid : Prop := Claim7.holds Tryz.pinned (.plain (OpenSpec.upto roundSpec)) roundUptoCard
end Rows
end Go.Proofs.YtpjjagalekolaaaGreatDoor
