/-
  DERIVED. GIVEN WITH THE SEED: THE CARDS: each row of YtehkdjdflgknnaaGreatDoorRows.lean that lists a variable, with what it lists TIED to the program's text (the seventh form; the later family's looks); each row that meets fmt, with fmt's text TOLD by the authors' own Lean function (tested against real Go, not proved from fmt's source: count such statements apart). THE CARD IS WHAT COUNTS. Prove the row's statement (the work); the ties are given (YtehkdjdflgknnaaGreatDoorTie.lean); close each card by the builder's one call (the guide's Derived/Test/ToyasCard.lean, 'card_holds'). Laid BY PROGRAM, IN A SANDBOX (cutbox-door.mjs). By AI agents, Wed Nov 11 2026. No macro, syntax, notation, axiom, sorry.
-/
import Derived.Test.YtehkdjdflgknnaaGreatDoorRows
import GoSem.ClaimSeven
namespace Go.Proofs.YtehkdjdflgknnaaGreatDoor
namespace Rows

/-- THE TIED CARD OF 'convoylaw.Tries'. -/
def triesCard : Claim7 := { stood := { row := triesRow, standIns := [], harness := (true, "2785b03b91570877ee994168da5bb8b083ba17e960a268f41637bb1f133d027d"), looks := true }, kinds := [], alts := [], laidByText := true, laidKinds := [.data, .data, .pinned], laidTests := true, laidLooks := .later }
def TriesCardSaid : Prop := Claim7.holds Tryz.pinned (.plain (OpenSpec.ofChange triesSpec)) triesCard

/-- THE TIED CARD OF 'convoylaw.Does'. -/
def doesCard : Claim7 := { stood := { row := doesRow, standIns := [], harness := (true, "2785b03b91570877ee994168da5bb8b083ba17e960a268f41637bb1f133d027d"), looks := true }, kinds := [], alts := [], laidByText := true, laidKinds := [.data, .data, .pinned], laidTests := true, laidLooks := .later }
def DoesCardSaid : Prop := Claim7.holds Tryz.pinned (.plain (OpenSpec.ofChange doesSpec)) doesCard

/-- THE TIED CARD OF 'convoylaw.Works'. -/
def worksCard : Claim7 := { stood := { row := worksRow, standIns := [], harness := (true, "2785b03b91570877ee994168da5bb8b083ba17e960a268f41637bb1f133d027d"), looks := true }, kinds := [], alts := [], laidByText := true, laidKinds := [.data, .data, .pinned], laidTests := true, laidLooks := .later }
def WorksCardSaid : Prop := Claim7.holds Tryz.pinned (.plain (OpenSpec.ofChange worksSpec)) worksCard

/-- THE SECOND FORM's CARD OF 'convoylaw.Tries'. -/
def triesUptoCard : Claim7 := { stood := { row := triesUptoRow, standIns := [], harness := (true, "2785b03b91570877ee994168da5bb8b083ba17e960a268f41637bb1f133d027d"), looks := true }, kinds := [], alts := [], laidByText := true, laidKinds := [.data, .data, .pinned], laidTests := true, laidLooks := .later }
def TriesUptoCardSaid : Prop := Claim7.holds Tryz.pinned (.plain (OpenSpec.upto triesSpec)) triesUptoCard

/-- THE SECOND FORM's CARD OF 'convoylaw.Does'. -/
def doesUptoCard : Claim7 := { stood := { row := doesUptoRow, standIns := [], harness := (true, "2785b03b91570877ee994168da5bb8b083ba17e960a268f41637bb1f133d027d"), looks := true }, kinds := [], alts := [], laidByText := true, laidKinds := [.data, .data, .pinned], laidTests := true, laidLooks := .later }
def DoesUptoCardSaid : Prop := Claim7.holds Tryz.pinned (.plain (OpenSpec.upto doesSpec)) doesUptoCard

/-- THE SECOND FORM's CARD OF 'convoylaw.Works'. -/
def worksUptoCard : Claim7 := { stood := { row := worksUptoRow, standIns := [], harness := (true, "2785b03b91570877ee994168da5bb8b083ba17e960a268f41637bb1f133d027d"), looks := true }, kinds := [], alts := [], laidByText := true, laidKinds := [.data, .data, .pinned], laidTests := true, laidLooks := .later }
def WorksUptoCardSaid : Prop := Claim7.holds Tryz.pinned (.plain (OpenSpec.upto worksSpec)) worksUptoCard
end Rows
end Go.Proofs.YtehkdjdflgknnaaGreatDoor
