/-
  DERIVED. GIVEN WITH THE SEED: THE CARDS: each row of YtemkpollilhmjaaGreatDoorRows.lean that lists a variable, with what it lists TIED to the program's text (the seventh form; the later family's looks); each row that meets fmt, with fmt's text TOLD by the authors' own Lean function (tested against real Go, not proved from fmt's source: count such statements apart). THE CARD IS WHAT COUNTS. Prove the row's statement (the work); the ties are given (YtemkpollilhmjaaGreatDoorTie.lean); close each card by the builder's one call (the guide's Derived/Test/ToyasCard.lean, 'card_holds'). Laid BY PROGRAM, IN A SANDBOX (cutbox-door.mjs). By AI agents, Wed Nov 11 2026. No macro, syntax, notation, axiom, sorry.
-/
import Derived.Test.YtemkpollilhmjaaGreatDoorRows
import GoSem.ClaimSeven
namespace Go.Proofs.YtemkpollilhmjaaGreatDoor
namespace Rows

/-- THE TIED CARD OF 'convoykeep.Resumes'. -/
def resumesCard : Claim7 := { stood := { row := resumesRow, standIns := [], harness := (true, "5e88288ee39d8014ef12801e090e722fa78401c00ee394e7db5d3841733818a2"), looks := true }, kinds := [], alts := [], laidByText := true, laidKinds := [.data, .data, .data, .data, .data, .pinned], laidTests := true, laidLooks := .later }
def ResumesCardSaid : Prop := Claim7.holds Tryz.pinned (.plain (OpenSpec.ofChange resumesSpec)) resumesCard

/-- THE TIED CARD OF 'convoykeep.Mends'. -/
def mendsCard : Claim7 := { stood := { row := mendsRow, standIns := [], harness := (true, "5e88288ee39d8014ef12801e090e722fa78401c00ee394e7db5d3841733818a2"), looks := true }, kinds := [], alts := [], laidByText := true, laidKinds := [.data, .data, .data, .data, .data, .pinned], laidTests := true, laidLooks := .later }
def MendsCardSaid : Prop := Claim7.holds Tryz.pinned (.plain (OpenSpec.ofChange mendsSpec)) mendsCard

/-- THE TIED CARD OF 'convoykeep.Mirror'. -/
def mirrorCard : Claim7 := { stood := { row := mirrorRow, standIns := [], harness := (true, "5e88288ee39d8014ef12801e090e722fa78401c00ee394e7db5d3841733818a2"), looks := true }, kinds := [], alts := [], laidByText := true, laidKinds := [.data, .data, .data, .data, .data, .pinned], laidTests := true, laidLooks := .later }
def MirrorCardSaid : Prop := Claim7.holds Tryz.pinned (.plain (OpenSpec.ofChange mirrorSpec)) mirrorCard

/-- THE TIED CARD OF 'convoykeep.Apart'. -/
def apartCard : Claim7 := { stood := { row := apartRow, standIns := [], harness := (true, "5e88288ee39d8014ef12801e090e722fa78401c00ee394e7db5d3841733818a2"), looks := true }, kinds := [], alts := [], laidByText := true, laidKinds := [.data, .data, .data, .data, .data, .pinned], laidTests := true, laidLooks := .later }
def ApartCardSaid : Prop := Claim7.holds Tryz.pinned (.plain (OpenSpec.ofChange apartSpec)) apartCard

/-- THE SECOND FORM's CARD OF 'convoykeep.Resumes'. -/
def resumesUptoCard : Claim7 := { stood := { row := resumesUptoRow, standIns := [], harness := (true, "5e88288ee39d8014ef12801e090e722fa78401c00ee394e7db5d3841733818a2"), looks := true }, kinds := [], alts := [], laidByText := true, laidKinds := [.data, .data, .data, .data, .data, .pinned], laidTests := true, laidLooks := .later }
def ResumesUptoCardSaid : Prop := Claim7.holds Tryz.pinned (.plain (OpenSpec.upto resumesSpec)) resumesUptoCard

/-- THE SECOND FORM's CARD OF 'convoykeep.Mends'. -/
def mendsUptoCard : Claim7 := { stood := { row := mendsUptoRow, standIns := [], harness := (true, "5e88288ee39d8014ef12801e090e722fa78401c00ee394e7db5d3841733818a2"), looks := true }, kinds := [], alts := [], laidByText := true, laidKinds := [.data, .data, .data, .data, .data, .pinned], laidTests := true, laidLooks := .later }
def MendsUptoCardSaid : Prop := Claim7.holds Tryz.pinned (.plain (OpenSpec.upto mendsSpec)) mendsUptoCard

/-- THE SECOND FORM's CARD OF 'convoykeep.Mirror'. -/
def mirrorUptoCard : Claim7 := { stood := { row := mirrorUptoRow, standIns := [], harness := (true, "5e88288ee39d8014ef12801e090e722fa78401c00ee394e7db5d3841733818a2"), looks := true }, kinds := [], alts := [], laidByText := true, laidKinds := [.data, .data, .data, .data, .data, .pinned], laidTests := true, laidLooks := .later }
def MirrorUptoCardSaid : Prop := Claim7.holds Tryz.pinned (.plain (OpenSpec.upto mirrorSpec)) mirrorUptoCard

/-- THE SECOND FORM's CARD OF 'convoykeep.Apart'. -/
def apartUptoCard : Claim7 := { stood := { row := apartUptoRow, standIns := [], harness := (true, "5e88288ee39d8014ef12801e090e722fa78401c00ee394e7db5d3841733818a2"), looks := true }, kinds := [], alts := [], laidByText := true, laidKinds := [.data, .data, .data, .data, .data, .pinned], laidTests := true, laidLooks := .later }
def ApartUptoCardSaid : Prop := Claim7.holds Tryz.pinned (.plain (OpenSpec.upto apartSpec)) apartUptoCard
end Rows
end Go.Proofs.YtemkpollilhmjaaGreatDoor
