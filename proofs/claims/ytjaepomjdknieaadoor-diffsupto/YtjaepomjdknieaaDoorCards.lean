/-
  DERIVED. GIVEN WITH THE SEED: THE CARDS: each row of YtjaepomjdknieaaDoorRows.lean that lists a variable, with what it lists TIED to the program's text (the seventh form; the later family's looks); each row that meets fmt, with fmt's text TOLD by the authors' own Lean function (tested against real Go, not proved from fmt's source: count such statements apart). THE CARD IS WHAT COUNTS. Prove the row's statement (the work); the ties are given (YtjaepomjdknieaaDoorTie.lean); close each card by the builder's one call (the guide's Derived/Test/ToyasCard.lean, 'card_holds'). Laid BY PROGRAM, IN A SANDBOX (cutbox-door.mjs). By AI agents, Wed Nov 11 2026. No macro, syntax, notation, axiom, sorry.
-/
import Derived.Test.YtjaepomjdknieaaDoorRows
import GoSem.ClaimSeven
namespace Go.Proofs.YtjaepomjdknieaaDoor
namespace Rows

/-- THE TIED CARD OF 'convoylaw.Checks'. -/
def checksCard : Claim7 := { stood := { row := checksRow, standIns := [], harness := (true, "c298a91591840bd47a027681ab8bcb199cdc5ca9370f99ddc23dd2a281fdbe23"), looks := true }, kinds := [], alts := [], laidByText := true, laidKinds := [.data, .pinned], laidTests := true, laidLooks := .later }
def ChecksCardSaid : Prop := Claim7.holds Tryd.pinned (.plain (OpenSpec.ofChange checksSpec)) checksCard

/-- THE TIED CARD OF 'convoylaw.Diffs'. -/
def diffsCard : Claim7 := { stood := { row := diffsRow, standIns := [], harness := (true, "c298a91591840bd47a027681ab8bcb199cdc5ca9370f99ddc23dd2a281fdbe23"), looks := true }, kinds := [], alts := [], laidByText := true, laidKinds := [.data, .pinned], laidTests := true, laidLooks := .later }
def DiffsCardSaid : Prop := Claim7.holds Tryd.pinned (.plain (OpenSpec.ofChange diffsSpec)) diffsCard

/-- THE TIED CARD OF 'convoylaw.Writes'. -/
def writesCard : Claim7 := { stood := { row := writesRow, standIns := [], harness := (true, "c298a91591840bd47a027681ab8bcb199cdc5ca9370f99ddc23dd2a281fdbe23"), looks := true }, kinds := [], alts := [], laidByText := true, laidKinds := [.data, .data, .data, .data, .data, .pinned], laidTests := true, laidLooks := .later }
def WritesCardSaid : Prop := Claim7.holds Tryd.pinned (.plain (OpenSpec.ofChange writesSpec)) writesCard

/-- THE TIED CARD OF 'convoylaw.Reads'. -/
def readsCard : Claim7 := { stood := { row := readsRow, standIns := [], harness := (true, "c298a91591840bd47a027681ab8bcb199cdc5ca9370f99ddc23dd2a281fdbe23"), looks := true }, kinds := [], alts := [], laidByText := true, laidKinds := [.data], laidTests := true, laidLooks := .later }
def ReadsCardSaid : Prop := Claim7.holds Tryd.pinned (.plain (OpenSpec.ofChange readsSpec)) readsCard

/-- THE SECOND FORM's CARD OF 'convoylaw.Checks'. -/
def checksUptoCard : Claim7 := { stood := { row := checksUptoRow, standIns := [], harness := (true, "c298a91591840bd47a027681ab8bcb199cdc5ca9370f99ddc23dd2a281fdbe23"), looks := true }, kinds := [], alts := [], laidByText := true, laidKinds := [.data, .pinned], laidTests := true, laidLooks := .later }
def ChecksUptoCardSaid : Prop := Claim7.holds Tryd.pinned (.plain (OpenSpec.upto checksSpec)) checksUptoCard

/-- THE SECOND FORM's CARD OF 'convoylaw.Diffs'. -/
def diffsUptoCard : Claim7 := { stood := { row := diffsUptoRow, standIns := [], harness := (true, "c298a91591840bd47a027681ab8bcb199cdc5ca9370f99ddc23dd2a281fdbe23"), looks := true }, kinds := [], alts := [], laidByText := true, laidKinds := [.data, .pinned], laidTests := true, laidLooks := .later }
def DiffsUptoCardSaid : Prop := Claim7.holds Tryd.pinned (.plain (OpenSpec.upto diffsSpec)) diffsUptoCard

/-- THE SECOND FORM's CARD OF 'convoylaw.Writes'. -/
def writesUptoCard : Claim7 := { stood := { row := writesUptoRow, standIns := [], harness := (true, "c298a91591840bd47a027681ab8bcb199cdc5ca9370f99ddc23dd2a281fdbe23"), looks := true }, kinds := [], alts := [], laidByText := true, laidKinds := [.data, .data, .data, .data, .data, .pinned], laidTests := true, laidLooks := .later }
def WritesUptoCardSaid : Prop := Claim7.holds Tryd.pinned (.plain (OpenSpec.upto writesSpec)) writesUptoCard

/-- THE SECOND FORM's CARD OF 'convoylaw.Reads'. -/
def readsUptoCard : Claim7 := { stood := { row := readsUptoRow, standIns := [], harness := (true, "c298a91591840bd47a027681ab8bcb199cdc5ca9370f99ddc23dd2a281fdbe23"), looks := true }, kinds := [], alts := [], laidByText := true, laidKinds := [.data], laidTests := true, laidLooks := .later }
def ReadsUptoCardSaid : Prop := Claim7.holds Tryd.pinned (.plain (OpenSpec.upto readsSpec)) readsUptoCard
end Rows
end Go.Proofs.YtjaepomjdknieaaDoor
