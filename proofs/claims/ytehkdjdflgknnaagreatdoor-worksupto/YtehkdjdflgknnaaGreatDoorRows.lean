/-
  NARROWER THAN 'FOR EVERY INPUT', by the rows' own cells (each row's printed sentence says how): Tries: laid · Does: laid · Works: laid.
  DERIVED. THE GIVEN ROWS OF THIS SEAT. 3 by the template 'for every input the law returns true; each argument reads behind the call as it read before'; 0 by the template 'total and deterministic' (their statements: YtehkdjdflgknnaaGreatDoorTotals.lean).
  GIVEN WITH THE SEED: the statements are not yours to turn. If you find one false, say at which input.
  Laid BY PROGRAM, IN A SANDBOX (cutbox-rows.mjs): the forced cells as the released guide's own fill.sh prints them over the translation 7a3fed0b9956d985… (all of the seat's roots in one cut). By AI agents, Wed Nov 11 2026. No macro, syntax, notation, axiom, sorry.
-/
import Derived.Test.YtehkdjdflgknnaaGreatDoorChecked
import GoSem.PinnedTables
import GoSem.Claim
import GoSem.ClaimJoined
import GoSem.ClaimMapViews
import Derived.JoinedTies
import Derived.KernelRfl
namespace Go.Proofs.YtehkdjdflgknnaaGreatDoor
/- THE CELL 'sum', in the pinned program and in every row, IS THE sha256 OF THE DUMP (.gsa) THAT YtehkdjdflgknnaaGreatDoorProg.lean LOADS. Nothing in Lean hashes anything: it is a label: what it is worth is what the hold of that sum in a sandbox is worth. -/
noncomputable def Tryz.pinned : Pinned := { name := "ytehkdjdflgknnaagreatdoor", sum := "7a3fed0b9956d985706655d164edd4cb9f113fe8bc896d60144792dedfbe1212", checked := Tryz.checked }
namespace Rows
def none {H : Type} : Left H := { results := [], args := [] }

/- WHAT THE LISTED PACKAGE-LEVEL VARIABLES READ AS WHEN THE CALL BEGINS. Each datum BY PROGRAM (the guide's laid-datum.mjs) off the statement by which the dump's own 'gosem.cut.vars' lays the variable. In a bare row this is a premise. The card (YtehkdjdflgknnaaGreatDoorCards.lean) ties it to the program's text. -/
def laid_unicode_utf8_acceptRanges {H : Type} : DataW H := .agg [.agg [.lit (.int .u8 128), .lit (.int .u8 191)], .agg [.lit (.int .u8 160), .lit (.int .u8 191)], .agg [.lit (.int .u8 128), .lit (.int .u8 159)], .agg [.lit (.int .u8 144), .lit (.int .u8 191)], .agg [.lit (.int .u8 128), .lit (.int .u8 143)], .agg [.lit (.int .u8 0), .lit (.int .u8 0)], .agg [.lit (.int .u8 0), .lit (.int .u8 0)], .agg [.lit (.int .u8 0), .lit (.int .u8 0)], .agg [.lit (.int .u8 0), .lit (.int .u8 0)], .agg [.lit (.int .u8 0), .lit (.int .u8 0)], .agg [.lit (.int .u8 0), .lit (.int .u8 0)], .agg [.lit (.int .u8 0), .lit (.int .u8 0)], .agg [.lit (.int .u8 0), .lit (.int .u8 0)], .agg [.lit (.int .u8 0), .lit (.int .u8 0)], .agg [.lit (.int .u8 0), .lit (.int .u8 0)], .agg [.lit (.int .u8 0), .lit (.int .u8 0)]]
def laid_convoy_scripts_needs {H : Type} : DataW H := .agg [.agg [.lit (.string []), .lit (.bool false), .lit (.bool false), .lit (.bool false), .lit (.bool false)], .agg [.lit (.string [109, 107, 100, 105, 114]), .lit (.bool false), .lit (.bool false), .lit (.bool false), .lit (.bool true)], .agg [.lit (.string [114, 109, 100, 105, 114]), .lit (.bool true), .lit (.bool false), .lit (.bool false), .lit (.bool false)], .agg [.lit (.string [117, 110, 108, 105, 110, 107]), .lit (.bool true), .lit (.bool false), .lit (.bool false), .lit (.bool false)], .agg [.lit (.string [119, 114, 105, 116, 101]), .lit (.bool true), .lit (.bool false), .lit (.bool true), .lit (.bool true)], .agg [.lit (.string [99, 111, 112, 121]), .lit (.bool true), .lit (.bool true), .lit (.bool false), .lit (.bool true)], .agg [.lit (.string [114, 101, 110, 97, 109, 101]), .lit (.bool true), .lit (.bool true), .lit (.bool false), .lit (.bool false)], .agg [.lit (.string [99, 104, 109, 111, 100]), .lit (.bool true), .lit (.bool false), .lit (.bool false), .lit (.bool true)]]
/-- One of Go's own tables, pinned by name: the form's constant. -/
def laid_unicode_utf8_first : DataW Unit := Go.Pinned.utf8First

/-- 'convoylaw.Tries': WHATEVER THE INPUT: true; the input reads as it did. -/
def triesSpec : ChangeSpec := { name := "tries", fn := fun _ => fun
  | [d1, d2, d3] => { results := [.lit (.bool true)], args := [d1, d2, d3] }
  | _ => none }
def triesRow : OpenClaim := { program := "ytehkdjdflgknnaagreatdoor", sum := "7a3fed0b9956d985706655d164edd4cb9f113fe8bc896d60144792dedfbe1212", func := "convoy/convoylaw.Tries", spec := "tries", inPlace := ["internal/bytealg.IndexByteString", "internal/bytealg.IndexString"], unfollowed := true, recurses := true, named := ["unicode/utf8.first", "unicode/utf8.acceptRanges", "internal/bytealg.MaxLen", "convoy/scripts.needs"], apart := false, laid := [("unicode/utf8.acceptRanges", laid_unicode_utf8_acceptRanges), ("convoy/scripts.needs", laid_convoy_scripts_needs), ("unicode/utf8.first", laid_unicode_utf8_first)] }
def TriesSaid : Prop := triesRow.holds Tryz.pinned (OpenSpec.ofChange triesSpec)

/-- ITS FALSE NEIGHBOUR: 'it returns false'. Refute it at one input. -/
def triesWrong : ChangeSpec := { name := "tries", fn := fun _ => fun
  | [d1, d2, d3] => { results := [.lit (.bool false)], args := [d1, d2, d3] }
  | _ => none }
def TriesWrongFalsely : Prop := triesRow.holds Tryz.pinned (OpenSpec.ofChange triesWrong)

/-- 'convoylaw.Does': WHATEVER THE INPUT: true; the input reads as it did. -/
def doesSpec : ChangeSpec := { name := "does", fn := fun _ => fun
  | [d1, d2] => { results := [.lit (.bool true)], args := [d1, d2] }
  | _ => none }
def doesRow : OpenClaim := { program := "ytehkdjdflgknnaagreatdoor", sum := "7a3fed0b9956d985706655d164edd4cb9f113fe8bc896d60144792dedfbe1212", func := "convoy/convoylaw.Does", spec := "does", inPlace := ["internal/bytealg.IndexByteString", "internal/bytealg.IndexString"], unfollowed := true, recurses := true, named := ["unicode/utf8.first", "unicode/utf8.acceptRanges", "internal/bytealg.MaxLen", "convoy/scripts.needs"], apart := false, laid := [("unicode/utf8.acceptRanges", laid_unicode_utf8_acceptRanges), ("convoy/scripts.needs", laid_convoy_scripts_needs), ("unicode/utf8.first", laid_unicode_utf8_first)] }
def DoesSaid : Prop := doesRow.holds Tryz.pinned (OpenSpec.ofChange doesSpec)

/-- ITS FALSE NEIGHBOUR: 'it returns false'. Refute it at one input. -/
def doesWrong : ChangeSpec := { name := "does", fn := fun _ => fun
  | [d1, d2] => { results := [.lit (.bool false)], args := [d1, d2] }
  | _ => none }
def DoesWrongFalsely : Prop := doesRow.holds Tryz.pinned (OpenSpec.ofChange doesWrong)

/-- 'convoylaw.Works': WHATEVER THE INPUT: true; the input reads as it did. -/
def worksSpec : ChangeSpec := { name := "works", fn := fun _ => fun
  | [d1, d2, d3, d4] => { results := [.lit (.bool true)], args := [d1, d2, d3, d4] }
  | _ => none }
def worksRow : OpenClaim := { program := "ytehkdjdflgknnaagreatdoor", sum := "7a3fed0b9956d985706655d164edd4cb9f113fe8bc896d60144792dedfbe1212", func := "convoy/convoylaw.Works", spec := "works", inPlace := ["internal/bytealg.IndexByteString", "internal/bytealg.IndexString"], unfollowed := true, recurses := true, named := ["unicode/utf8.first", "unicode/utf8.acceptRanges", "internal/bytealg.MaxLen", "convoy/scripts.needs"], apart := false, laid := [("unicode/utf8.acceptRanges", laid_unicode_utf8_acceptRanges), ("convoy/scripts.needs", laid_convoy_scripts_needs), ("unicode/utf8.first", laid_unicode_utf8_first)] }
def WorksSaid : Prop := worksRow.holds Tryz.pinned (OpenSpec.ofChange worksSpec)

/-- ITS FALSE NEIGHBOUR: 'it returns false'. Refute it at one input. -/
def worksWrong : ChangeSpec := { name := "works", fn := fun _ => fun
  | [d1, d2, d3, d4] => { results := [.lit (.bool false)], args := [d1, d2, d3, d4] }
  | _ => none }
def WorksWrongFalsely : Prop := worksRow.holds Tryz.pinned (OpenSpec.ofChange worksWrong)

/- THE SECOND FORM. 'bulk': how many values and letters a reading holds, each counted each time it is reached (what is shared counts as often as it is met; a slice's spare places count too). A statement '..UptoSaid' is the law's where the arguments, and the package variables that the reading takes, are together of bulk at most 1048576: NARROWER than '..Said'. Prove '..Said' where nothing that the law and all that it calls make is longer than what came in: it says more and counts as full. Else prove '..UptoSaid'. A law counts once. -/
mutual
def uptoBulk {H : Type} : DataW H → Nat
  | .lit (.string bytes) => bytes.length + 1
  | .lit _ => 1
  | .nil => 1
  | .ptr d => uptoBulk d + 1
  | .slice elems spare => uptoBulkAll elems + uptoBulkAll spare + 1
  | .agg parts => uptoBulkAll parts + 1
  | .iface _ d => uptoBulk d + 1
  | .map entries => uptoBulkEntries entries + 1
  | .held _ => 1
def uptoBulkAll {H : Type} : List (DataW H) → Nat
  | [] => 0
  | d :: r => uptoBulk d + uptoBulkAll r
def uptoBulkEntries {H : Type} : List (Lit × DataW H) → Nat
  | [] => 0
  | x :: r => uptoBulkEntry x + uptoBulkEntries r
def uptoBulkEntry {H : Type} : Lit × DataW H → Nat
  | (.string bytes, d) => bytes.length + uptoBulk d + 1
  | (_, d) => uptoBulk d + 1
 end
def uptoSmall : (H : Type) → List (DataW H) → Bool := fun _ ds => decide (uptoBulkAll ds ≤ 1048576)
def OpenSpec.upto (s : _root_.Go.ChangeSpec) : _root_.Go.OpenSpec := { _root_.Go.OpenSpec.ofChange s with cond := some uptoSmall }

/-- 'convoylaw.Tries', WHERE WHAT IT READS IS OF BULK AT MOST 1048576: true; the input reads as it did. -/
def triesUptoRow : OpenClaim := { program := "ytehkdjdflgknnaagreatdoor", sum := "7a3fed0b9956d985706655d164edd4cb9f113fe8bc896d60144792dedfbe1212", func := "convoy/convoylaw.Tries", spec := "tries", inPlace := ["internal/bytealg.IndexByteString", "internal/bytealg.IndexString"], unfollowed := true, recurses := true, named := ["unicode/utf8.first", "unicode/utf8.acceptRanges", "internal/bytealg.MaxLen", "convoy/scripts.needs"], apart := false, laid := [("unicode/utf8.acceptRanges", laid_unicode_utf8_acceptRanges), ("convoy/scripts.needs", laid_convoy_scripts_needs), ("unicode/utf8.first", laid_unicode_utf8_first)], narrowed := true }
def TriesUptoSaid : Prop := triesUptoRow.holds Tryz.pinned (OpenSpec.upto triesSpec)

/-- 'convoylaw.Does', WHERE WHAT IT READS IS OF BULK AT MOST 1048576: true; the input reads as it did. -/
def doesUptoRow : OpenClaim := { program := "ytehkdjdflgknnaagreatdoor", sum := "7a3fed0b9956d985706655d164edd4cb9f113fe8bc896d60144792dedfbe1212", func := "convoy/convoylaw.Does", spec := "does", inPlace := ["internal/bytealg.IndexByteString", "internal/bytealg.IndexString"], unfollowed := true, recurses := true, named := ["unicode/utf8.first", "unicode/utf8.acceptRanges", "internal/bytealg.MaxLen", "convoy/scripts.needs"], apart := false, laid := [("unicode/utf8.acceptRanges", laid_unicode_utf8_acceptRanges), ("convoy/scripts.needs", laid_convoy_scripts_needs), ("unicode/utf8.first", laid_unicode_utf8_first)], narrowed := true }
def DoesUptoSaid : Prop := doesUptoRow.holds Tryz.pinned (OpenSpec.upto doesSpec)

/-- 'convoylaw.Works', WHERE WHAT IT READS IS OF BULK AT MOST 1048576: true; the input reads as it did. -/
def worksUptoRow : OpenClaim := { program := "ytehkdjdflgknnaagreatdoor", sum := "7a3fed0b9956d985706655d164edd4cb9f113fe8bc896d60144792dedfbe1212", func := "convoy/convoylaw.Works", spec := "works", inPlace := ["internal/bytealg.IndexByteString", "internal/bytealg.IndexString"], unfollowed := true, recurses := true, named := ["unicode/utf8.first", "unicode/utf8.acceptRanges", "internal/bytealg.MaxLen", "convoy/scripts.needs"], apart := false, laid := [("unicode/utf8.acceptRanges", laid_unicode_utf8_acceptRanges), ("convoy/scripts.needs", laid_convoy_scripts_needs), ("unicode/utf8.first", laid_unicode_utf8_first)], narrowed := true }
def WorksUptoSaid : Prop := worksUptoRow.holds Tryz.pinned (OpenSpec.upto worksSpec)

end Rows
end Go.Proofs.YtehkdjdflgknnaaGreatDoor
