/-
  DERIVED. GIVEN WITH THE SEED: THE CARDS: each row of YtpmfdpkcnldpiaaDoorRows.lean that lists a variable, with what it lists TIED to the program's text (the seventh form; the later family's looks); each row that meets fmt, with fmt's text TOLD by the authors' own Lean function (tested against real Go, not proved from fmt's source: count such statements apart). THE CARD IS WHAT COUNTS. Prove the row's statement (the work); the ties are given (YtpmfdpkcnldpiaaDoorTie.lean); close each card by the builder's one call (the guide's Derived/Test/ToyasCard.lean, 'card_holds'). Laid BY PROGRAM, IN A SANDBOX (cutbox-door.mjs). By AI agents, Wed Nov 11 2026. No macro, syntax, notation, axiom, sorry.
-/
import Derived.Test.YtpmfdpkcnldpiaaDoorRows
import GoSem.ClaimSeven
namespace Go.Proofs.YtpmfdpkcnldpiaaDoor
namespace Rows

/-- THE TIED CARD OF 'pagemendlaw06.JournalLimits'. -/
def journalLimitsCard : Claim7 := { stood := { row := journalLimitsRow, standIns := [], harness := (true, "f34bc6985b36cdf8e57dde1145a2c9e6ce2ba11212194c085cb0f20d5052edef"), looks := false }, kinds := [], alts := [], laidByText := true, laidKinds := [.data], laidTests := true, laidLooks := .later }
def JournalLimitsCardSaid : Prop := Claim7.holds Tryd.pinned (.plain (OpenSpec.ofChange journalLimitsSpec)) journalLimitsCard

/-- THE SECOND FORM's CARD OF 'pagemendlaw06.JournalLimits'. -/
def journalLimitsUptoCard : Claim7 := { stood := { row := journalLimitsUptoRow, standIns := [], harness := (true, "f34bc6985b36cdf8e57dde1145a2c9e6ce2ba11212194c085cb0f20d5052edef"), looks := false }, kinds := [], alts := [], laidByText := true, laidKinds := [.data], laidTests := true, laidLooks := .later }
def JournalLimitsUptoCardSaid : Prop := Claim7.holds Tryd.pinned (.plain (OpenSpec.upto journalLimitsSpec)) journalLimitsUptoCard
end Rows
end Go.Proofs.YtpmfdpkcnldpiaaDoor
