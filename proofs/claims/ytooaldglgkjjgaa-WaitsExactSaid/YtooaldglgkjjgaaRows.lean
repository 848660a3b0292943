/-
  No cell of these rows narrows 'for every input' (looked for: loops, veiled, ifaces, maps, wideKeys, modest, calm, conditions, laid).
  DERIVED. THE GIVEN ROWS OF THIS SEAT. 3 by the template 'for every input the law returns true; each argument reads behind the call as it read before'; 0 by the template 'total and deterministic' (their statements: YtooaldglgkjjgaaTotals.lean).
  GIVEN WITH THE SEED: the statements are not yours to turn. If you find one false, say at which input.
  Laid BY PROGRAM, IN A SANDBOX (cutbox-rows.mjs): the forced cells as the released guide's own fill.sh prints them over the translation da62c2cd2f763142… (all of the seat's roots in one cut). By AI agents, Wed Nov 11 2026. No macro, syntax, notation, axiom, sorry.
-/
import Derived.Test.YtooaldglgkjjgaaChecked
import GoSem.Claim
import GoSem.ClaimJoined
import GoSem.ClaimMapViews
import Derived.JoinedTies
import Derived.KernelRfl
namespace Go.Proofs.Ytooaldglgkjjgaa
/- THE CELL 'sum', in the pinned program and in every row, IS THE sha256 OF THE DUMP (.gsa) THAT YtooaldglgkjjgaaProg.lean LOADS. Nothing in Lean hashes anything: it is a label: what it is worth is what the hold of that sum in a sandbox is worth. -/
noncomputable def Try.pinned : Pinned := { name := "ytooaldglgkjjgaa", sum := "da62c2cd2f763142c3f4f49d297e20ebc805059df6c7ce424163d3353bcf0835", checked := Try.checked }
namespace Rows
def none {H : Type} : Left H := { results := [], args := [] }

/-- 'pagemendlaw09.WaitsExact': WHATEVER THE INPUT: true; the input reads as it did. -/
def waitsExactSpec : ChangeSpec := { name := "waitsExact", fn := fun _ => fun
  | [d1, d2, d3, d4] => { results := [.lit (.bool true)], args := [d1, d2, d3, d4] }
  | _ => none }
def waitsExactRow : OpenClaim := { program := "ytooaldglgkjjgaa", sum := "da62c2cd2f763142c3f4f49d297e20ebc805059df6c7ce424163d3353bcf0835", func := "pagemend/pagemendlaw09.WaitsExact", spec := "waitsExact", inPlace := ["slices.overlaps[pagemend/api.Grant]"], unfollowed := true, recurses := true, apart := false }
def WaitsExactSaid : Prop := waitsExactRow.holds Try.pinned (OpenSpec.ofChange waitsExactSpec)

/-- ITS FALSE NEIGHBOUR: 'it returns false'. Refute it at one input. -/
def waitsExactWrong : ChangeSpec := { name := "waitsExact", fn := fun _ => fun
  | [d1, d2, d3, d4] => { results := [.lit (.bool false)], args := [d1, d2, d3, d4] }
  | _ => none }
def WaitsExactWrongFalsely : Prop := waitsExactRow.holds Try.pinned (OpenSpec.ofChange waitsExactWrong)

/-- 'pagemendlaw09.WaitsRings': WHATEVER THE INPUT: true; the input reads as it did. -/
def waitsRingsSpec : ChangeSpec := { name := "waitsRings", fn := fun _ => fun
  | [d1, d2, d3] => { results := [.lit (.bool true)], args := [d1, d2, d3] }
  | _ => none }
def waitsRingsRow : OpenClaim := { program := "ytooaldglgkjjgaa", sum := "da62c2cd2f763142c3f4f49d297e20ebc805059df6c7ce424163d3353bcf0835", func := "pagemend/pagemendlaw09.WaitsRings", spec := "waitsRings", inPlace := ["slices.overlaps[pagemend/api.Grant]"], unfollowed := true, recurses := true, apart := false }
def WaitsRingsSaid : Prop := waitsRingsRow.holds Try.pinned (OpenSpec.ofChange waitsRingsSpec)

/-- ITS FALSE NEIGHBOUR: 'it returns false'. Refute it at one input. -/
def waitsRingsWrong : ChangeSpec := { name := "waitsRings", fn := fun _ => fun
  | [d1, d2, d3] => { results := [.lit (.bool false)], args := [d1, d2, d3] }
  | _ => none }
def WaitsRingsWrongFalsely : Prop := waitsRingsRow.holds Try.pinned (OpenSpec.ofChange waitsRingsWrong)

/-- 'pagemendlaw09.WaitsArise': WHATEVER THE INPUT: true; the input reads as it did. -/
def waitsAriseSpec : ChangeSpec := { name := "waitsArise", fn := fun _ => fun
  | [d] => { results := [.lit (.bool true)], args := [d] }
  | _ => none }
def waitsAriseRow : OpenClaim := { program := "ytooaldglgkjjgaa", sum := "da62c2cd2f763142c3f4f49d297e20ebc805059df6c7ce424163d3353bcf0835", func := "pagemend/pagemendlaw09.WaitsArise", spec := "waitsArise", inPlace := ["slices.overlaps[pagemend/api.Grant]"], unfollowed := true, recurses := true, apart := false }
def WaitsAriseSaid : Prop := waitsAriseRow.holds Try.pinned (OpenSpec.ofChange waitsAriseSpec)

/-- ITS FALSE NEIGHBOUR: 'it returns false'. Refute it at one input. -/
def waitsAriseWrong : ChangeSpec := { name := "waitsArise", fn := fun _ => fun
  | [d] => { results := [.lit (.bool false)], args := [d] }
  | _ => none }
def WaitsAriseWrongFalsely : Prop := waitsAriseRow.holds Try.pinned (OpenSpec.ofChange waitsAriseWrong)

/- THE SECOND FORM. 'bulk': how many values and letters a reading holds, each counted each time it is reached (what is shared counts as often as it is met; a slice's spare places count too). A statement '..UptoSaid' is the law's where the arguments, and the package variables that the reading takes, are together of bulk at most 1048576: NARROWER than '..Said'. Prove '..Said' where nothing that the law and all that it calls make is longer than what came in: it says more and counts as full. Else prove '..UptoSaid'. A law counts once. -/
mutual
def uptoBulk {H : Type} : DataW H → Nat
  | .lit (.string bytes) => bytes.length + 1
  | .lit _ => 1
  | .nil => 1
  | .ptr d => uptoBulk d + 1
  | .slice elems spare => uptoBulkAll elems + uptoBulkAll spare + 1
  | .agg parts => uptoBulkAll parts + 1
  | .iface _ d => uptoBulk d + 1
  | .map entries => uptoBulkEntries entries + 1
  | .held _ => 1
def uptoBulkAll {H : Type} : List (DataW H) → Nat
  | [] => 0
  | d :: r => uptoBulk d + uptoBulkAll r
def uptoBulkEntries {H : Type} : List (Lit × DataW H) → Nat
  | [] => 0
  | x :: r => uptoBulkEntry x + uptoBulkEntries r
def uptoBulkEntry {H : Type} : Lit × DataW H → Nat
  | (.string bytes, d) => bytes.length + uptoBulk d + 1
  | (_, d) => uptoBulk d + 1
 end
def uptoSmall : (H : Type) → List (DataW H) → Bool := fun _ ds => decide (uptoBulkAll ds ≤ 1048576)
def OpenSpec.upto (s : _root_.Go.ChangeSpec) : _root_.Go.OpenSpec := { _root_.Go.OpenSpec.ofChange s with cond := some uptoSmall }

/-- 'pagemendlaw09.WaitsExact', WHERE WHAT IT READS IS OF BULK AT MOST 1048576: true; the input reads as it did. -/
def waitsExactUptoRow : OpenClaim := { program := "ytooaldglgkjjgaa", sum := "da62c2cd2f763142c3f4f49d297e20ebc805059df6c7ce424163d3353bcf0835", func := "pagemend/pagemendlaw09.WaitsExact", spec := "waitsExact", inPlace := ["slices.overlaps[pagemend/api.Grant]"], unfollowed := true, recurses := true, apart := false, narrowed := true }
def WaitsExactUptoSaid : Prop := waitsExactUptoRow.holds Try.pinned (OpenSpec.upto waitsExactSpec)

/-- 'pagemendlaw09.WaitsRings', WHERE WHAT IT READS IS OF BULK AT MOST 1048576: true; the input reads as it did. -/
def waitsRingsUptoRow : OpenClaim := { program := "ytooaldglgkjjgaa", sum := "da62c2cd2f763142c3f4f49d297e20ebc805059df6c7ce424163d3353bcf0835", func := "pagemend/pagemendlaw09.WaitsRings", spec := "waitsRings", inPlace := ["slices.overlaps[pagemend/api.Grant]"], unfollowed := true, recurses := true, apart := false, narrowed := true }
def WaitsRingsUptoSaid : Prop := waitsRingsUptoRow.holds Try.pinned (OpenSpec.upto waitsRingsSpec)

/-- 'pagemendlaw09.WaitsArise', WHERE WHAT IT READS IS OF BULK AT MOST 1048576: true; the input reads as it did. -/
def waitsAriseUptoRow : OpenClaim := { program := "ytooaldglgkjjgaa", sum := "da62c2cd2f763142c3f4f49d297e20ebc805059df6c7ce424163d3353bcf0835", func := "pagemend/pagemendlaw09.WaitsArise", spec := "waitsArise", inPlace := ["slices.overlaps[pagemend/api.Grant]"], unfollowed := true, recurses := true, apart := false, narrowed := true }
def WaitsAriseUptoSaid : Prop := waitsAriseUptoRow.holds Try.pinned (OpenSpec.upto waitsAriseSpec)

end Rows
end Go.Proofs.Ytooaldglgkjjgaa
