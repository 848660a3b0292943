/-
  NARROWER THAN 'FOR EVERY INPUT', by the rows' own cells (each row's printed sentence says how): PageEncodes: laid · PageDecodes: laid · PageForms: laid · PageReturns: laid · PageDamage: laid · PageTears: laid · PageInjective: laid.
  DERIVED. THE GIVEN ROWS OF THIS SEAT. 7 by the template 'for every input the law returns true; each argument reads behind the call as it read before'; 0 by the template 'total and deterministic' (their statements: YtoceglomogcgcaaDoorTotals.lean).
  GIVEN WITH THE SEED: the statements are not yours to turn. If you find one false, say at which input.
  Laid BY PROGRAM, IN A SANDBOX (cutbox-rows.mjs): the forced cells as the released guide's own fill.sh prints them over the translation 5f78e0f56ed47ca6… (all of the seat's roots in one cut). By AI agents, Wed Nov 11 2026. No macro, syntax, notation, axiom, sorry.
-/
import Derived.Test.YtoceglomogcgcaaDoorChecked
import GoSem.Claim
import GoSem.ClaimJoined
import GoSem.ClaimMapViews
import Derived.JoinedTies
import Derived.KernelRfl
namespace Go.Proofs.YtoceglomogcgcaaDoor
/- THE CELL 'sum', in the pinned program and in every row, IS THE sha256 OF THE DUMP (.gsa) THAT YtoceglomogcgcaaDoorProg.lean LOADS. Nothing in Lean hashes anything: it is a label: what it is worth is what the hold of that sum in a sandbox is worth. -/
noncomputable def Tryd.pinned : Pinned := { name := "ytoceglomogcgcaadoor", sum := "5f78e0f56ed47ca6bad8d407679fbb57d9aafb98590e7d921c071b7661e3a0ed", checked := Tryd.checked }
namespace Rows
def none {H : Type} : Left H := { results := [], args := [] }

/- WHAT THE LISTED PACKAGE-LEVEL VARIABLES READ AS WHEN THE CALL BEGINS. Each datum BY PROGRAM (the guide's laid-datum.mjs) off the statement by which the dump's own 'gosem.cut.vars' lays the variable. In a bare row this is a premise. The card (YtoceglomogcgcaaDoorCards.lean) ties it to the program's text. -/
def laid_pagemend_codec_remainders {H : Type} : DataW H := .agg [.lit (.int .u32 0), .lit (.int .u32 274646895), .lit (.int .u32 549293790), .lit (.int .u32 820201905), .lit (.int .u32 1098587580), .lit (.int .u32 1361435347), .lit (.int .u32 1640403810), .lit (.int .u32 1905808397), .lit (.int .u32 2197175160), .lit (.int .u32 2460548119), .lit (.int .u32 2722870694), .lit (.int .u32 2987750089), .lit (.int .u32 3280807620), .lit (.int .u32 3553878443), .lit (.int .u32 3811616794), .lit (.int .u32 4084100981)]

/-- 'pagemendlaw02.PageEncodes': WHATEVER THE INPUT: true; the input reads as it did. -/
def pageEncodesSpec : ChangeSpec := { name := "pageEncodes", fn := fun _ => fun
  | [d1, d2, d3] => { results := [.lit (.bool true)], args := [d1, d2, d3] }
  | _ => none }
def pageEncodesRow : OpenClaim := { program := "ytoceglomogcgcaadoor", sum := "5f78e0f56ed47ca6bad8d407679fbb57d9aafb98590e7d921c071b7661e3a0ed", func := "pagemend/pagemendlaw02.PageEncodes", spec := "pageEncodes", inPlace := ["internal/abi.NoEscape", "internal/bytealg.MakeNoZero"], unfollowed := true, recurses := true, named := ["pagemend/codec.remainders"], apart := false, laid := [("pagemend/codec.remainders", laid_pagemend_codec_remainders)] }
def PageEncodesSaid : Prop := pageEncodesRow.holds Tryd.pinned (OpenSpec.ofChange pageEncodesSpec)

/-- ITS FALSE NEIGHBOUR: 'it returns false'. Refute it at one input. -/
def pageEncodesWrong : ChangeSpec := { name := "pageEncodes", fn := fun _ => fun
  | [d1, d2, d3] => { results := [.lit (.bool false)], args := [d1, d2, d3] }
  | _ => none }
def PageEncodesWrongFalsely : Prop := pageEncodesRow.holds Tryd.pinned (OpenSpec.ofChange pageEncodesWrong)

/-- 'pagemendlaw02.PageDecodes': WHATEVER THE INPUT: true; the input reads as it did. -/
def pageDecodesSpec : ChangeSpec := { name := "pageDecodes", fn := fun _ => fun
  | [d1, d2, d3] => { results := [.lit (.bool true)], args := [d1, d2, d3] }
  | _ => none }
def pageDecodesRow : OpenClaim := { program := "ytoceglomogcgcaadoor", sum := "5f78e0f56ed47ca6bad8d407679fbb57d9aafb98590e7d921c071b7661e3a0ed", func := "pagemend/pagemendlaw02.PageDecodes", spec := "pageDecodes", inPlace := ["internal/abi.NoEscape", "internal/bytealg.MakeNoZero"], unfollowed := true, recurses := true, named := ["pagemend/codec.remainders"], apart := false, laid := [("pagemend/codec.remainders", laid_pagemend_codec_remainders)] }
def PageDecodesSaid : Prop := pageDecodesRow.holds Tryd.pinned (OpenSpec.ofChange pageDecodesSpec)

/-- ITS FALSE NEIGHBOUR: 'it returns false'. Refute it at one input. -/
def pageDecodesWrong : ChangeSpec := { name := "pageDecodes", fn := fun _ => fun
  | [d1, d2, d3] => { results := [.lit (.bool false)], args := [d1, d2, d3] }
  | _ => none }
def PageDecodesWrongFalsely : Prop := pageDecodesRow.holds Tryd.pinned (OpenSpec.ofChange pageDecodesWrong)

/-- 'pagemendlaw02.PageForms': WHATEVER THE INPUT: true; the input reads as it did. -/
def pageFormsSpec : ChangeSpec := { name := "pageForms", fn := fun _ => fun
  | [d] => { results := [.lit (.bool true)], args := [d] }
  | _ => none }
def pageFormsRow : OpenClaim := { program := "ytoceglomogcgcaadoor", sum := "5f78e0f56ed47ca6bad8d407679fbb57d9aafb98590e7d921c071b7661e3a0ed", func := "pagemend/pagemendlaw02.PageForms", spec := "pageForms", inPlace := ["internal/abi.NoEscape", "internal/bytealg.MakeNoZero"], unfollowed := true, recurses := true, named := ["pagemend/codec.remainders"], apart := false, laid := [("pagemend/codec.remainders", laid_pagemend_codec_remainders)] }
def PageFormsSaid : Prop := pageFormsRow.holds Tryd.pinned (OpenSpec.ofChange pageFormsSpec)

/-- ITS FALSE NEIGHBOUR: 'it returns false'. Refute it at one input. -/
def pageFormsWrong : ChangeSpec := { name := "pageForms", fn := fun _ => fun
  | [d] => { results := [.lit (.bool false)], args := [d] }
  | _ => none }
def PageFormsWrongFalsely : Prop := pageFormsRow.holds Tryd.pinned (OpenSpec.ofChange pageFormsWrong)

/-- 'pagemendlaw02.PageReturns': WHATEVER THE INPUT: true; the input reads as it did. -/
def pageReturnsSpec : ChangeSpec := { name := "pageReturns", fn := fun _ => fun
  | [d1, d2] => { results := [.lit (.bool true)], args := [d1, d2] }
  | _ => none }
def pageReturnsRow : OpenClaim := { program := "ytoceglomogcgcaadoor", sum := "5f78e0f56ed47ca6bad8d407679fbb57d9aafb98590e7d921c071b7661e3a0ed", func := "pagemend/pagemendlaw02.PageReturns", spec := "pageReturns", inPlace := ["internal/abi.NoEscape", "internal/bytealg.MakeNoZero"], unfollowed := true, recurses := true, named := ["pagemend/codec.remainders"], apart := false, laid := [("pagemend/codec.remainders", laid_pagemend_codec_remainders)] }
def PageReturnsSaid : Prop := pageReturnsRow.holds Tryd.pinned (OpenSpec.ofChange pageReturnsSpec)

/-- ITS FALSE NEIGHBOUR: 'it returns false'. Refute it at one input. -/
def pageReturnsWrong : ChangeSpec := { name := "pageReturns", fn := fun _ => fun
  | [d1, d2] => { results := [.lit (.bool false)], args := [d1, d2] }
  | _ => none }
def PageReturnsWrongFalsely : Prop := pageReturnsRow.holds Tryd.pinned (OpenSpec.ofChange pageReturnsWrong)

/-- 'pagemendlaw02.PageDamage': WHATEVER THE INPUT: true; the input reads as it did. -/
def pageDamageSpec : ChangeSpec := { name := "pageDamage", fn := fun _ => fun
  | [d1, d2, d3] => { results := [.lit (.bool true)], args := [d1, d2, d3] }
  | _ => none }
def pageDamageRow : OpenClaim := { program := "ytoceglomogcgcaadoor", sum := "5f78e0f56ed47ca6bad8d407679fbb57d9aafb98590e7d921c071b7661e3a0ed", func := "pagemend/pagemendlaw02.PageDamage", spec := "pageDamage", inPlace := ["internal/abi.NoEscape", "internal/bytealg.MakeNoZero"], unfollowed := true, recurses := true, named := ["pagemend/codec.remainders"], apart := false, laid := [("pagemend/codec.remainders", laid_pagemend_codec_remainders)] }
def PageDamageSaid : Prop := pageDamageRow.holds Tryd.pinned (OpenSpec.ofChange pageDamageSpec)

/-- ITS FALSE NEIGHBOUR: 'it returns false'. Refute it at one input. -/
def pageDamageWrong : ChangeSpec := { name := "pageDamage", fn := fun _ => fun
  | [d1, d2, d3] => { results := [.lit (.bool false)], args := [d1, d2, d3] }
  | _ => none }
def PageDamageWrongFalsely : Prop := pageDamageRow.holds Tryd.pinned (OpenSpec.ofChange pageDamageWrong)

/-- 'pagemendlaw02.PageTears': WHATEVER THE INPUT: true; the input reads as it did. -/
def pageTearsSpec : ChangeSpec := { name := "pageTears", fn := fun _ => fun
  | [d1, d2, d3] => { results := [.lit (.bool true)], args := [d1, d2, d3] }
  | _ => none }
def pageTearsRow : OpenClaim := { program := "ytoceglomogcgcaadoor", sum := "5f78e0f56ed47ca6bad8d407679fbb57d9aafb98590e7d921c071b7661e3a0ed", func := "pagemend/pagemendlaw02.PageTears", spec := "pageTears", inPlace := ["internal/abi.NoEscape", "internal/bytealg.MakeNoZero"], unfollowed := true, recurses := true, named := ["pagemend/codec.remainders"], apart := false, laid := [("pagemend/codec.remainders", laid_pagemend_codec_remainders)] }
def PageTearsSaid : Prop := pageTearsRow.holds Tryd.pinned (OpenSpec.ofChange pageTearsSpec)

/-- ITS FALSE NEIGHBOUR: 'it returns false'. Refute it at one input. -/
def pageTearsWrong : ChangeSpec := { name := "pageTears", fn := fun _ => fun
  | [d1, d2, d3] => { results := [.lit (.bool false)], args := [d1, d2, d3] }
  | _ => none }
def PageTearsWrongFalsely : Prop := pageTearsRow.holds Tryd.pinned (OpenSpec.ofChange pageTearsWrong)

/-- 'pagemendlaw02.PageInjective': WHATEVER THE INPUT: true; the input reads as it did. -/
def pageInjectiveSpec : ChangeSpec := { name := "pageInjective", fn := fun _ => fun
  | [d1, d2] => { results := [.lit (.bool true)], args := [d1, d2] }
  | _ => none }
def pageInjectiveRow : OpenClaim := { program := "ytoceglomogcgcaadoor", sum := "5f78e0f56ed47ca6bad8d407679fbb57d9aafb98590e7d921c071b7661e3a0ed", func := "pagemend/pagemendlaw02.PageInjective", spec := "pageInjective", unfollowed := true, recurses := true, named := ["pagemend/codec.remainders"], apart := false, laid := [("pagemend/codec.remainders", laid_pagemend_codec_remainders)] }
def PageInjectiveSaid : Prop := pageInjectiveRow.holds Tryd.pinned (OpenSpec.ofChange pageInjectiveSpec)

/-- ITS FALSE NEIGHBOUR: 'it returns false'. Refute it at one input. -/
def pageInjectiveWrong : ChangeSpec := { name := "pageInjective", fn := fun _ => fun
  | [d1, d2] => { results := [.lit (.bool false)], args := [d1, d2] }
  | _ => none }
def PageInjectiveWrongFalsely : Prop := pageInjectiveRow.holds Tryd.pinned (OpenSpec.ofChange pageInjectiveWrong)

/- THE SECOND FORM. 'bulk': how many values and letters a reading holds, each counted each time it is reached (what is shared counts as often as it is met; a slice's spare places count too). A statement '..UptoSaid' is the law's where the arguments, and the package variables that the reading takes, are together of bulk at most 1048576: NARROWER than '..Said'. Prove '..Said' where nothing that the law and all that it calls make is longer than what came in: it says more and counts as full. Else prove '..UptoSaid'. A law counts once. -/
mutual
def uptoBulk {H : Type} : DataW H → Nat
  | .lit (.string bytes) => bytes.length + 1
  | .lit _ => 1
  | .nil => 1
  | .ptr d => uptoBulk d + 1
  | .slice elems spare => uptoBulkAll elems + uptoBulkAll spare + 1
  | .agg parts => uptoBulkAll parts + 1
  | .iface _ d => uptoBulk d + 1
  | .map entries => uptoBulkEntries entries + 1
  | .held _ => 1
def uptoBulkAll {H : Type} : List (DataW H) → Nat
  | [] => 0
  | d :: r => uptoBulk d + uptoBulkAll r
def uptoBulkEntries {H : Type} : List (Lit × DataW H) → Nat
  | [] => 0
  | x :: r => uptoBulkEntry x + uptoBulkEntries r
def uptoBulkEntry {H : Type} : Lit × DataW H → Nat
  | (.string bytes, d) => bytes.length + uptoBulk d + 1
  | (_, d) => uptoBulk d + 1
 end
def uptoSmall : (H : Type) → List (DataW H) → Bool := fun _ ds => decide (uptoBulkAll ds ≤ 1048576)
def OpenSpec.upto (s : _root_.Go.ChangeSpec) : _root_.Go.OpenSpec := { _root_.Go.OpenSpec.ofChange s with cond := some uptoSmall }

/-- 'pagemendlaw02.PageEncodes', WHERE WHAT IT READS IS OF BULK AT MOST 1048576: true; the input reads as it did. -/
def pageEncodesUptoRow : OpenClaim := { program := "ytoceglomogcgcaadoor", sum := "5f78e0f56ed47ca6bad8d407679fbb57d9aafb98590e7d921c071b7661e3a0ed", func := "pagemend/pagemendlaw02.PageEncodes", spec := "pageEncodes", inPlace := ["internal/abi.NoEscape", "internal/bytealg.MakeNoZero"], unfollowed := true, recurses := true, named := ["pagemend/codec.remainders"], apart := false, laid := [("pagemend/codec.remainders", laid_pagemend_codec_remainders)], narrowed := true }
def PageEncodesUptoSaid : Prop := pageEncodesUptoRow.holds Tryd.pinned (OpenSpec.upto pageEncodesSpec)

/-- 'pagemendlaw02.PageDecodes', WHERE WHAT IT READS IS OF BULK AT MOST 1048576: true; the input reads as it did. -/
def pageDecodesUptoRow : OpenClaim := { program := "ytoceglomogcgcaadoor", sum := "5f78e0f56ed47ca6bad8d407679fbb57d9aafb98590e7d921c071b7661e3a0ed", func := "pagemend/pagemendlaw02.PageDecodes", spec := "pageDecodes", inPlace := ["internal/abi.NoEscape", "internal/bytealg.MakeNoZero"], unfollowed := true, recurses := true, named := ["pagemend/codec.remainders"], apart := false, laid := [("pagemend/codec.remainders", laid_pagemend_codec_remainders)], narrowed := true }
def PageDecodesUptoSaid : Prop := pageDecodesUptoRow.holds Tryd.pinned (OpenSpec.upto pageDecodesSpec)

/-- 'pagemendlaw02.PageForms', WHERE WHAT IT READS IS OF BULK AT MOST 1048576: true; the input reads as it did. -/
def pageFormsUptoRow : OpenClaim := { program := "ytoceglomogcgcaadoor", sum := "5f78e0f56ed47ca6bad8d407679fbb57d9aafb98590e7d921c071b7661e3a0ed", func := "pagemend/pagemendlaw02.PageForms", spec := "pageForms", inPlace := ["internal/abi.NoEscape", "internal/bytealg.MakeNoZero"], unfollowed := true, recurses := true, named := ["pagemend/codec.remainders"], apart := false, laid := [("pagemend/codec.remainders", laid_pagemend_codec_remainders)], narrowed := true }
def PageFormsUptoSaid : Prop := pageFormsUptoRow.holds Tryd.pinned (OpenSpec.upto pageFormsSpec)

/-- 'pagemendlaw02.PageReturns', WHERE WHAT IT READS IS OF BULK AT MOST 1048576: true; the input reads as it did. -/
def pageReturnsUptoRow : OpenClaim := { program := "ytoceglomogcgcaadoor", sum := "5f78e0f56ed47ca6bad8d407679fbb57d9aafb98590e7d921c071b7661e3a0ed", func := "pagemend/pagemendlaw02.PageReturns", spec := "pageReturns", inPlace := ["internal/abi.NoEscape", "internal/bytealg.MakeNoZero"], unfollowed := true, recurses := true, named := ["pagemend/codec.remainders"], apart := false, laid := [("pagemend/codec.remainders", laid_pagemend_codec_remainders)], narrowed := true }
def PageReturnsUptoSaid : Prop := pageReturnsUptoRow.holds Tryd.pinned (OpenSpec.upto pageReturnsSpec)

/-- 'pagemendlaw02.PageDamage', WHERE WHAT IT READS IS OF BULK AT MOST 1048576: true; the input reads as it did. -/
def pageDamageUptoRow : OpenClaim := { program := "ytoceglomogcgcaadoor", sum := "5f78e0f56ed47ca6bad8d407679fbb57d9aafb98590e7d921c071b7661e3a0ed", func := "pagemend/pagemendlaw02.PageDamage", spec := "pageDamage", inPlace := ["internal/abi.NoEscape", "internal/bytealg.MakeNoZero"], unfollowed := true, recurses := true, named := ["pagemend/codec.remainders"], apart := false, laid := [("pagemend/codec.remainders", laid_pagemend_codec_remainders)], narrowed := true }
def PageDamageUptoSaid : Prop := pageDamageUptoRow.holds Tryd.pinned (OpenSpec.upto pageDamageSpec)

/-- 'pagemendlaw02.PageTears', WHERE WHAT IT READS IS OF BULK AT MOST 1048576: true; the input reads as it did. -/
def pageTearsUptoRow : OpenClaim := { program := "ytoceglomogcgcaadoor", sum := "5f78e0f56ed47ca6bad8d407679fbb57d9aafb98590e7d921c071b7661e3a0ed", func := "pagemend/pagemendlaw02.PageTears", spec := "pageTears", inPlace := ["internal/abi.NoEscape", "internal/bytealg.MakeNoZero"], unfollowed := true, recurses := true, named := ["pagemend/codec.remainders"], apart := false, laid := [("pagemend/codec.remainders", laid_pagemend_codec_remainders)], narrowed := true }
def PageTearsUptoSaid : Prop := pageTearsUptoRow.holds Tryd.pinned (OpenSpec.upto pageTearsSpec)

/-- 'pagemendlaw02.PageInjective', WHERE WHAT IT READS IS OF BULK AT MOST 1048576: true; the input reads as it did. -/
def pageInjectiveUptoRow : OpenClaim := { program := "ytoceglomogcgcaadoor", sum := "5f78e0f56ed47ca6bad8d407679fbb57d9aafb98590e7d921c071b7661e3a0ed", func := "pagemend/pagemendlaw02.PageInjective", spec := "pageInjective", unfollowed := true, recurses := true, named := ["pagemend/codec.remainders"], apart := false, laid := [("pagemend/codec.remainders", laid_pagemend_codec_remainders)], narrowed := true }
def PageInjectiveUptoSaid : Prop := pageInjectiveUptoRow.holds Tryd.pinned (OpenSpec.upto pageInjectiveSpec)

end Rows
end Go.Proofs.YtoceglomogcgcaaDoor
