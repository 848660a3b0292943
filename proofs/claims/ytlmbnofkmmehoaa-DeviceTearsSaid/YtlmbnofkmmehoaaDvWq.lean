/- a write of which no fault is handed in -/
import Derived.Test.YtlmbnofkmmehoaaOm11
namespace Go.Proofs.Ytlmbnofkmmehoaa
open Go.RowKit
set_option maxRecDepth 20000
set_option linter.unusedSimpArgs false
set_option linter.unusedVariables false

theorem whole_place {s : ByteArray} (hs : s.size = 256) (X : ByteArray) : s.extract 0 256 ++ X.extract 256 256 = s := by
  rw [extract_all s hs]
  apply ByteArray.ext
  simp
/-- a write of which no fault is handed in -/
theorem write_quiet {d : Dv} (h : DvOk d) (hd : d.dead = false) {p : Nat} (hp : p < d.pages.length) {s : ByteArray} (hs : s.size = 256) (hw : d.writes ≠ 1099511627776) (hn : nowR d = []) :
    writeR d p s = (⟨d.pages.set p s, d.writes + 1, withoutR d.unread p, d.dead, d.faults⟩, 0) := by
  rw [(write_ok h hd hp hs hw).1, hn]
  have hl : laterR d = d.faults := by
    unfold laterR
    rw [List.filter_eq_self]
    intro x hx
    unfold nowR at hn
    have := List.filter_eq_nil_iff.1 hn x hx
    simpa using this
  rw [hl]
  show ((placeR ⟨d.pages, d.writes + 1, d.unread, d.dead, d.faults⟩ (p : Int) s 256 : Dv), (0 : Int)) = _
  unfold placeR
  rw [whole_place hs]
  rfl
end Go.Proofs.Ytlmbnofkmmehoaa
