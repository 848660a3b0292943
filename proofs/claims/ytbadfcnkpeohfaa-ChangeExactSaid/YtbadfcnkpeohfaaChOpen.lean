/- a change that came in by value, opened -/
import Derived.Test.YtbadfcnkpeohfaaChVal
import Derived.Test.YtbadfcnkpeohfaaOpenPg
namespace Go.Proofs.Ytbadfcnkpeohfaa
open Go.RowKit

def chTypes : List TypeId := [3, 3, 4, 9, 4, 9]
theorem ch_types : Try.prog.cellTypes Try.prog.depth 29 = some chTypes := by kernel_rfl
theorem open_change {W : World} {r : Reach} {b0 : Nat} {v : Value} (hval : Value.okWide Try.prog W r b0 29 v) : ∃ c, v = .agg (chCells c).toArray ∧ GoodCh c := by
  obtain ⟨cs, rfl, hsz, ts, hts, _, hcell⟩ : ∃ cs, v = .agg cs ∧ cs.size = Try.prog.cellsOf 29 ∧ Row.okWide Try.prog W r b0 29 cs := by
    unfold Value.okWide at hval
    rw [Try.underlying29] at hval
    exact hval
  rw [ch_types] at hts
  obtain rfl : chTypes = ts := Option.some.inj hts
  rw [cellsOf_ch] at hsz
  obtain ⟨l⟩ := cs
  match l, hsz with
  | [v0, v1, v2, v3, v4, v5], _ =>
    have hat : ∀ i (h : i < 6) u x, ([v0, v1, v2, v3, v4, v5] : List Value)[i]? = some x → chTypes[i]? = some u → Cell.okWide Try.prog W r b0 u x := fun i h u x hx hu => by
      obtain ⟨u', hu', hc⟩ := hcell i x (by rw [List.getElem?_toArray]; exact hx)
      rw [show chTypes.length = 6 from rfl, Nat.mod_eq_of_lt h, hu] at hu'
      obtain rfl := Option.some.inj hu'
      exact hc
    have h0 := cell_int (hat 0 (by omega) 3 v0 rfl rfl)
    have h1 := cell_int (hat 1 (by omega) 3 v1 rfl rfl)
    have h2 := cell_bool (hat 2 (by omega) 4 v2 rfl rfl)
    have h3 := cell_text (hat 3 (by omega) 9 v3 rfl rfl)
    have h4 := cell_bool (hat 4 (by omega) 4 v4 rfl rfl)
    have h5 := cell_text (hat 5 (by omega) 9 v5 rfl rfl)
    refine ⟨⟨intOf v0, intOf v1, ⟨boolOf v2, textOf v3⟩, ⟨boolOf v4, textOf v5⟩⟩, ?_, ⟨h0.2, h1.2, h3.2, h5.2⟩⟩
    unfold chCells
    simp only
    rw [← h0.1, ← h1.1, ← h2, ← h3.1, ← h4, ← h5.1]
/-- the empty change, as the witness brings it, and its reading -/
def chNilV : Value := .agg (chCells chNil).toArray
def chNilD {H : Type} : DataW H := .agg [.lit (.int .i64 0), .lit (.int .i64 0), .agg [.lit (.bool false), .lit (.string [])], .agg [.lit (.bool false), .lit (.string [])]]
end Go.Proofs.Ytbadfcnkpeohfaa
