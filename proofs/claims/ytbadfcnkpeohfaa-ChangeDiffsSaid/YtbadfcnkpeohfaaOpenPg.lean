/- a page that came in by value, opened -/
import Derived.Test.YtbadfcnkpeohfaaPgEq
namespace Go.Proofs.Ytbadfcnkpeohfaa
open Go.RowKit

def boolOf : Value → Bool | .bool b => b | _ => false
def textOf : Value → ByteArray | .string s => s | _ => ⟨#[]⟩
def pgTypes : List TypeId := 3 :: 3 :: (List.range 16).flatMap fun _ => [4, 9]
theorem page_types : Try.prog.cellTypes Try.prog.depth 27 = some pgTypes := by kernel_rfl
def pgOf (l : List Value) : Pg := ⟨intOf (l.getD 0 undef), intOf (l.getD 1 undef), (List.range 16).map fun k => ⟨boolOf (l.getD (2 + 2 * k) undef), textOf (l.getD (2 + 2 * k + 1) undef)⟩⟩
theorem pgTypes_at (k : Nat) (h : k < 16) : pgTypes[2 + 2 * k]? = some 4 ∧ pgTypes[2 + 2 * k + 1]? = some 9 := by
  have : ∀ k : Fin 16, pgTypes[2 + 2 * k.val]? = some 4 ∧ pgTypes[2 + 2 * k.val + 1]? = some 9 := by decide
  exact this ⟨k, h⟩
theorem cell_int {W : World} {r : Reach} {b0 : Nat} {v : Value} (h : Cell.okWide Try.prog W r b0 3 v) : v = .int .i64 (intOf v) ∧ (Lit.int .i64 (intOf v)).wf = true := by
  unfold Cell.okWide Cell.ok at h
  simp only [Try.underlying3] at h
  cases v <;> simp_all [intOf, Lit.wf, IntKind.has]
theorem cell_bool {W : World} {r : Reach} {b0 : Nat} {v : Value} (h : Cell.okWide Try.prog W r b0 4 v) : v = .bool (boolOf v) := by
  unfold Cell.okWide Cell.ok at h
  simp only [Try.underlying4] at h
  cases v <;> simp_all [boolOf]
theorem cell_text {W : World} {r : Reach} {b0 : Nat} {v : Value} (h : Cell.okWide Try.prog W r b0 9 v) : v = .string (textOf v) ∧ (textOf v).size ≤ maxLen := by
  unfold Cell.okWide Cell.ok at h
  simp only [Try.underlying9] at h
  cases v <;> simp_all [textOf]
  unfold maxLen
  have hm : IntKind.i64.max = 9223372036854775807 := by rfl
  first | omega | (rw [hm] at h; omega)
theorem open_page {W : World} {r : Reach} {b0 : Nat} {v : Value} (hval : Value.okWide Try.prog W r b0 27 v) : ∃ p, v = .agg (pgCells p).toArray ∧ Good p := by
  obtain ⟨cs, rfl, hsz, ts, hts, _, hcell⟩ : ∃ cs, v = .agg cs ∧ cs.size = Try.prog.cellsOf 27 ∧ Row.okWide Try.prog W r b0 27 cs := by
    unfold Value.okWide at hval
    rw [Try.underlying27] at hval
    exact hval
  rw [page_types] at hts
  obtain rfl : pgTypes = ts := Option.some.inj hts
  rw [cellsOf_page] at hsz
  obtain ⟨l⟩ := cs
  have hl : l.length = 34 := hsz
  have hat : ∀ i (h : i < 34), ∃ u, pgTypes[i]? = some u ∧ Cell.okWide Try.prog W r b0 u (l.getD i undef) := fun i h => by
    have hi : l[i]? = some (l.getD i undef) := by rw [List.getD_eq_getElem?_getD, List.getElem?_eq_getElem (by omega)]; rfl
    obtain ⟨u, hu, hc⟩ := hcell i _ (by rw [List.getElem?_toArray]; exact hi)
    rw [show pgTypes.length = 34 from by decide, Nat.mod_eq_of_lt h] at hu
    exact ⟨u, hu, hc⟩
  have h0 : l.getD 0 undef = .int .i64 (intOf (l.getD 0 undef)) ∧ (Lit.int .i64 (intOf (l.getD 0 undef))).wf = true := by
    obtain ⟨u, hu, hc⟩ := hat 0 (by omega)
    obtain rfl : 3 = u := Option.some.inj ((show pgTypes[0]? = some 3 from rfl).symm.trans hu)
    exact cell_int hc
  have h1 : l.getD 1 undef = .int .i64 (intOf (l.getD 1 undef)) ∧ (Lit.int .i64 (intOf (l.getD 1 undef))).wf = true := by
    obtain ⟨u, hu, hc⟩ := hat 1 (by omega)
    obtain rfl : 3 = u := Option.some.inj ((show pgTypes[1]? = some 3 from rfl).symm.trans hu)
    exact cell_int hc
  have hb : ∀ k, k < 16 → l.getD (2 + 2 * k) undef = .bool (boolOf (l.getD (2 + 2 * k) undef)) := fun k hk => by
    obtain ⟨u, hu, hc⟩ := hat (2 + 2 * k) (by omega)
    obtain rfl : 4 = u := Option.some.inj ((pgTypes_at k hk).1.symm.trans hu)
    exact cell_bool hc
  have hs : ∀ k, k < 16 → l.getD (2 + 2 * k + 1) undef = .string (textOf (l.getD (2 + 2 * k + 1) undef)) ∧ (textOf (l.getD (2 + 2 * k + 1) undef)).size ≤ maxLen := fun k hk => by
    obtain ⟨u, hu, hc⟩ := hat (2 + 2 * k + 1) (by omega)
    obtain rfl : 9 = u := Option.some.inj ((pgTypes_at k hk).2.symm.trans hu)
    exact cell_text hc
  have hlen : (pgOf l).cells.length = 16 := by simp [pgOf]
  refine ⟨pgOf l, ?_, hlen, h0.2, h1.2, fun c hc => ?_⟩
  · congr 2
    apply List.ext_getElem?
    intro i
    by_cases hi : i < 34
    · have e : l[i]? = some (l.getD i undef) := by rw [List.getD_eq_getElem?_getD, List.getElem?_eq_getElem (by omega)]; rfl
      rw [e]
      by_cases i0 : i = 0
      · subst i0; rw [h0.1]; rfl
      · by_cases i1 : i = 1
        · subst i1; rw [h1.1]; rfl
        · obtain ⟨k, hk⟩ : ∃ k, i = 2 + 2 * k ∨ i = 2 + 2 * k + 1 := ⟨(i - 2) / 2, by omega⟩
          have hk16 : k < 16 := by omega
          have hg := pgCells_get (pgOf l) k (by rw [hlen]; exact hk16)
          have hck : (pgOf l).cells[k]'(by rw [hlen]; exact hk16) = ⟨boolOf (l.getD (2 + 2 * k) undef), textOf (l.getD (2 + 2 * k + 1) undef)⟩ := by simp [pgOf]
          rw [hck] at hg
          rcases hk with rfl | rfl
          · rw [hg.1]; exact congrArg some (hb k hk16)
          · rw [hg.2]; exact congrArg some (hs k hk16).1
    · rw [List.getElem?_eq_none (by omega), List.getElem?_eq_none (by rw [pgCells_length, hlen]; omega)]
  · simp only [pgOf, List.mem_map, List.mem_range] at hc
    obtain ⟨k, hk, rfl⟩ := hc
    exact (hs k hk).2
/-- the empty page, as the witness brings it, and its reading -/
def pgNilV : Value := .agg (pgCells ⟨0, 0, List.replicate 16 ⟨false, ⟨#[]⟩⟩⟩).toArray
def pgNilD {H : Type} : DataW H := .agg [.lit (.int .i64 0), .lit (.int .i64 0), .agg (List.replicate 16 (.agg [.lit (.bool false), .lit (.string [])]))]
end Go.Proofs.Ytbadfcnkpeohfaa
