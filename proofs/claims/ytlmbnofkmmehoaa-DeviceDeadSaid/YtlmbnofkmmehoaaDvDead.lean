/- a device that fails at one of its writes, and one in its place -/
import Derived.Test.YtlmbnofkmmehoaaOm11
namespace Go.Proofs.Ytlmbnofkmmehoaa
open Go.RowKit
set_option maxRecDepth 20000
set_option linter.unusedSimpArgs false
set_option linter.unusedVariables false

def fltDead (n : Int) : Flt := ⟨6, n, 0, 0, 0, 0⟩
def fltLostAt (n : Int) : Flt := ⟨1, n, 0, 0, 0, 0⟩
theorem wfd_of {n : Int} (h0 : -9223372036854775808 ≤ n) (h1 : n ≤ 9223372036854775807) : (Lit.int .i64 n).wf = true := by
  simp [Lit.wf, IntKind.min, IntKind.max, IntKind.bits, IntKind.signed]; omega
theorem wfz : (Lit.int .i64 0).wf = true ∧ (Lit.int .i64 1).wf = true ∧ (Lit.int .i64 6).wf = true ∧ (Lit.int .u8 0).wf = true := by decide
theorem fltDead_good {n : Int} (h : 1 ≤ n ∧ n ≤ 6) : GoodFlt (fltDead n) := ⟨wfz.2.2.1, wfd_of (by show _ ≤ n; omega) (by show n ≤ _; omega), wfz.1, wfz.1, wfz.1, wfz.2.2.2⟩
theorem fltLost_good {n : Int} (h : 1 ≤ n ∧ n ≤ 7) : GoodFlt (fltLostAt n) := ⟨wfz.2.1, wfd_of (by show _ ≤ n; omega) (by show n ≤ _; omega), wfz.1, wfz.1, wfz.1, wfz.2.2.2⟩
theorem fltDead_ok {n : Int} (h : 1 ≤ n ∧ n ≤ 6) : fltOkB 2 0 (fltDead n) = true := by
  unfold fltOkB rangesB shapeB fltDead
  simp
  omega
theorem fltLost_ok {n : Int} (h : 1 ≤ n ∧ n ≤ 7) : fltOkB 2 0 (fltLostAt n) = true := by
  unfold fltOkB rangesB shapeB fltLostAt
  simp
  omega
/-- the device behind i writes, the n-th of which ends it -/
structure Ded (n i : Int) (d : Dv) : Prop where
  rn : 1 ≤ n ∧ n ≤ 6
  ri : 0 ≤ i ∧ i ≤ n
  ok : DvOk d
  len : d.pages.length = 2
  wr : d.writes = i
  dead : d.dead = decide (i = n)
  flt : d.faults = if i < n then [fltDead n, fltLostAt (n + 1)] else [fltLostAt (n + 1)]
theorem Ded.start {n : Int} (h : 1 ≤ n ∧ n ≤ 6) : ∃ d0 d1 d2, newR 2 = (d0, 0) ∧ injectR d0 (fltDead n) = (d1, 0) ∧ injectR d1 (fltLostAt (n + 1)) = (d2, 0) ∧ DvOk d0 ∧ DvOk d1 ∧ Ded n 0 d2 := by
  obtain ⟨n1, n2⟩ := new_ok (n := 2) (by decide)
  have e0 : List.replicate 2 blankPg = [blankPg, blankPg] := rfl
  rw [e0] at n1 n2
  obtain ⟨i1, i2⟩ := inject_ok n2 (x := fltDead n) (fltDead_ok h) (fltDead_good h) (by show (0 : Nat) < 64; decide)
  obtain ⟨j1, j2⟩ := inject_ok i2 (x := fltLostAt (n + 1)) (fltLost_ok (by omega)) (fltLost_good (by omega)) (by show (1 : Nat) < 64; decide)
  refine ⟨_, _, _, n1, i1, j1, n2, i2, h, by omega, j2, rfl, rfl, ?_, ?_⟩
  · show false = _
    rw [decide_eq_false (by omega)]
  · rw [if_pos (by omega)]
    rfl
theorem Ded.step {n i : Int} {d : Dv} (h : Ded n i d) (hi : i < n) {q : Nat} (hq : q < 2) {s : ByteArray} (hs : s.size = 256) : ∃ x, writeR d q s = (x, 0) ∧ Ded n (i + 1) x := by
  have hd : d.dead = false := by rw [h.dead, decide_eq_false (by omega)]
  have hn := h.rn
  have hi2 := h.ri
  obtain ⟨w1, w2⟩ := write_ok h.ok hd (by rw [h.len]; exact hq) hs (by rw [h.wr]; omega)
  have hf : d.faults = [fltDead n, fltLostAt (n + 1)] := by rw [h.flt, if_pos hi]
  have hl2 : (fltLostAt (n + 1)).at_ ≠ d.writes + 1 := by show n + 1 ≠ _; rw [h.wr]; omega
  by_cases hin : i + 1 = n
  · have hl1 : (fltDead n).at_ = d.writes + 1 := by show n = _; rw [h.wr]; omega
    have en : nowR d = [fltDead n] := by
      unfold nowR
      rw [hf, List.filter_cons_of_pos (by simpa using hl1), List.filter_cons_of_neg (by simpa using hl2)]
      rfl
    have el : laterR d = [fltLostAt (n + 1)] := by
      unfold laterR
      rw [hf, List.filter_cons_of_neg (by simpa using hl1), List.filter_cons_of_pos (by simpa using hl2)]
      rfl
    rw [en, el] at w1
    rw [w1] at w2
    refine ⟨_, w1, hn, by omega, w2, ?_, ?_, ?_, ?_⟩
    · show (List.set _ _ _).length = 2
      rw [List.length_set]
      exact h.len
    · show d.writes + 1 = _
      rw [h.wr]
    · show true = _
      rw [decide_eq_true hin]
    · show [fltLostAt (n + 1)] = _
      rw [if_neg (by omega)]
  · have hl1 : (fltDead n).at_ ≠ d.writes + 1 := by show n ≠ _; rw [h.wr]; omega
    have en : nowR d = [] := by
      unfold nowR
      rw [hf, List.filter_cons_of_neg (by simpa using hl1), List.filter_cons_of_neg (by simpa using hl2)]
      rfl
    have el : laterR d = [fltDead n, fltLostAt (n + 1)] := by
      unfold laterR
      rw [hf, List.filter_cons_of_pos (by simpa using hl1), List.filter_cons_of_pos (by simpa using hl2)]
      rfl
    rw [en, el] at w1
    rw [w1] at w2
    refine ⟨_, w1, hn, by omega, w2, ?_, ?_, ?_, ?_⟩
    · show (List.set _ _ _).length = 2
      rw [List.length_set]
      exact h.len
    · show d.writes + 1 = _
      rw [h.wr]
    · show d.dead = _
      rw [hd, decide_eq_false hin]
    · show [fltDead n, fltLostAt (n + 1)] = _
      rw [if_pos (by omega)]
theorem Ded.usable {n : Int} {d : Dv} (h : Ded n n d) (page : Int) : usableR d page = 10 := by
  unfold usableR
  rw [if_neg (by rw [h.ok.ok]; decide), if_pos (by rw [h.dead]; simp)]
/-- what the dead device answers, and the one in its place -/
theorem Ded.done {n : Int} {d : Dv} (h : Ded n n d) : readR d 0 = (⟨#[]⟩, 10) ∧ (∀ s, writeR d 0 s = (dvNil, 10)) ∧ (∀ s, tearR d 0 s 5 = (dvNil, 10)) ∧
    ∃ x, replaceR d = (x, 0) ∧ DvOk x ∧ x.writes = n ∧ x.faults.length = 1 ∧ ∀ s : ByteArray, s.size = 256 → ∃ y, writeR x 1 s = (y, 0) ∧ DvOk y ∧ readR y 1 = (blankPg, 0) := by
  have hn := h.rn
  refine ⟨by unfold readR; rw [h.usable, if_pos (by decide)], fun s => by unfold writeR; rw [h.usable, if_pos (by decide)], fun s => by unfold tearR; rw [h.usable, if_pos (by decide)], ?_⟩
  obtain ⟨r1, r2⟩ := replace_ok h.ok
  have hf : d.faults = [fltLostAt (n + 1)] := by rw [h.flt, if_neg (by omega)]
  have e2 : List.replicate d.pages.length blankPg = [blankPg, blankPg] := by rw [h.len]; rfl
  rw [hf, h.wr, e2] at r1 r2
  generalize hbl : blankPg = B at *
  refine ⟨_, r1, r2, rfl, rfl, fun s hs => ?_⟩
  obtain ⟨w1, w2⟩ := write_ok r2 rfl (k := 1) (by show (1 : Nat) < 2; decide) hs (by show n ≠ _; omega)
  have en : nowR ⟨[B, B], n, [], false, [fltLostAt (n + 1)]⟩ = [fltLostAt (n + 1)] := by
    unfold nowR
    show List.filter (fun f => decide (f.at_ = n + 1)) [fltLostAt (n + 1)] = _
    rw [List.filter_cons_of_pos (by simp [fltLostAt])]
    rfl
  have el : laterR ⟨[B, B], n, [], false, [fltLostAt (n + 1)]⟩ = [] := by
    unfold laterR
    show List.filter (fun f => !decide (f.at_ = n + 1)) [fltLostAt (n + 1)] = _
    rw [List.filter_cons_of_neg (by simp [fltLostAt])]
    rfl
  rw [en, el] at w1
  have w1' : writeR ⟨[B, B], n, [], false, [fltLostAt (n + 1)]⟩ ((1 : Nat) : Int) s = (⟨[B, B], n + 1, [], false, []⟩, 0) := w1
  rw [w1'] at w2
  refine ⟨_, w1', w2, ?_⟩
  exact read_ok w2 rfl (k := 1) (by show (1 : Nat) < 2; decide) (by simp)
end Go.Proofs.Ytlmbnofkmmehoaa
