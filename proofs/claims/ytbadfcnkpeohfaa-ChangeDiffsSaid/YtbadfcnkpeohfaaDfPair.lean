/- pairs of pages -/
import Derived.Test.YtbadfcnkpeohfaaSame
namespace Go.Proofs.Ytbadfcnkpeohfaa
open Go.RowKit

def ppCells (u : Pg × Pg) : List Value := pgCells u.1 ++ pgCells u.2
/-- both have sixteen cells -/
structure PpOk (u : Pg × Pg) : Prop where
  first : Good u.1
  second : Good u.2
theorem ppCells_len {u : Pg × Pg} (h : PpOk u) : (ppCells u).length = 68 := by
  unfold ppCells
  rw [List.length_append, pgCells_len h.first.len, pgCells_len h.second.len]
theorem ppNil : PpOk (newPg 0, newPg 0) := ⟨newPg_good 0 (by decide), newPg_good 0 (by decide)⟩
theorem info_pp {u : Pg × Pg} (h : PpOk u) : (Try.prog.info? 49).map (·.size) = some (ppCells u).length := by rw [ppCells_len h]; kernel_rfl
theorem oneCell_pp (u : Pg × Pg) : ((ppCells u).toArray).all (·.oneCell') = true := by
  unfold ppCells
  rw [List.all_toArray, List.all_append, Bool.and_eq_true]
  have h1 := oneCell_pg u.1
  have h2 := oneCell_pg u.2
  rw [List.all_toArray] at h1 h2
  exact ⟨h1, h2⟩
theorem alloc_pp (w : World) : Sem.run Try.prog (Instr.alloc 49 true (.tuple #[])) w = .ok (.pointer (some ⟨w.heap.size, 0, none⟩)) (w.alloc (.cells (ppCells (newPg 0, newPg 0)).toArray 49)) := by kernel_rfl
theorem under_pp : Try.prog.underlying 49 = some (.array 2 27) := by kernel_rfl
theorem under_pps : Try.prog.underlying 50 = some (.slice 49) := by kernel_rfl
theorem zero_pp : ((Try.prog.info? 49).bind (·.zero)).map (·.cells.size) = some (2 * 34) := by kernel_rfl
theorem build_pp (a b : Pg) (ha : a.cells.length = 16) (hb : b.cells.length = 16) (W : World) : Sem.run Try.prog (Instr.build 49 #[(0, .agg (pgCells a).toArray), (1, .agg (pgCells b).toArray)]) W = .ok (.agg (ppCells (a, b)).toArray) W := by
  have := run_build_arr under_pp info_page zero_pp (by omega) [pgCells a, pgCells b] (List.forall_mem_cons.2 ⟨pgCells_len ha, List.forall_mem_cons.2 ⟨pgCells_len hb, fun _ h => absurd h List.not_mem_nil⟩⟩) rfl W
  have e : ([pgCells a, pgCells b] : List (List Value)).flatMap id = ppCells (a, b) := by simp [ppCells]
  rw [e] at this
  exact this
theorem elem_pp : ElemIs 49 68 800 := ⟨⟨_, .agg (ppCells (newPg 0, newPg 0)).toArray, rfl, rfl, rfl, rfl, rfl⟩, by decide, by decide, by decide⟩
theorem pp_first (u : Pg × Pg) (j : Nat) (v : Value) (h : (pgCells u.1)[j]? = some v) : (ppCells u)[0 + j]? = some v := by
  rw [Nat.zero_add]
  unfold ppCells
  rw [List.getElem?_append_left (List.getElem?_eq_some_iff.1 h).1]
  exact h
theorem pp_second {u : Pg × Pg} (hu : PpOk u) (j : Nat) (v : Value) (h : (pgCells u.2)[j]? = some v) : (ppCells u)[34 + j]? = some v := by
  have := pgCells_len hu.first.len
  unfold ppCells
  rw [List.getElem?_append_right (by omega), this, Nat.add_sub_cancel_left]
  exact h
theorem diffL_good {n : Int} (hn : (Lit.int .i64 n).wf = true) {a b : List Cl} (ha : a.length = 16) (hda : ∀ c ∈ a, c.data.size ≤ maxLen) (hdb : ∀ c ∈ b, c.data.size ≤ maxLen) : ∀ x ∈ diffL n 0 a b, GoodCh x := fun x hx => by
  obtain ⟨k, hk, rfl⟩ := List.getElem_of_mem hx
  obtain ⟨j, u, v, h1, h2, _, h4⟩ := diffL_get n 0 a b k _ (List.getElem?_eq_getElem hk)
  rw [h4]
  have hj := (List.getElem?_eq_some_iff.1 h1).1
  exact ⟨hn, wf_of (by show _ ≤ ((0 + j : Nat) : Int); omega) (by show ((0 + j : Nat) : Int) ≤ _; omega), hda u (List.mem_of_getElem? h1), hdb v (List.mem_of_getElem? h2)⟩
theorem diffR_good {p q : Pg} (hp : Good p) (hq : Good q) : ∀ x ∈ (diffR p q).1, GoodCh x := by
  unfold diffR
  split
  · simp
  · split
    · simp
    · split
      · simp
      · exact diffL_good hp.id hp.len hp.data hq.data
theorem diffR_len {p q : Pg} (hp : Good p) : (diffR p q).1.length ≤ 16 := by
  unfold diffR
  split
  · simp
  · split
    · simp
    · split
      · simp
      · have := diffL_len p.id 0 p.cells q.cells
        rw [hp.len] at this
        exact this
theorem Drawn.all {p : Pg} {n : Int} (h : Drawn p n) : p.cells.all cellOkB = true := by
  rw [List.all_eq_true]
  intro c hc
  obtain ⟨k, hk, rfl⟩ := List.getElem_of_mem hc
  have := h.cellOk k
  rw [getD_eq hk] at this
  exact this
theorem diffR_drawn {p q : Pg} (hp : Drawn p 2) (hq : Drawn q 2) : diffR p q = (diffL 2 0 p.cells q.cells, 0) := by
  unfold diffR
  rw [hp.id, hq.id, sameV_self, if_neg (by decide), if_neg (by decide), hp.all, hq.all, if_neg (by decide)]
/-- a page with other cells -/
def pgWith (p : Pg) (r : List Cl) : Pg := ⟨p.id, p.lsn, r⟩
theorem pgWith_self (p : Pg) : pgWith p p.cells = p := rfl
structure RowOf (p q : Pg) (r : List Cl) (n i : Nat) : Prop where
  mid : Mid p.cells q.cells r
  left : todo r q.cells + i = n
theorem RowOf.good {p q : Pg} {r : List Cl} {n i : Nat} (h : RowOf p q r n i) (hp : Good p) (hq : Good q) : Good (pgWith p r) :=
  ⟨by show r.length = 16; rw [h.mid.len]; exact hp.len, hp.id, hp.lsn, fun c hc => by
    obtain ⟨s, hs, rfl⟩ := List.getElem_of_mem hc
    have hsp : s < p.cells.length := by rw [← h.mid.len]; exact hs
    have hsq : s < q.cells.length := by rw [hq.len, ← hp.len]; exact hsp
    rcases h.mid.two s _ _ _ (List.getElem?_eq_getElem hsp) (List.getElem?_eq_getElem hsq) (List.getElem?_eq_getElem hs) with e | e
    · rw [e]; exact hp.data _ (List.getElem_mem hsp)
    · rw [e]; exact hq.data _ (List.getElem_mem hsq)⟩
/-- what is done next -/
theorem RowOf.next {p q : Pg} {r : List Cl} {n i : Nat} (h : RowOf p q r n i) (hp : Drawn p 2) (hq : Drawn q 2) {k : Nat} {c : Chg} (hc : (diffL 2 0 p.cells q.cells)[k]? = some c) (hn : ¬ Done r c) :
    GoodCh c ∧ ∃ s : Nat, s < 16 ∧ applyR (pgWith p r) c = (pgWith p (r.set s c.after), 0) ∧ RowOf p q (r.set s c.after) n (i + 1) := by
  obtain ⟨s, hs, e, hb, ha, ht⟩ := not_done h.mid hc hn
  have hpl := hp.len
  have hqa := hq.all
  have hpa := hp.all
  rw [List.all_eq_true] at hqa hpa
  have hok : chOkB c = true := by
    rw [e]
    exact chOk_of (by show (0 : Int) ≤ 2; omega) (by show (2 : Int) < 64; omega) (by show (0 : Int) ≤ s; omega) (by show (s : Int) < 16; omega) (hpa _ (List.mem_of_getElem? ha)) (hqa _ (List.mem_of_getElem? hb))
  refine ⟨chOk_good hok, s, by omega, ?_, ?_⟩
  · exact apply_ok (p := pgWith p r) s hok (by rw [e]) (by rw [e]; exact hp.id.symm) (by rw [e]; rfl)
  · exact ⟨h.mid.set s hb, by have := h.left; omega⟩
theorem RowOf.some_left {p q : Pg} {r : List Cl} {n i : Nat} (h : RowOf p q r n i) (hp : Good p) (hq : Good q) (hi : i < n) (hall : ∀ (k : Nat) (c : Chg), (diffL 2 0 p.cells q.cells)[k]? = some c → Done r c) : False := by
  have := all_done (hp.len.trans hq.len.symm) h.mid hall
  have := h.left
  omega
end Go.Proofs.Ytbadfcnkpeohfaa
