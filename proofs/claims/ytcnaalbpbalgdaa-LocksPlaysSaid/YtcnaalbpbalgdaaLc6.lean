/- texts of a claim, one after the other: within a drawing function: things in new memory beside choices that were there before, the choices of the drawing package: Grant, the choices of the drawing package: Locks, the sanity check of the laws of chapter 8, transactions that ask for one lock get it in the order in which they asked; a table that is nearly full, what a walk keeps of memory, beside how many choices are left at most, the law LocksPlays: for every input the call returns true -/
import Derived.Test.YtcnaalbpbalgdaaLc5
import Derived.Test.YtcnaalbpbalgdaaLc2
import Derived.Deep.CutBlock
import Derived.Test.YtcnaalbpbalgdaaLc1
/- within a drawing function: things in new memory beside choices that were there before -/
namespace Go.Proofs.Ytcnaalbpbalgdaa
open Go.RowKit
set_option maxRecDepth 20000
set_option linter.unusedSimpArgs false
set_option linter.unusedVariables false

/-- things in memory that is new since w, while only the choices C of the elder memory change -/
structure DrH (w : World) (C : Nat) (L : List Th) (W : World) : Prop where
  bes : Besides C w W
  codes : CodesOk W C
  lt : C < w.heap.size
  off : ∀ x ∈ L, ∀ b ∈ x.reads, w.heap.size ≤ b
  nocd : ∀ x ∈ L, ∀ c, x ≠ .cd c
  hp : ∃ w', w'.heap.size = w.heap.size ∧ Hp w' L W
theorem DrH.start {w : World} {C : Nat} (h : CodesOk w C) : DrH w C [] w := ⟨Besides.refl _ _, h, h.lt, by simp, by simp, w, rfl, Hp.start w⟩
theorem DrH.step {w W W' : World} {C : Nat} {L L' : List Th} (h : DrH w C L W) (hs : W.heap.size ≤ W'.heap.size) (H : ∀ w', w'.heap.size = w.heap.size → Hp w' L W → Hp w' L' W') (hr : ∀ x ∈ L', ∀ b ∈ x.reads, w.heap.size ≤ b) (hc : ∀ x ∈ L', ∀ c, x ≠ .cd c) : DrH w C L' W' := by
  obtain ⟨bes, cod, lt, _, _, w', e, hp⟩ := h
  have hp' := H w' e hp
  have hk : ∀ k, k < w.heap.size → W'.heap[k]? = W.heap[k]? := fun k hk => (hp'.old.block k (by omega)).trans (hp.old.block k (by omega)).symm
  have hb : Below w.heap.size W W' := ⟨hp'.old.os.trans hp.old.os.symm, hp'.old.tape.trans hp.old.tape.symm, hp'.old.output.trans hp.old.output.symm, hs, hk⟩
  have hw : w.heap.size ≤ W'.heap.size := Nat.le_trans bes.size hs
  exact ⟨⟨hb.os.trans bes.os, hb.tape.trans bes.tape, hb.output.trans bes.output, hw, fun k h1 h2 => (hk k h1).trans (bes.block k h1 h2), fun hC => (World.cell?_of_block (a := ⟨C, 0, none⟩) (hk C lt)).trans (bes.head hC)⟩, cod.below hb lt, lt, hr, hc, w', e, hp'⟩
theorem DrH.all {w W : World} {C : Nat} {L : List Th} (h : DrH w C L W) : ∀ x ∈ L, x.In w.heap.size W := by
  obtain ⟨_, _, _, _, _, w', e, hp⟩ := h
  intro x hx
  rw [← e]
  exact hp.all x hx
theorem DrH.nd {w W : World} {C : Nat} {L : List Th} (h : DrH w C L W) : L.Pairwise Th.Apart := by
  obtain ⟨_, _, _, _, _, w', e, hp⟩ := h
  exact hp.nd
theorem DrH.in {w W : World} {C : Nat} {L : List Th} (h : DrH w C L W) (i : Nat) {x : Th} (e : L[i]? = some x) : x.In w.heap.size W := h.all _ (List.mem_of_getElem? e)
theorem DrH.get {w W : World} {C : Nat} {L : List Th} (h : DrH w C L W) (i : Nat) {b : Nat} {t : TypeId} {cs : List Value} (e : L[i]? = some (.ob b t cs)) : W.heap[b]? = some (.cells cs.toArray t (0, 0)) := (h.in i e).2
theorem DrH.at {w W : World} {C : Nat} {L : List Th} (h : DrH w C L W) (i : Nat) {b : Nat} {t : TypeId} {cs : List Value} (e : L[i]? = some (.ob b t cs)) (k : Nat) {v : Value} (hv : cs[k]? = some v) : W.cell? ⟨b, k, none⟩ = some v := by
  rw [cell_of_row W b k _ _ _ (h.get i e), List.getElem?_toArray]; exact hv
theorem DrH.frozen {w W : World} {C : Nat} {L : List Th} (h : DrH w C L W) (i : Nat) {b : Nat} {t : TypeId} {cs : List Value} (e : L[i]? = some (.ob b t cs)) (k : Nat) : W.frozen? ⟨b, k, none⟩ = false := frozen_of_row _ _ _ _ _ (h.get i e)
theorem DrH.reads {w W : World} {C : Nat} {L : List Th} (h : DrH w C L W) (i : Nat) {R : List Rng} (e : L[i]? = some (.rd R)) : RdIn W R := h.in i e
theorem DrH.pick {w W : World} {C : Nat} {L M : List Th} (h : DrH w C L W) (is : List Nat) (e : is.map (fun i => L[i]?) = M.map some) : Hold w.heap.size M W := fun x hx => by
  have : some x ∈ M.map some := List.mem_map.2 ⟨x, hx, rfl⟩
  rw [← e, List.mem_map] at this
  obtain ⟨i, _, hi⟩ := this
  exact h.in i hi
theorem pull_mem {L M : List Th} (is : List Nat) (e : is.map (fun i => L[i]?) = M.map some) {x : Th} (hx : x ∈ M) : x ∈ L := by
  have : some x ∈ M.map some := List.mem_map.2 ⟨x, hx, rfl⟩
  rw [← e, List.mem_map] at this
  obtain ⟨i, _, hi⟩ := this
  exact List.mem_of_getElem? hi
theorem DrH.pull {w W : World} {C : Nat} {L M : List Th} (h : DrH w C L W) (is : List Nat) (e : is.map (fun i => L[i]?) = M.map some) (hn : M.Pairwise Th.Apart) : DrH w C M W :=
  h.step (Nat.le_refl _) (fun _ _ hp => hp.pull is e hn) (fun x hx => h.off x (pull_mem is e hx)) (fun x hx => h.nocd x (pull_mem is e hx))
theorem DrH.drew {w W : World} {C : Nat} {L : List Th} (h : DrH w C L W) : DrH w C L W.drew := h.step (Nat.le_refl _) (fun _ _ hp => hp.drew) h.off h.nocd
theorem DrH.calls {w W W' : World} {C : Nat} {L : List Th} (h : DrH w C L W) (hb : Below W.heap.size W W') : DrH w C L W' := h.step hb.size (fun _ _ hp => hp.calls hb) h.off h.nocd
theorem DrH.put {w W : World} {C : Nat} {L : List Th} (h : DrH w C L W) (t : TypeId) (cs : List Value) : DrH w C (L ++ [.ob W.heap.size t cs]) (W.alloc (.cells cs.toArray t)) :=
  h.step ((Below.refl W.heap.size W).alloc (Nat.le_refl _) _).size (fun _ _ hp => hp.put t cs) (fun x hx => by
    rcases List.mem_append.1 hx with hx | hx
    · exact h.off x hx
    · obtain rfl := List.mem_singleton.1 hx
      exact fun b hb => absurd hb List.not_mem_nil) (fun x hx => by
    rcases List.mem_append.1 hx with hx | hx
    · exact h.nocd x hx
    · obtain rfl := List.mem_singleton.1 hx
      intro c hc
      cases hc)
theorem DrH.row {w W : World} {C : Nat} {L : List Th} (h : DrH w C L W) (i : Nat) {b : Nat} {t : TypeId} {cs : List Value} (e : L[i]? = some (.ob b t cs)) (cs' : List Value) : DrH w C (L.set i (.ob b t cs')) (W.setRow b cs'.toArray) :=
  h.step (by simp [World.setRow]) (fun _ _ hp => hp.row i e cs') (fun x hx => by
    rcases List.mem_or_eq_of_mem_set hx with hx | rfl
    · exact h.off x hx
    · exact fun b hb => absurd hb List.not_mem_nil) (fun x hx => by
    rcases List.mem_or_eq_of_mem_set hx with hx | rfl
    · exact h.nocd x hx
    · intro c hc
      cases hc)
theorem DrH.set {w W : World} {C : Nat} {L : List Th} (h : DrH w C L W) (i : Nat) {b : Nat} {t : TypeId} {cs : List Value} (e : L[i]? = some (.ob b t cs)) (k : Nat) (v : Value) : DrH w C (L.set i (.ob b t (cs.set k v))) (W.setCell ⟨b, k, none⟩ v) :=
  h.step (by simp [World.setCell]) (fun _ _ hp => hp.set i e k v) (fun x hx => by
    rcases List.mem_or_eq_of_mem_set hx with hx | rfl
    · exact h.off x hx
    · exact fun b hb => absurd hb List.not_mem_nil) (fun x hx => by
    rcases List.mem_or_eq_of_mem_set hx with hx | rfl
    · exact h.nocd x hx
    · intro c hc
      cases hc)
theorem DrH.addrd {w W W' : World} {C : Nat} {L : List Th} (h : DrH w C L W) (hb : Below W.heap.size W W') (R : List Rng) (hR : RdIn W' R) (hr : ∀ r ∈ R, W.heap.size ≤ r.1 ∨ ∃ z ∈ L, r.1 ∈ z.reads) : DrH w C (L ++ [.rd R]) W' :=
  h.step hb.size (fun _ _ hp => hp.addrd hb R hR hr) (fun x hx => by
    rcases List.mem_append.1 hx with hx | hx
    · exact h.off x hx
    · obtain rfl := List.mem_singleton.1 hx
      intro b hb
      obtain ⟨r, hr', rfl⟩ := List.mem_map.1 hb
      rcases hr r hr' with h1 | ⟨z, hz, h1⟩
      · have := h.bes.size
        omega
      · exact h.off z hz _ h1) (fun x hx => by
    rcases List.mem_append.1 hx with hx | hx
    · exact h.nocd x hx
    · obtain rfl := List.mem_singleton.1 hx
      intro c hc
      cases hc)
theorem keep_nocd {B : Nat} {W W' : World} {x : Th} (h : x.In B W) (hc : ∀ c, x ≠ .cd c) (hs : W.heap.size ≤ W'.heap.size) (hx : ∀ b, x.blk = some b → W'.heap[b]? = W.heap[b]?) (hr : ∀ b ∈ x.reads, W'.heap[b]? = W.heap[b]?) : x.In B W' := by
  cases x with
  | ob c t cs => exact ⟨h.1, (hx c rfl).trans h.2⟩
  | sl v e z n xs =>
    refine ⟨h.1, ?_⟩
    rcases h.2 with h0 | ⟨g, cap, cur, hv, hB, hg, hr⟩
    · exact .inl h0
    · exact .inr ⟨g, cap, cur, hv, hB, (hx g (by rw [hv]; rfl)).trans hg, hr⟩
  | cd C => exact absurd rfl (hc C)
  | rd R => exact RdIn.keep h hs hr
theorem DrH.draws {w W W' : World} {C : Nat} {L : List Th} (h : DrH w C L W) (hb : Besides C W W') (hc : CodesOk W' C) : DrH w C L W' := by
  obtain ⟨bes, cod, lt, off, nocd, w', e, hp⟩ := h
  have hsz : w.heap.size ≤ W'.heap.size := Nat.le_trans bes.size hb.size
  have e2 : (W'.heap.extract 0 w.heap.size).size = w.heap.size := by rw [Array.size_extract]; omega
  refine ⟨bes.trans hb, hc, lt, off, nocd, { W' with heap := W'.heap.extract 0 w.heap.size }, e2, ⟨rfl, rfl, rfl, ?_, fun k hk => ?_⟩, fun x hx => ?_, hp.nd⟩
  · show (W'.heap.extract 0 w.heap.size).size ≤ W'.heap.size
    omega
  · have hk' : k < (W'.heap.extract 0 w.heap.size).size := hk
    show W'.heap[k]? = (W'.heap.extract 0 w.heap.size)[k]?
    rw [Array.getElem?_extract]
    rw [if_pos (by omega)]
    simp
  · show x.In (W'.heap.extract 0 w.heap.size).size W'
    rw [e2, ← e]
    exact keep_nocd (hp.all x hx) (nocd x hx) hb.size (fun b h1 => hb.block b ((hp.all x hx).from h1).2 (by have := ((hp.all x hx).from h1).1; omega)) (fun b h1 => hb.block b ((hp.all x hx).reads_lt h1) (by have := off x hx b h1; omega))
theorem set_off {P : Th → Prop} {L : List Th} (h : ∀ x ∈ L, P x) (i : Nat) {y : Th} (hy : P y) : ∀ x ∈ L.set i y, P x := fun x hx => by
  rcases List.mem_or_eq_of_mem_set hx with hx | rfl
  · exact h x hx
  · exact hy
theorem DrH.own {w W : World} {C : Nat} {L : List Th} (h : DrH w C L W) (i : Nat) {v : Value} {t : TypeId} {z n : Nat} {xs : List Value} (e : L[i]? = some (.sl v t z n xs)) : W.ownsRow w.heap.size t z v n xs := h.in i e
theorem DrH.ne {w W : World} {C : Nat} {L : List Th} (h : DrH w C L W) (i j : Nat) {x y : Th} {b c : Nat} (ei : L[i]? = some x) (ej : L[j]? = some y) (hij : i ≠ j) (hb : x.blk = some b) (hc : y.blk = some c) : b ≠ c := fun e => by
  subst e
  exact (apart_at h.nd i j x y ei ej hij).1 b hb |>.1 hc
theorem DrH.grown {w W W' : World} {C : Nat} {L : List Th} (h : DrH w C L W) (i : Nat) {v v' : Value} {t : TypeId} {z n m : Nat} {xs ys : List Value} (e : L[i]? = some (.sl v t z n xs)) (ho : W'.ownsRow w.heap.size t z v' m ys) (hg : W.grownBy W' v.ownBlock) (hb : v'.ownBlock = v.ownBlock ∨ v'.ownBlock = some W.heap.size) : DrH w C (L.set i (.sl v' t z m ys)) W' :=
  h.step hg.size (fun w' ew hp => hp.grown i e (by rw [ew]; exact ho) hg hb) (set_off h.off i (fun b hb => absurd hb List.not_mem_nil)) (set_off h.nocd i (fun c hc => by cases hc))
theorem DrH.append {w W : World} {C : Nat} {L : List Th} (h : DrH w C L W) (i : Nat) {v : Value} {e : TypeId} {z n : Nat} {xs : List Value} (ei : L[i]? = some (.sl v e z n xs)) (j : Nat) {b : Nat} {t' : TypeId} {ys : List Value} (ej : L[j]? = some (.ob b t' ys))
    (ts : TypeId) (ty : TypeId) {bytes : Nat} (ht : Try.prog.underlying ts = some (.slice e)) (he : ElemIs e z bytes) (m c : Nat) (hl : ys.length = m * z) (h1 : ∀ u ∈ ys, u.oneCell' = true) (hn : n + m ≤ 1048576) :
    ∃ v' W', (Builtin.append_ #[ts, ts] ty #[v, .slice (some ⟨b, 0, none⟩) m c]).run Try.prog W = .ok v' W' ∧ DrH w C (L.set i (.sl v' e z (n + m) (xs ++ ys))) W' ∧ (v' = .slice none 0 0 ↔ v = .slice none 0 0 ∧ m = 0) := by
  obtain ⟨inf, zv, hi, hz, hsize, hby, hzs⟩ := he.is
  have hroom := he.room
  have hcell : ∀ q u, ys[q]? = some u → W.cell? ((⟨b, 0, none⟩ : Addr).add q) = some u := fun q u hu => by
    rw [Addr.add_mid, Nat.zero_add]
    exact h.at j ej q hu
  obtain ⟨v', W', hr, h2, h3, h4, h5⟩ := run_append_own_at (P := Try.prog) W w.heap.size ts ty e inf zv z bytes ht hi hz hsize hby hzs he.pos v n xs (h.own i ei) ⟨b, 0, none⟩ m c ys hl hcell h1 (by unfold maxLen; omega) (by
    have := Nat.mul_le_mul hn hroom
    omega) h.bes.size
  exact ⟨v', W', hr, h.grown i ei h2 h3 h5, h4⟩
end Go.Proofs.Ytcnaalbpbalgdaa
/- the choices of the drawing package: Grant -/
namespace Go.Proofs.Ytcnaalbpbalgdaa
open Go.RowKit
set_option maxRecDepth 20000
set_option linter.unusedSimpArgs false
set_option linter.unusedVariables false

theorem build_lk2 (p s : Int) (W : World) : Sem.run Try.prog (Instr.build 27 #[(0, .int .i64 p), (1, .int .i64 s)]) W = .ok (.agg (lkCells ⟨p, s⟩).toArray) W := by kernel_rfl
theorem build_gr3 (t p s m : Int) (W : World) : Sem.run Try.prog (Instr.build 29 #[(0, .int .i64 t), (1, .agg (lkCells ⟨p, s⟩).toArray), (2, .int .i64 m)]) W = .ok (.agg (grCells ⟨t, p, s, m⟩).toArray) W := by kernel_rfl
def GrantPost (C : Nat) (w : World) (e : Ending) (w' : World) : Prop := ∃ g : Gr, e = .returned (.agg (grCells g).toArray) ∧ GrOk g ∧ Besides C w w' ∧ CodesOk w' C ∧ leftIn w' C ≤ leftIn w C - 1
/-- beside it: of whom -/
def GrantPost5 (C : Nat) (w : World) (e : Ending) (w' : World) : Prop := ∃ g : Gr, e = .returned (.agg (grCells g).toArray) ∧ GrOk g ∧ g.tx ≤ 5 ∧ Besides C w w' ∧ CodesOk w' C ∧ leftIn w' C ≤ leftIn w C - 1
set_option maxHeartbeats 4000000 in
theorem grant5_any (C : Nat) (w : World) (h : CodesOk w C) :
    Calls Try.prog 14 #[.pointer (some ⟨C, 0, none⟩)] w (GrantPost5 C w) := by
  obtain ⟨fsHUG, huHUG⟩ := under_gr
  have HUG := Lib.hid huHUG
  clear huHUG
  obtain ⟨fsHUK, huHUK⟩ := under_lk
  have HUK := Lib.hid huHUK
  clear huHUK
  obtain ⟨fsHUT, huHUT⟩ := under_tb
  have HUT := Lib.hid huHUT
  clear huHUT
  have hlt := h.lt
  have HLt := Lib.hid hlt
  have h1 := (DrH.start h).put 29 (grCells grNil)
  have HS0 : Hid (DrH w C [.ob w.heap.size 29 (grCells grNil)] (w.alloc (.cells #[.int .i64 0, .int .i64 0, .int .i64 0, .int .i64 0] 29))) := h1
  have HL0 : Hid (leftIn (w.alloc (.cells #[.int .i64 0, .int .i64 0, .int .i64 0, .int .i64 0] 29)) C = leftIn w C) := Lib.hid (leftIn_below (B := w.heap.size) ((Below.refl _ _).alloc (Nat.le_refl _) _) hlt)
  clear h h1 hlt
  go_enter Try.func14, Try.ntmps14
  go_upto_region 1 with (fail)
  generalize (w.alloc (.cells #[.int .i64 0, .int .i64 0, .int .i64 0, .int .i64 0] 29)) = w1 at *
  go_wp2_with fail
  refine (left_small C 5 _ (HS0.out).codes (by decide) (by decide)).mono ?_
  rintro e w3 ⟨n, rfl, n0, n1, hb, hc, hl⟩
  have HS2 : Hid (DrH w C [.ob (w.heap.size) 29 (grCells grNil)] w3) := (HS0.out).draws hb hc
  clear hb hc
  clear HS0
  have HL1 := Lib.hid hl
  have n2 : n < 5 := by omega
  clear hl n1
  have wna : IntKind.i64.wrap (1 + n) = 1 + n := IntWalk.i64_in _ (by omega)
  have wnb : wrap64 (1 + n) = 1 + n := IntWalk.wrap64_in _ (by omega)
  go_wp2_with fail
  refine (left_small C 2 _ (HS2.out).codes (by decide) (by decide)).mono ?_
  rintro e w4 ⟨p, rfl, p0, p1, hb, hc, hl⟩
  have HS3 : Hid (DrH w C [.ob (w.heap.size) 29 (grCells grNil)] w4) := (HS2.out).draws hb hc
  clear hb hc
  clear HS2
  have HL2 := Lib.hid hl
  have p2 : p < 2 := by omega
  clear hl p1
  go_wp2_with fail
  refine (left_small C 2 _ (HS3.out).codes (by decide) (by decide)).mono ?_
  rintro e w5 ⟨s, rfl, s0, s1, hb, hc, hl⟩
  have HS4 : Hid (DrH w C [.ob (w.heap.size) 29 (grCells grNil)] w5) := (HS3.out).draws hb hc
  clear hb hc
  clear HS3
  have HL3 := Lib.hid hl
  have s2 : s < 2 := by omega
  clear hl s1
  go_wp2_with (first | ((with_reducible refine wpList_build_v (d := some 10) 27 (.agg (lkCells (⟨p, s⟩ : Lok)).toArray) ?_ ?_); (intro W; simp only [List.map_toArray, List.map_cons, List.map_nil]; exact build_lk2 _ _ W); simp only [Act.put, List.setIfInBounds_toArray, List.set_cons_zero, List.set_cons_succ]))
  refine (left_small C 2 _ (HS4.out).codes (by decide) (by decide)).mono ?_
  rintro e w6 ⟨m, rfl, m0, m1, hb, hc, hl⟩
  have HS5 : Hid (DrH w C [.ob (w.heap.size) 29 (grCells grNil)] w6) := (HS4.out).draws hb hc
  clear hb hc
  clear HS4
  have HL4 := Lib.hid hl
  have m2 : m < 2 := by omega
  clear hl m1
  have wma : IntKind.i64.wrap (1 + m) = 1 + m := IntWalk.i64_in _ (by omega)
  have wmb : wrap64 (1 + m) = 1 + m := IntWalk.wrap64_in _ (by omega)
  go_wp2_with (first | ((with_reducible refine wpList_build_v (d := some 14) 29 (.agg (grCells (⟨1 + n, p, s, 1 + m⟩ : Gr)).toArray) ?_ ?_); (intro W; simp only [List.map_toArray, List.map_cons, List.map_nil]; exact build_gr3 _ _ _ _ W); simp only [Act.put, List.setIfInBounds_toArray, List.set_cons_zero, List.set_cons_succ]) | ((with_reducible refine wpList_store_ob 29 (.tmp 2) (w.heap.size) (grCells (⟨1 + n, p, s, 1 + m⟩ : Gr)) (grCells grNil) 29 ?_ ?_ ?_ ?_ ?_ ?_ ?_); (exact rfl); (exact rfl); (exact (HS5.out).get 0 rfl); (exact info_gr); (exact rfl); (exact (oneCell_gr _)); skip))
  have HLe : Hid (leftIn (w6.setRow (w.heap.size) (grCells (⟨1 + n, p, s, 1 + m⟩ : Gr)).toArray) C = leftIn w6 C) := Lib.hid (leftIn_of (setRow_other _ _ _ _ (Nat.ne_of_lt HLt.out)))
  have HS6 : Hid (DrH w C [.ob (w.heap.size) 29 (grCells (⟨1 + n, p, s, 1 + m⟩ : Gr))] (w6.setRow (w.heap.size) (grCells (⟨1 + n, p, s, 1 + m⟩ : Gr)).toArray)) := (HS5.out).row 0 rfl (grCells (⟨1 + n, p, s, 1 + m⟩ : Gr))
  clear HS5
  generalize (w6.setRow (w.heap.size) (grCells (⟨1 + n, p, s, 1 + m⟩ : Gr)).toArray) = w7 at *
  refine bodyPost_ret (results_ob Try.results14 _ _ (w.heap.size) (grCells ⟨1 + n, p, s, 1 + m⟩) 29 _ rfl ((HS6.out).get 0 rfl) HUG.out rfl info_gr) rfl ?_
  exact ⟨⟨1 + n, p, s, 1 + m⟩, rfl, ⟨by simp only; omega, by simp only; omega, by simp only; omega, by simp only; omega⟩, by simp only; omega, (HS6.out).bes, (HS6.out).codes, by have l0 := HL0.out; have l1 := HL1.out; have l2 := HL2.out; have l3 := HL3.out; have l4 := HL4.out; have l5 := HLe.out; omega⟩
theorem grant_any (C : Nat) (w : World) (h : CodesOk w C) :
    Calls Try.prog 14 #[.pointer (some ⟨C, 0, none⟩)] w (GrantPost C w) := by
  refine (grant5_any C w h).mono ?_
  rintro e w' ⟨g, h1, h2, _, h3⟩
  exact ⟨g, h1, h2, h3⟩
end Go.Proofs.Ytcnaalbpbalgdaa
/- the choices of the drawing package: Locks -/
namespace Go.Proofs.Ytcnaalbpbalgdaa
open Go.RowKit
set_option maxRecDepth 20000
set_option linter.unusedSimpArgs false
set_option linter.unusedVariables false

theorem tb_as {f : FuncId} {args : Array Value} {w w1 : World} {R : List Rng} {x y : Tb} (h : x = y) (c : Calls Try.prog f args w (TbPost w1 R x)) : Calls Try.prog f args w (TbPost w1 R y) := h ▸ c
theorem tb3_as {f : FuncId} {args : Array Value} {w w1 : World} {R : List Rng} {x y : Tb × Bool × Int} (h : x = y) (c : Calls Try.prog f args w (TbPost3 w1 R x)) : Calls Try.prog f args w (TbPost3 w1 R y) := h ▸ c
end Go.Proofs.Ytcnaalbpbalgdaa
/- the sanity check of the laws of chapter 8 -/
namespace Go.Proofs.Ytcnaalbpbalgdaa
open Go.RowKit
set_option maxRecDepth 20000
set_option linter.unusedSimpArgs false
set_option linter.unusedVariables false

theorem build_lk1 (p : Int) (W : World) : Sem.run Try.prog (Instr.build 27 #[(0, .int .i64 p)]) W = .ok (.agg (lkCells ⟨p, 0⟩).toArray) W := by kernel_rfl
theorem build_kx (tx m : Int) (W : World) : Sem.run Try.prog (Instr.build 29 #[(0, .int .i64 tx), (1, .agg (lkCells ⟨1, 0⟩).toArray), (2, .int .i64 m)]) W = .ok (.agg (grCells (kx tx m)).toArray) W := by kernel_rfl
set_option maxHeartbeats 8000000 in
theorem awake8 (w : World) : Calls Try.prog 8 #[] w fun e w' => e = .returned (.bool true) ∧ Below w.heap.size w w' := by
  obtain ⟨t1, t2, t3, t4, ⟨e1, o1⟩, ⟨e2, o2⟩, ⟨e3, o3⟩, ⟨e4, o4⟩, e5⟩ := awake_facts
  have HE1 := Lib.hid e1
  have HE2 := Lib.hid e2
  have HE3 := Lib.hid e3
  have HE4 := Lib.hid e4
  have HE5 := Lib.hid e5
  have HO1 := Lib.hid o1.good
  have HO2 := Lib.hid o2.good
  have HO3 := Lib.hid o3.good
  have HO4 := Lib.hid o4.good
  have HK : Hid (∀ tx m, (tx = 1 ∨ tx = 2) → (m = 1 ∨ m = 2) → GoodGr (kx tx m)) := Lib.hid (fun tx m h1 h2 => (kx_ok h1 h2).good)
  have HN : Hid (GoodTb tbNil) := Lib.hid tbNil_ok.good
  clear e1 e2 e3 e4 e5 o1 o2 o3 o4
  obtain ⟨fsHUG, huHUG⟩ := under_gr
  have HUG := Lib.hid huHUG
  clear huHUG
  obtain ⟨fsHUK, huHUK⟩ := under_lk
  have HUK := Lib.hid huHUK
  clear huHUK
  obtain ⟨fsHUT, huHUT⟩ := under_tb
  have HUT := Lib.hid huHUT
  clear huHUT
  have HS0 := Lib.hid (Hp.start w)
  go_enter Try.func8, Try.ntmps8
  go_wp2_with (first | ((with_reducible refine wpList_build_v (d := some 9) 27 (.agg (lkCells (⟨1, 0⟩ : Lok)).toArray) ?_ ?_); (intro W; simp only [List.map_toArray, List.map_cons, List.map_nil]; exact build_lk1 _ W); simp only [Act.put, List.setIfInBounds_toArray, List.set_cons_zero, List.set_cons_succ]) | ((with_reducible refine wpList_alloc_ob 27 (lkCells lkNil) ?_ ?_); (exact alloc_lk); simp only [Act.put, List.setIfInBounds_toArray, List.set_cons_zero, List.set_cons_succ]) | ((with_reducible refine wpList_store_ob 27 (.tmp 1) (w.heap.size) (lkCells (⟨1, 0⟩ : Lok)) (lkCells lkNil) 27 ?_ ?_ ?_ ?_ ?_ ?_ ?_); (exact rfl); (exact rfl); (exact ((HS0.out).put 27 (lkCells lkNil)).get 0 rfl); (exact info_lk); (exact rfl); (exact (oneCell_lk _)); skip) | ((with_reducible refine wpList_build_v (d := some 11) 25 (.agg (tbCells (.slice none 0 0) (.slice none 0 0)).toArray) ?_ ?_); (intro W; simp only [List.map_toArray, List.map_cons, List.map_nil]; exact build_tb0 W); simp only [Act.put, List.setIfInBounds_toArray, List.set_cons_zero, List.set_cons_succ]) | ((with_reducible refine wpList_load_ob 27 (.tmp 1) (w.heap.size) (lkCells (⟨1, 0⟩ : Lok)) 27 HUK.out ?_ ?_ ?_ ?_ ?_); (exact rfl); (exact (((HS0.out).put 27 (lkCells lkNil)).row 0 rfl (lkCells (⟨1, 0⟩ : Lok))).get 0 rfl); (exact rfl); (exact info_lk); simp only [Act.put, List.setIfInBounds_toArray, List.set_cons_zero, List.set_cons_succ]) | ((with_reducible refine wpList_build_v (d := some 13) 29 (.agg (grCells (kx 1 1)).toArray) ?_ ?_); (intro W; simp only [List.map_toArray, List.map_cons, List.map_nil]; exact build_kx _ _ W); simp only [Act.put, List.setIfInBounds_toArray, List.set_cons_zero, List.set_cons_succ]))
  refine (tb3_as HE1.out (prequest_any (kx 1 1) _ (TbRd.nil []) (RdIn.nil _) HN.out (HK.out _ _ (by decide) (by decide)))).mono ?_
  rintro e w1 ⟨h9, v9, R1, rfl, hrd2, hin2, hnew2, hb⟩
  obtain ⟨a1, c1, rfl, _, _⟩ := hrd2.1.shape
  obtain ⟨b1, d1, rfl, _, _⟩ := hrd2.2.shape
  have Hrd1 := Lib.hid hrd2
  have HS1 : Hid (Hp w [.ob (w.heap.size) 27 (lkCells (⟨1, 0⟩ : Lok)), .rd R1] w1) := (((HS0.out).put 27 (lkCells lkNil)).row 0 rfl (lkCells (⟨1, 0⟩ : Lok))).addrd hb R1 hin2 (fun r hr => (hnew2 r hr).elim .inl (fun h => .inr (absurd h (by simp))))
  clear hb hin2 hrd2 hnew2
  clear HS0
  go_wp2_with (first | ((with_reducible refine wpList_alloc_ob 25 (tbCells (.slice none 0 0) (.slice none 0 0)) ?_ ?_); (exact alloc_tb); simp only [Act.put, List.setIfInBounds_toArray, List.set_cons_zero, List.set_cons_succ]) | ((with_reducible refine wpList_store_ob 25 (.tmp 2) (w1.heap.size) (tbCells (.slice a1 t1.held.length c1) (.slice b1 t1.wait.length d1)) (tbCells (.slice none 0 0) (.slice none 0 0)) 25 ?_ ?_ ?_ ?_ ?_ ?_ ?_); (exact rfl); (exact rfl); (exact ((HS1.out).put 25 (tbCells (.slice none 0 0) (.slice none 0 0))).get 2 rfl); (exact info_tb); (exact rfl); (exact (oneCell_tb _ _ _ _ _ _)); skip) | ((with_reducible refine wpList_load_ob 25 (.tmp 2) (w1.heap.size) (tbCells (.slice a1 t1.held.length c1) (.slice b1 t1.wait.length d1)) 25 HUT.out ?_ ?_ ?_ ?_ ?_); (exact rfl); (exact (((HS1.out).put 25 (tbCells (.slice none 0 0) (.slice none 0 0))).row 2 rfl (tbCells (.slice a1 t1.held.length c1) (.slice b1 t1.wait.length d1))).get 2 rfl); (exact rfl); (exact info_tb); simp only [Act.put, List.setIfInBounds_toArray, List.set_cons_zero, List.set_cons_succ]) | ((with_reducible refine wpList_load_ob 27 (.tmp 1) (w.heap.size) (lkCells (⟨1, 0⟩ : Lok)) 27 HUK.out ?_ ?_ ?_ ?_ ?_); (exact rfl); (exact (((HS1.out).put 25 (tbCells (.slice none 0 0) (.slice none 0 0))).row 2 rfl (tbCells (.slice a1 t1.held.length c1) (.slice b1 t1.wait.length d1))).get 0 rfl); (exact rfl); (exact info_lk); simp only [Act.put, List.setIfInBounds_toArray, List.set_cons_zero, List.set_cons_succ]) | ((with_reducible refine wpList_build_v (d := some 21) 29 (.agg (grCells (kx 2 1)).toArray) ?_ ?_); (intro W; simp only [List.map_toArray, List.map_cons, List.map_nil]; exact build_kx _ _ W); simp only [Act.put, List.setIfInBounds_toArray, List.set_cons_zero, List.set_cons_succ]))
  refine (tb3_as HE2.out (prequest_any (kx 2 1) _ Hrd1.out ((((HS1.out).put 25 (tbCells (.slice none 0 0) (.slice none 0 0))).row 2 rfl (tbCells (.slice a1 t1.held.length c1) (.slice b1 t1.wait.length d1))).reads 1 rfl) HO1.out (HK.out _ _ (by decide) (by decide)))).mono ?_
  rintro e w2 ⟨h9, v9, R2, rfl, hrd2, hin2, hnew2, hb⟩
  obtain ⟨a2, c2, rfl, _, _⟩ := hrd2.1.shape
  obtain ⟨b2, d2, rfl, _, _⟩ := hrd2.2.shape
  have Hrd2 := Lib.hid hrd2
  have HS2 : Hid (Hp w [.ob (w.heap.size) 27 (lkCells (⟨1, 0⟩ : Lok)), .rd R1, .ob (w1.heap.size) 25 (tbCells (.slice a1 t1.held.length c1) (.slice b1 t1.wait.length d1)), .rd R2] w2) := (((HS1.out).put 25 (tbCells (.slice none 0 0) (.slice none 0 0))).row 2 rfl (tbCells (.slice a1 t1.held.length c1) (.slice b1 t1.wait.length d1))).addrd hb R2 hin2 (fun r hr => (hnew2 r hr).elim .inl (fun h => .inr ⟨.rd R1, List.mem_of_getElem? (i := 1) rfl, h⟩))
  clear hb hin2 hrd2 hnew2
  clear HS1
  generalize w1.heap.size = B1 at *
  go_wp2_with (first | ((with_reducible refine wpList_store_ob 25 (.tmp 2) B1 (tbCells (.slice a2 t2.held.length c2) (.slice b2 t2.wait.length d2)) (tbCells (.slice a1 t1.held.length c1) (.slice b1 t1.wait.length d1)) 25 ?_ ?_ ?_ ?_ ?_ ?_ ?_); (exact rfl); (exact rfl); (exact (HS2.out).get 2 rfl); (exact info_tb); (exact rfl); (exact (oneCell_tb _ _ _ _ _ _)); skip) | ((with_reducible refine wpList_load_ob 25 (.tmp 2) B1 (tbCells (.slice a2 t2.held.length c2) (.slice b2 t2.wait.length d2)) 25 HUT.out ?_ ?_ ?_ ?_ ?_); (exact rfl); (exact ((HS2.out).row 2 rfl (tbCells (.slice a2 t2.held.length c2) (.slice b2 t2.wait.length d2))).get 2 rfl); (exact rfl); (exact info_tb); simp only [Act.put, List.setIfInBounds_toArray, List.set_cons_zero, List.set_cons_succ]) | ((with_reducible refine wpList_load_ob 27 (.tmp 1) (w.heap.size) (lkCells (⟨1, 0⟩ : Lok)) 27 HUK.out ?_ ?_ ?_ ?_ ?_); (exact rfl); (exact ((HS2.out).row 2 rfl (tbCells (.slice a2 t2.held.length c2) (.slice b2 t2.wait.length d2))).get 0 rfl); (exact rfl); (exact info_lk); simp only [Act.put, List.setIfInBounds_toArray, List.set_cons_zero, List.set_cons_succ]) | ((with_reducible refine wpList_build_v (d := some 29) 29 (.agg (grCells (kx 1 2)).toArray) ?_ ?_); (intro W; simp only [List.map_toArray, List.map_cons, List.map_nil]; exact build_kx _ _ W); simp only [Act.put, List.setIfInBounds_toArray, List.set_cons_zero, List.set_cons_succ]))
  refine (tb3_as HE3.out (prequest_any (kx 1 2) _ Hrd2.out (((HS2.out).row 2 rfl (tbCells (.slice a2 t2.held.length c2) (.slice b2 t2.wait.length d2))).reads 3 rfl) HO2.out (HK.out _ _ (by decide) (by decide)))).mono ?_
  rintro e w3 ⟨h9, v9, R3, rfl, hrd2, hin2, hnew2, hb⟩
  obtain ⟨a3, c3, rfl, _, _⟩ := hrd2.1.shape
  obtain ⟨b3, d3, rfl, _, _⟩ := hrd2.2.shape
  have Hrd3 := Lib.hid hrd2
  have HS3 : Hid (Hp w [.ob (w.heap.size) 27 (lkCells (⟨1, 0⟩ : Lok)), .rd R1, .ob B1 25 (tbCells (.slice a2 t2.held.length c2) (.slice b2 t2.wait.length d2)), .rd R2, .rd R3] w3) := ((HS2.out).row 2 rfl (tbCells (.slice a2 t2.held.length c2) (.slice b2 t2.wait.length d2))).addrd hb R3 hin2 (fun r hr => (hnew2 r hr).elim .inl (fun h => .inr ⟨.rd R2, List.mem_of_getElem? (i := 3) rfl, h⟩))
  clear hb hin2 hrd2 hnew2
  clear HS2
  go_wp2_with (first | ((with_reducible refine wpList_store_ob 25 (.tmp 2) B1 (tbCells (.slice a3 t3.held.length c3) (.slice b3 t3.wait.length d3)) (tbCells (.slice a2 t2.held.length c2) (.slice b2 t2.wait.length d2)) 25 ?_ ?_ ?_ ?_ ?_ ?_ ?_); (exact rfl); (exact rfl); (exact (HS3.out).get 2 rfl); (exact info_tb); (exact rfl); (exact (oneCell_tb _ _ _ _ _ _)); skip) | ((with_reducible refine wpList_load_ob 25 (.tmp 2) B1 (tbCells (.slice a3 t3.held.length c3) (.slice b3 t3.wait.length d3)) 25 HUT.out ?_ ?_ ?_ ?_ ?_); (exact rfl); (exact ((HS3.out).row 2 rfl (tbCells (.slice a3 t3.held.length c3) (.slice b3 t3.wait.length d3))).get 2 rfl); (exact rfl); (exact info_tb); simp only [Act.put, List.setIfInBounds_toArray, List.set_cons_zero, List.set_cons_succ]))
  refine (tb_as HE4.out (prelease_any 2 _ Hrd3.out (((HS3.out).row 2 rfl (tbCells (.slice a3 t3.held.length c3) (.slice b3 t3.wait.length d3))).reads 4 rfl) HO3.out)).mono ?_
  rintro e w4 ⟨h9, v9, R4, rfl, hrd2, hin2, hnew2, hb⟩
  obtain ⟨a4, c4, rfl, _, _⟩ := hrd2.1.shape
  obtain ⟨b4, d4, rfl, _, _⟩ := hrd2.2.shape
  have Hrd4 := Lib.hid hrd2
  have HS4 : Hid (Hp w [.ob (w.heap.size) 27 (lkCells (⟨1, 0⟩ : Lok)), .rd R1, .ob B1 25 (tbCells (.slice a3 t3.held.length c3) (.slice b3 t3.wait.length d3)), .rd R2, .rd R3, .rd R4] w4) := ((HS3.out).row 2 rfl (tbCells (.slice a3 t3.held.length c3) (.slice b3 t3.wait.length d3))).addrd hb R4 hin2 (fun r hr => (hnew2 r hr).elim .inl (fun h => .inr ⟨.rd R3, List.mem_of_getElem? (i := 4) rfl, h⟩))
  clear hb hin2 hrd2 hnew2
  clear HS3
  go_wp2_with (first | ((with_reducible refine wpList_store_ob 25 (.tmp 2) B1 (tbCells (.slice a4 t4.held.length c4) (.slice b4 t4.wait.length d4)) (tbCells (.slice a3 t3.held.length c3) (.slice b3 t3.wait.length d3)) 25 ?_ ?_ ?_ ?_ ?_ ?_ ?_); (exact rfl); (exact rfl); (exact (HS4.out).get 2 rfl); (exact info_tb); (exact rfl); (exact (oneCell_tb _ _ _ _ _ _)); skip) | ((with_reducible refine wpList_load_ob_w 25 (.tmp 2) B1 (tbCells (.slice a4 t4.held.length c4) (.slice b4 t4.wait.length d4)) 25 HUT.out ?_ ?_ ?_ ?_ ?_ ?_); (exact rfl); (exact rfl); (exact ((HS4.out).row 2 rfl (tbCells (.slice a4 t4.held.length c4) (.slice b4 t4.wait.length d4))).get 2 rfl); (exact rfl); (exact info_tb); simp only [Act.put, List.setIfInBounds_toArray, List.set_cons_zero, List.set_cons_succ]) | ((with_reducible refine wpList_load_ob_w 27 (.tmp 1) (w.heap.size) (lkCells (⟨1, 0⟩ : Lok)) 27 HUK.out ?_ ?_ ?_ ?_ ?_ ?_); (exact rfl); (exact rfl); (exact ((HS4.out).row 2 rfl (tbCells (.slice a4 t4.held.length c4) (.slice b4 t4.wait.length d4))).get 0 rfl); (exact rfl); (exact info_lk); simp only [Act.put, List.setIfInBounds_toArray, List.set_cons_zero, List.set_cons_succ]))
  refine ((pMode_any 1 ⟨1, 0⟩ _ Hrd4.out (((HS4.out).row 2 rfl (tbCells (.slice a4 t4.held.length c4) (.slice b4 t4.wait.length d4))).reads 5 rfl) HO4.out ⟨(by decide : (Lit.int .i64 1).wf = true), (by decide : (Lit.int .i64 0).wf = true)⟩)).mono ?_
  rintro e w5 ⟨rfl, hb⟩
  have HS5 : Hid (Hp w [.ob (w.heap.size) 27 (lkCells (⟨1, 0⟩ : Lok)), .rd R1, .ob B1 25 (tbCells (.slice a4 t4.held.length c4) (.slice b4 t4.wait.length d4)), .rd R2, .rd R3, .rd R4] w5) := ((HS4.out).row 2 rfl (tbCells (.slice a4 t4.held.length c4) (.slice b4 t4.wait.length d4))).calls hb
  clear hb
  clear HS4
  go_wp2_with fail
  have HS6 : Hid (Hp w [.ob (w.heap.size) 27 (lkCells (⟨1, 0⟩ : Lok)), .rd R1, .ob B1 25 (tbCells (.slice a4 t4.held.length c4) (.slice b4 t4.wait.length d4)), .rd R2, .rd R3, .rd R4] w5) := HS5.out
  clear HS5
  have h5 := HE5.out
  simp only [h5]
  go_wp2_with fail
  go_ret
  exact ⟨rfl, HS6.out.old⟩
end Go.Proofs.Ytcnaalbpbalgdaa
/- transactions that ask for one lock get it in the order in which they asked; a table that is nearly full -/
namespace Go.Proofs.Ytcnaalbpbalgdaa
set_option maxRecDepth 20000

def M12 (l : List Int) : Prop := ∀ m ∈ l, m = 1 ∨ m = 2
theorem M12.take {l : List Int} (h : M12 l) (i : Nat) : M12 (l.take i) := fun m hm => h m (List.mem_of_mem_take hm)
theorem M12.drop {l : List Int} (h : M12 l) (i : Nat) : M12 (l.drop i) := fun m hm => h m (List.mem_of_mem_drop hm)
end Go.Proofs.Ytcnaalbpbalgdaa
/- what a walk keeps of memory, beside how many choices are left at most -/
namespace Go.Proofs.Ytcnaalbpbalgdaa
open Go.RowKit
set_option maxRecDepth 20000

structure HpL (w : World) (C m : Nat) (L : List Th) (W : World) : Prop where
  hp : Hp w L W
  has : .cd C ∈ L
  left : leftIn W C ≤ m
theorem HpL.cod {w W : World} {C m : Nat} {L : List Th} (h : HpL w C m L W) : CodesOk W C := (h.hp.all _ h.has).2.1
theorem HpL.old {w W : World} {C m : Nat} {L : List Th} (h : HpL w C m L W) : Below w.heap.size w W := h.hp.old
theorem HpL.nd {w W : World} {C m : Nat} {L : List Th} (h : HpL w C m L W) : L.Pairwise Th.Apart := h.hp.nd
theorem HpL.get {w W : World} {C m : Nat} {L : List Th} (h : HpL w C m L W) (i : Nat) {b : Nat} {t : TypeId} {cs : List Value} (e : L[i]? = some (.ob b t cs)) : W.heap[b]? = some (.cells cs.toArray t (0, 0)) := h.hp.get i e
theorem HpL.at {w W : World} {C m : Nat} {L : List Th} (h : HpL w C m L W) (i : Nat) {b : Nat} {t : TypeId} {cs : List Value} (e : L[i]? = some (.ob b t cs)) (k : Nat) {v : Value} (hv : cs[k]? = some v) : W.cell? ⟨b, k, none⟩ = some v := h.hp.at i e k hv
theorem HpL.frozen {w W : World} {C m : Nat} {L : List Th} (h : HpL w C m L W) (i : Nat) {b : Nat} {t : TypeId} {cs : List Value} (e : L[i]? = some (.ob b t cs)) (k : Nat) : W.frozen? ⟨b, k, none⟩ = false := h.hp.frozen i e k
theorem HpL.codes {w W : World} {C m : Nat} {L : List Th} (h : HpL w C m L W) (i : Nat) {D : Nat} (e : L[i]? = some (.cd D)) : CodesOk W D := h.hp.codes i e
theorem HpL.reads {w W : World} {C m : Nat} {L : List Th} (h : HpL w C m L W) (i : Nat) {R : List Rng} (e : L[i]? = some (.rd R)) : RdIn W R := h.hp.reads i e
theorem HpL.put {w W : World} {C m : Nat} {L : List Th} (h : HpL w C m L W) (t : TypeId) (cs : List Value) : HpL w C m (L ++ [.ob W.heap.size t cs]) (W.alloc (.cells cs.toArray t)) :=
  ⟨h.hp.put t cs, List.mem_append_left _ h.has, by rw [leftIn_below (B := W.heap.size) ((Below.refl _ _).alloc (Nat.le_refl _) _) h.cod.lt]; exact h.left⟩
theorem HpL.ne_cd {w W : World} {C m : Nat} {L : List Th} (h : HpL w C m L W) (i : Nat) {b : Nat} {t : TypeId} {cs : List Value} (e : L[i]? = some (.ob b t cs)) : C ≠ b := by
  obtain ⟨k, hk⟩ := List.mem_iff_getElem?.1 h.has
  have hki : k ≠ i := fun hki => by subst hki; rw [hk] at e; cases e
  exact h.hp.ne k i hk e hki rfl rfl
theorem HpL.row {w W : World} {C m : Nat} {L : List Th} (h : HpL w C m L W) (i : Nat) {b : Nat} {t : TypeId} {cs : List Value} (e : L[i]? = some (.ob b t cs)) (cs' : List Value) : HpL w C m (L.set i (.ob b t cs')) (W.setRow b cs'.toArray) := by
  refine ⟨h.hp.row i e cs', ?_, by rw [leftIn_of (setRow_other _ _ _ _ (h.ne_cd i e))]; exact h.left⟩
  obtain ⟨k, hk⟩ := List.mem_iff_getElem?.1 h.has
  have hki : k ≠ i := fun hki => by subst hki; rw [hk] at e; cases e
  exact List.mem_iff_getElem?.2 ⟨k, by rw [List.getElem?_set_ne (Ne.symm hki)]; exact hk⟩
theorem HpL.set {w W : World} {C m : Nat} {L : List Th} (h : HpL w C m L W) (i : Nat) {b : Nat} {t : TypeId} {cs : List Value} (e : L[i]? = some (.ob b t cs)) (k : Nat) (v : Value) : HpL w C m (L.set i (.ob b t (cs.set k v))) (W.setCell ⟨b, k, none⟩ v) := by
  refine ⟨h.hp.set i e k v, ?_, by rw [leftIn_of (Below.heap_setCell _ _ _ _ (Ne.symm (h.ne_cd i e).symm))]; exact h.left⟩
  obtain ⟨q, hq⟩ := List.mem_iff_getElem?.1 h.has
  have hki : q ≠ i := fun hki => by subst hki; rw [hq] at e; cases e
  exact List.mem_iff_getElem?.2 ⟨q, by rw [List.getElem?_set_ne (Ne.symm hki)]; exact hq⟩
theorem HpL.calls {w W W' : World} {C m : Nat} {L : List Th} (h : HpL w C m L W) (hb : Below W.heap.size W W') : HpL w C m L W' :=
  ⟨h.hp.calls hb, h.has, by rw [leftIn_below hb h.cod.lt]; exact h.left⟩
theorem HpL.addrd {w W W' : World} {C m : Nat} {L : List Th} (h : HpL w C m L W) (hb : Below W.heap.size W W') (R : List Rng) (hR : RdIn W' R) (hr : ∀ r ∈ R, W.heap.size ≤ r.1 ∨ ∃ z ∈ L, r.1 ∈ z.reads) : HpL w C m (L ++ [.rd R]) W' :=
  ⟨h.hp.addrd hb R hR hr, List.mem_append_left _ h.has, by rw [leftIn_below hb h.cod.lt]; exact h.left⟩
theorem HpL.draws {w W W' : World} {C m m' : Nat} {L : List Th} (h : HpL w C m L W) (i : Nat) (e : L[i]? = some (.cd C)) (hb : Besides C W W') (hc : CodesOk W' C) (hl : leftIn W' C ≤ m') : HpL w C m' L W' := by
  have hp := h.hp.draws i e hb hc
  have : L.set i (.cd C) = L := by
    apply List.ext_getElem?
    intro j
    rw [List.getElem?_set]
    split
    · next hij =>
      subst hij
      rw [e]
      split
      · rfl
      · next hlt => rw [List.getElem?_eq_none (by omega)] at e; cases e
    · rfl
  rw [this] at hp
  exact ⟨hp, h.has, hl⟩
theorem HpL.drew {w W : World} {C m : Nat} {L : List Th} (h : HpL w C m L W) : HpL w C m L W.drew := ⟨h.hp.drew, h.has, h.left⟩
theorem HpL.drewN {w W : World} {C m : Nat} {L : List Th} (h : HpL w C m L W) (q : Nat) : HpL w C m L (W.drewN q) := ⟨h.hp.drewN q, h.has, h.left⟩
theorem HpL.pull {w W : World} {C m : Nat} {L M : List Th} (h : HpL w C m L W) (is : List Nat) (e : is.map (fun i => L[i]?) = M.map some) (hn : M.Pairwise Th.Apart) (hc : .cd C ∈ M) : HpL w C m M W := ⟨h.hp.pull is e hn, hc, h.left⟩
theorem HpL.pick {w W : World} {C m : Nat} {L M : List Th} (h : HpL w C m L W) (is : List Nat) (e : is.map (fun i => L[i]?) = M.map some) : Hold w.heap.size M W := h.hp.pick is e
theorem HpL.mid {w W : World} {C m : Nat} {L : List Th} (h : HpL w C m L W) (i : Nat) {b : Nat} {t : TypeId} {cs : List Value} (e : L[i]? = some (.ob b t cs)) (k : Nat) (vs : List Value) (hv : ∀ j v, vs[j]? = some v → cs[k + j]? = some v) : W.rangeAt b k vs := h.hp.mid i e k vs hv
end Go.Proofs.Ytcnaalbpbalgdaa
/- the law LocksPlays: for every input the call returns true -/
namespace Go.Proofs.Ytcnaalbpbalgdaa
open Go.RowKit
set_option maxRecDepth 20000
set_option linter.unusedSimpArgs false
set_option linter.unusedVariables false

set_option maxHeartbeats 4000000 in
theorem lconflict_any (a b : Gr) (w : World) (ha : GoodGr a) (hb : GoodGr b) : Calls Try.prog 31 #[.agg (grCells a).toArray, .agg (grCells b).toArray] w fun e w' => e = .returned (.bool (confB a b)) ∧ Below w.heap.size w w' := by
  have HB : Hid (∀ cs ds, Below w.heap.size w ((w.alloc (.cells cs 29)).alloc (.cells ds 29))) := fun cs ds => ((Below.refl _ _).alloc (Nat.le_refl _) _).alloc (by simp) _
  have hq : ∀ W, Sem.run Try.prog (binOp .eql 27 (.agg #[.int .i64 a.page, .int .i64 a.slot]) (.agg #[.int .i64 b.page, .int .i64 b.slot])) W = .ok (.bool (sameV a.lock b.lock)) W := fun W => run_eql (equal_lk a.lock b.lock ha.lock hb.lock) W
  have hs : sameV a.lock b.lock = (decide (a.page = b.page) && decide (a.slot = b.slot)) := by
    rw [Bool.eq_iff_iff, sameV_iff, Bool.and_eq_true, decide_eq_true_eq, decide_eq_true_eq]
    exact ⟨fun h => ⟨congrArg Lok.page h, congrArg Lok.slot h⟩, fun h => by show Lok.mk _ _ = Lok.mk _ _; rw [h.1, h.2]⟩
  clear ha hb
  unfold grCells
  generalize sameV a.lock b.lock = q at *
  by_cases h1 : a.tx = b.tx
  · obtain ⟨e1, n1⟩ := eq_facts h1
    have HV : Hid (confB a b = false) := Lib.hid (by unfold confB; simp [h1])
    clear h1 hs
    go_enter Try.func31, Try.ntmps31
    go_wp2
    go_ret
    exact ⟨ret_bool (by rw [HV.out]), HB.out _ _⟩
  · obtain ⟨e1, n1⟩ := ne_facts h1
    cases q
    · have HV : Hid (confB a b = false) := Lib.hid (by unfold confB; have := hs.symm; simp only [Bool.and_eq_false_iff, decide_eq_false_iff_not] at this; rcases this with h | h <;> simp [h])
      clear h1 hs
      go_enter Try.func31, Try.ntmps31
      go_wp2
      go_ret
      exact ⟨ret_bool (by rw [HV.out]), HB.out _ _⟩
    · have hs2 := hs.symm
      simp only [Bool.and_eq_true, decide_eq_true_eq] at hs2
      by_cases h2 : a.mode = 2
      · obtain ⟨e2, n2⟩ := eq_facts h2
        have HV : Hid (confB a b = true) := Lib.hid (by unfold confB; simp [h1, hs2.1, hs2.2, h2])
        clear h1 hs hs2 h2
        go_enter Try.func31, Try.ntmps31
        go_wp2
        go_ret
        exact ⟨ret_bool (by rw [HV.out]), HB.out _ _⟩
      · obtain ⟨e2, n2⟩ := ne_facts h2
        have HV : Hid (confB a b = (b.mode == 2)) := Lib.hid (by unfold confB; simp [h1, hs2.1, hs2.2, h2, beq_dec'])
        clear h1 hs hs2 h2
        go_enter Try.func31, Try.ntmps31
        go_wp2
        go_ret
        exact ⟨ret_bool (by rw [HV.out]), HB.out _ _⟩
theorem any_take {l : List Gr} {k : Nat} {y : Gr} (f : Gr → Bool) (hy : l[k]? = some y) : (l.take (k + 1)).any f = ((l.take k).any f || f y) := by
  rw [lk_take_snoc hy, List.any_append, List.any_cons, List.any_nil, Bool.or_false]
theorem kept_any {t : Tb} (h : Settled t) {i : Nat} {x : Gr} (hx : t.wait[i]? = some x) : (t.held.any (fun y => confB y x) || (t.wait.take i).any (fun y => confB y x)) = true := by
  have hi := (List.getElem?_eq_some_iff.1 hx).1
  have e := (List.getElem?_eq_some_iff.1 hx).2
  rcases kept_of h.stuck hi with ⟨y, hy, hc⟩ | ⟨y, hy, hc⟩
  · rw [e] at hc
    rw [Bool.or_eq_true]; exact .inl (List.any_eq_true.2 ⟨y, hy, confB_iff.2 hc⟩)
  · rw [e] at hc
    rw [Bool.or_eq_true]; exact .inr (List.any_eq_true.2 ⟨y, hy, confB_iff.2 hc⟩)
set_option maxHeartbeats 16000000 in
theorem plays8_any (x : Option Addr) (len cap : Nat) (zs : List Int) (w : World) (hr : IsRow .u8 w x len cap zs) :
    Calls Try.prog 4 #[.slice x len cap] w fun e w' => e = .returned (.bool true) ∧ Below w.heap.size w w' := by
  have HR := Lib.hid hr
  clear hr
  obtain ⟨fsHUG, huHUG⟩ := under_gr
  have HUG := Lib.hid huHUG
  clear huHUG
  obtain ⟨fsHUK, huHUK⟩ := under_lk
  have HUK := Lib.hid huHUK
  clear huHUK
  obtain ⟨fsHUT, huHUT⟩ := under_tb
  have HUT := Lib.hid huHUT
  clear huHUT
  have HS0 := Lib.hid (Hp.start w)
  go_enter Try.func4, Try.ntmps4
  go_wp2_with fail
  refine (awake8 _).mono ?_
  rintro e w1 ⟨rfl, hb⟩
  have HS1 := Lib.hid (HS0.out.calls hb)
  clear hb HS0
  go_wp2_with fail
  refine (new_hpl 300 (by decide) HS1.out HR.out).mono ?_
  rintro e w2 ⟨rfl, hs, hl⟩
  have hs2 : HpL w w1.heap.size 300 [.cd w1.heap.size] w2 := ⟨hs, List.mem_singleton.2 rfl, hl⟩
  have HS2 := Lib.hid hs2
  clear hs hs2 hl HS1
  generalize w1.heap.size = C at *
  go_wp2_with (first | ((with_reducible refine wpList_alloc_ob 25 (tbCells (.slice none 0 0) (.slice none 0 0)) ?_ ?_); (exact alloc_tb); simp only [Act.put, List.setIfInBounds_toArray, List.set_cons_zero, List.set_cons_succ]))
  have HS6 : Hid (HpL w C 300 [.cd C, .ob (w2.heap.size) 25 (tbCells (.slice none 0 0) (.slice none 0 0))] (w2.alloc (.cells (tbCells (.slice none 0 0) (.slice none 0 0)).toArray 25))) := (HS2.out).put 25 (tbCells (.slice none 0 0) (.slice none 0 0))
  clear HS2
  generalize (w2.alloc (.cells (tbCells (.slice none 0 0) (.slice none 0 0)).toArray 25)) = w6 at *
  generalize w2.heap.size = B6 at *
  go_loopw [] (fun wr => ∃ (t : Tb) (a b : Option Addr) (c d : Nat) (R : List Rng), TbRd (.slice a t.held.length c) (.slice b t.wait.length d) t R ∧ Settled t ∧ tbLen t + leftIn wr C ≤ 300 ∧ Hp w [.cd C, .ob B6 25 (tbCells (.slice a t.held.length c) (.slice b t.wait.length d)), .rd R] wr) (fun wr => leftIn wr C)
  case atStart => exact ⟨tbNil, none, none, 0, 0, [], TbRd.nil _, tbNil_settled, by have h9 := HS6.out.left; show 0 + 0 + _ ≤ 300; omega, HS6.out.hp.addrd (Below.refl _ _) [] (RdIn.nil _) (by simp)⟩
  case round =>
    clear HS6
    obtain ⟨t, a, b, c, d, R, hrd, hst, hln, hs⟩ := hrel
    obtain ⟨m0, hm0⟩ : ∃ m0, leftIn wr C = m0 := ⟨_, rfl⟩
    have hs1 : HpL w C m0 [.cd C, .ob B6 25 (tbCells (.slice a t.held.length c) (.slice b t.wait.length d)), .rd R] wr := ⟨hs, by simp, Nat.le_of_eq hm0⟩
    have HY := Lib.hid hs1
    have HRd := Lib.hid hrd
    have HSt := Lib.hid hst
    have HLn : Hid (tbLen t + m0 ≤ 300) := Lib.hid (by rw [← hm0]; exact hln)
    have HM0 := Lib.hid hm0
    clear hs hs1 hrd hst hln hm0
    go_wp2_with fail
    refine (left_any C _ HY.out.cod).mono ?_
    rintro e wq ⟨q, v, rfl, hv, rfl⟩
    have HY2 := Lib.hid (HY.out.drewN q)
    have HV : Hid (0 < v → 0 < m0) := Lib.hid (fun h => by have := hv h; rw [HM0.out] at this; exact this)
    clear hv HY
    by_cases hv0 : 0 < v
    · have HMp := Lib.hid (HV.out hv0)
      have dv : decide (0 < v) = true := decide_eq_true hv0
      clear hv0
      generalize wr.drewN q = w10 at *
      go_wp2_with fail
      refine (grant_any C _ ((HY2.out).codes 0 rfl)).mono ?_
      rintro e w21 ⟨g, rfl, hgo, hb, hc, hl⟩
      have HS21 : Hid (HpL w C (m0 - 1) [.cd C, .ob B6 25 (tbCells (.slice a t.held.length c) (.slice b t.wait.length d)), .rd R] w21) := (HY2.out).draws 0 rfl hb hc (by have h9 := (HY2.out).left; omega)
      clear hb hc hl
      clear HY2
      have HGo := Lib.hid hgo
      clear hgo
      go_wp2_with (first | ((with_reducible refine wpList_alloc_ob 29 (grCells grNil) ?_ ?_); (exact alloc_gr); simp only [Act.put, List.setIfInBounds_toArray, List.set_cons_zero, List.set_cons_succ]) | ((with_reducible refine wpList_store_ob 29 (.tmp 5) (w21.heap.size) (grCells g) (grCells grNil) 29 ?_ ?_ ?_ ?_ ?_ ?_ ?_); (exact rfl); (exact rfl); (exact ((HS21.out).put 29 (grCells grNil)).get 3 rfl); (exact info_gr); (exact rfl); (exact (oneCell_gr _)); skip))
      refine (left_small C 8 _ ((((HS21.out).put 29 (grCells grNil)).row 3 rfl (grCells g)).codes 0 rfl) (by decide) (by decide)).mono ?_
      rintro e w22 ⟨s, rfl, s0, s1, hb, hc, hl⟩
      have HS22 : Hid (HpL w C (m0 - 1) [.cd C, .ob B6 25 (tbCells (.slice a t.held.length c) (.slice b t.wait.length d)), .rd R, .ob (w21.heap.size) 29 (grCells g)] w22) := (((HS21.out).put 29 (grCells grNil)).row 3 rfl (grCells g)).draws 0 rfl hb hc (by have h9 := (((HS21.out).put 29 (grCells grNil)).row 3 rfl (grCells g)).left; omega)
      clear hb hc hl
      clear HS21
      generalize w21.heap.size = B21 at *
      have HG := Lib.hid HGo.out.good
      have HTg := Lib.hid HSt.out.ok.good
      go_upto_block 2 with (fail)
      have HS23 : Hid (HpL w C (m0 - 1) [.cd C, .ob B6 25 (tbCells (.slice a t.held.length c) (.slice b t.wait.length d)), .ob B21 29 (grCells g), .rd R] w22) := HS22.out.pull [0, 1, 3, 2] rfl (pull_nd HS22.out.nd [0, 1, 3, 2] rfl (by decide)) (by simp)
      clear HS22
      go_cut [] (fun wz => ∃ (t2 : Tb) (a b : Option Addr) (c d : Nat) (R : List Rng), TbRd (.slice a t2.held.length c) (.slice b t2.wait.length d) t2 R ∧ Settled t2 ∧ tbLen t2 ≤ tbLen t + 1 ∧ HpL w C (m0 - 1) [.cd C, .ob B6 25 (tbCells (.slice a t2.held.length c) (.slice b t2.wait.length d)), .ob B21 29 (grCells g), .rd R] wz)
      case first =>
        by_cases hs5 : s = 5
        · obtain ⟨e1, n1⟩ := eq_facts hs5
          clear hs5 s0 s1
          have HOk := Lib.hid (cancel_ok HSt.out.ok g.tx)
          have g0 : w22.cell? ⟨B21, 0, none⟩ = some (.int .i64 g.tx) := HS23.out.at 2 rfl 0 rfl
          have g1 : w22.cell? ⟨B21, 1, none⟩ = some (.int .i64 g.page) := HS23.out.at 2 rfl 1 rfl
          have g2 : w22.cell? ⟨B21, 2, none⟩ = some (.int .i64 g.slot) := HS23.out.at 2 rfl 2 rfl
          have g3 : w22.cell? ⟨B21, 3, none⟩ = some (.int .i64 g.mode) := HS23.out.at 2 rfl 3 rfl
          go_wp2_with (first | ((with_reducible refine wpList_load_ob 25 (.tmp 4) B6 (tbCells (.slice a t.held.length c) (.slice b t.wait.length d)) 25 HUT.out ?_ ?_ ?_ ?_ ?_); (exact rfl); (exact (HS23.out).get 1 rfl); (exact rfl); (exact info_tb); simp only [Act.put, List.setIfInBounds_toArray, List.set_cons_zero, List.set_cons_succ]))
          refine (pcancel_any g.tx _ HRd.out ((HS23.out).reads 3 rfl) HTg.out).mono ?_
          rintro e w111 ⟨h9, v9, R9, rfl, hrd2, hin2, hnew2, hb⟩
          obtain ⟨a9, c9, rfl, _, _⟩ := hrd2.1.shape
          obtain ⟨b9, d9, rfl, _, _⟩ := hrd2.2.shape
          have Hrd9 := Lib.hid hrd2
          have HS111 : Hid (HpL w C (m0 - 1) [.cd C, .ob B6 25 (tbCells (.slice a t.held.length c) (.slice b t.wait.length d)), .ob B21 29 (grCells g), .rd R, .rd R9] w111) := (HS23.out).addrd hb R9 hin2 (fun r hr => (hnew2 r hr).elim .inl (fun h => .inr ⟨.rd R, List.mem_of_getElem? (i := 3) rfl, h⟩))
          clear hb hin2 hrd2 hnew2
          clear HS23
          go_wp2_with (first | ((with_reducible refine wpList_store_ob 25 (.tmp 4) B6 (tbCells (.slice a9 (cancelR t g.tx).held.length c9) (.slice b9 (cancelR t g.tx).wait.length d9)) (tbCells (.slice a t.held.length c) (.slice b t.wait.length d)) 25 ?_ ?_ ?_ ?_ ?_ ?_ ?_); (exact rfl); (exact rfl); (exact (HS111.out).get 1 rfl); (exact info_tb); (exact rfl); (exact (oneCell_tb _ _ _ _ _ _)); skip))
          have HS112 : Hid (HpL w C (m0 - 1) [.cd C, .ob B6 25 (tbCells (.slice a9 (cancelR t g.tx).held.length c9) (.slice b9 (cancelR t g.tx).wait.length d9)), .ob B21 29 (grCells g), .rd R, .rd R9] (w111.setRow B6 (tbCells (.slice a9 (cancelR t g.tx).held.length c9) (.slice b9 (cancelR t g.tx).wait.length d9)).toArray)) := (HS111.out).row 1 rfl (tbCells (.slice a9 (cancelR t g.tx).held.length c9) (.slice b9 (cancelR t g.tx).wait.length d9))
          clear HS111
          generalize (w111.setRow B6 (tbCells (.slice a9 (cancelR t g.tx).held.length c9) (.slice b9 (cancelR t g.tx).wait.length d9)).toArray) = w112 at *
          clear g0 g1 g2 g3
          have HS113 : Hid (HpL w C (m0 - 1) [.cd C, .ob B6 25 (tbCells (.slice a9 (cancelR t g.tx).held.length c9) (.slice b9 (cancelR t g.tx).wait.length d9)), .ob B21 29 (grCells g), .rd R9] w112) := HS112.out.pull [0, 1, 2, 4] rfl (pull_nd HS112.out.nd [0, 1, 2, 4] rfl (by decide)) (by simp)
          clear HS112
          go_wp2_with fail
          go_meet
          exact ⟨_, _, _, _, _, R9, Hrd9.out, HOk.out.1, by have := HOk.out.2; omega, HS113.out⟩
        · obtain ⟨e1, n1⟩ := ne_facts hs5
          by_cases hs6 : s = 6
          · obtain ⟨e2, n2⟩ := eq_facts hs6
            clear hs5 hs6 s0 s1
            have HOk := Lib.hid (drop_ok HSt.out.ok g.tx g.page g.slot)
            have g0 : w22.cell? ⟨B21, 0, none⟩ = some (.int .i64 g.tx) := HS23.out.at 2 rfl 0 rfl
            have g1 : w22.cell? ⟨B21, 1, none⟩ = some (.int .i64 g.page) := HS23.out.at 2 rfl 1 rfl
            have g2 : w22.cell? ⟨B21, 2, none⟩ = some (.int .i64 g.slot) := HS23.out.at 2 rfl 2 rfl
            have g3 : w22.cell? ⟨B21, 3, none⟩ = some (.int .i64 g.mode) := HS23.out.at 2 rfl 3 rfl
            go_wp2_with (first | ((with_reducible refine wpList_load_ob 25 (.tmp 4) B6 (tbCells (.slice a t.held.length c) (.slice b t.wait.length d)) 25 HUT.out ?_ ?_ ?_ ?_ ?_); (exact rfl); (exact (HS23.out).get 1 rfl); (exact rfl); (exact info_tb); simp only [Act.put, List.setIfInBounds_toArray, List.set_cons_zero, List.set_cons_succ]) | ((with_reducible refine wpList_load_at 27 (.tmp 78) B21 (1) (lkCells g.lock) HUK.out ?_ ?_ ?_ ?_ ?_); (exact rfl); (exact (HS23.out).mid 2 rfl (1) _ ((mid_lk g))); (exact rfl); (exact info_lk); simp only [Act.put, List.setIfInBounds_toArray, List.set_cons_zero, List.set_cons_succ]))
            refine (pdrop_any g.tx g.lock _ HRd.out ((HS23.out).reads 3 rfl) HTg.out HG.out.lock).mono ?_
            rintro e w141 ⟨h9, v9, R9, rfl, hrd2, hin2, hnew2, hb⟩
            obtain ⟨a9, c9, rfl, _, _⟩ := hrd2.1.shape
            obtain ⟨b9, d9, rfl, _, _⟩ := hrd2.2.shape
            have Hrd9 := Lib.hid hrd2
            have HS141 : Hid (HpL w C (m0 - 1) [.cd C, .ob B6 25 (tbCells (.slice a t.held.length c) (.slice b t.wait.length d)), .ob B21 29 (grCells g), .rd R, .rd R9] w141) := (HS23.out).addrd hb R9 hin2 (fun r hr => (hnew2 r hr).elim .inl (fun h => .inr ⟨.rd R, List.mem_of_getElem? (i := 3) rfl, h⟩))
            clear hb hin2 hrd2 hnew2
            clear HS23
            go_wp2_with (first | ((with_reducible refine wpList_store_ob 25 (.tmp 4) B6 (tbCells (.slice a9 (dropR t g.tx g.page g.slot).held.length c9) (.slice b9 (dropR t g.tx g.page g.slot).wait.length d9)) (tbCells (.slice a t.held.length c) (.slice b t.wait.length d)) 25 ?_ ?_ ?_ ?_ ?_ ?_ ?_); (exact rfl); (exact rfl); (exact (HS141.out).get 1 rfl); (exact info_tb); (exact rfl); (exact (oneCell_tb _ _ _ _ _ _)); skip))
            have HS142 : Hid (HpL w C (m0 - 1) [.cd C, .ob B6 25 (tbCells (.slice a9 (dropR t g.tx g.page g.slot).held.length c9) (.slice b9 (dropR t g.tx g.page g.slot).wait.length d9)), .ob B21 29 (grCells g), .rd R, .rd R9] (w141.setRow B6 (tbCells (.slice a9 (dropR t g.tx g.page g.slot).held.length c9) (.slice b9 (dropR t g.tx g.page g.slot).wait.length d9)).toArray)) := (HS141.out).row 1 rfl (tbCells (.slice a9 (dropR t g.tx g.page g.slot).held.length c9) (.slice b9 (dropR t g.tx g.page g.slot).wait.length d9))
            clear HS141
            generalize (w141.setRow B6 (tbCells (.slice a9 (dropR t g.tx g.page g.slot).held.length c9) (.slice b9 (dropR t g.tx g.page g.slot).wait.length d9)).toArray) = w142 at *
            clear g0 g1 g2 g3
            have HS143 : Hid (HpL w C (m0 - 1) [.cd C, .ob B6 25 (tbCells (.slice a9 (dropR t g.tx g.page g.slot).held.length c9) (.slice b9 (dropR t g.tx g.page g.slot).wait.length d9)), .ob B21 29 (grCells g), .rd R9] w142) := HS142.out.pull [0, 1, 2, 4] rfl (pull_nd HS142.out.nd [0, 1, 2, 4] rfl (by decide)) (by simp)
            clear HS142
            go_wp2_with fail
            go_meet
            exact ⟨_, _, _, _, _, R9, Hrd9.out, HOk.out.1, by have := HOk.out.2; omega, HS143.out⟩
          · obtain ⟨e2, n2⟩ := ne_facts hs6
            by_cases hs7 : s = 7
            · obtain ⟨e3, n3⟩ := eq_facts hs7
              clear hs5 hs6 hs7 s0 s1
              have HOk := Lib.hid (release_ok HSt.out.ok g.tx)
              have g0 : w22.cell? ⟨B21, 0, none⟩ = some (.int .i64 g.tx) := HS23.out.at 2 rfl 0 rfl
              have g1 : w22.cell? ⟨B21, 1, none⟩ = some (.int .i64 g.page) := HS23.out.at 2 rfl 1 rfl
              have g2 : w22.cell? ⟨B21, 2, none⟩ = some (.int .i64 g.slot) := HS23.out.at 2 rfl 2 rfl
              have g3 : w22.cell? ⟨B21, 3, none⟩ = some (.int .i64 g.mode) := HS23.out.at 2 rfl 3 rfl
              go_wp2_with (first | ((with_reducible refine wpList_load_ob 25 (.tmp 4) B6 (tbCells (.slice a t.held.length c) (.slice b t.wait.length d)) 25 HUT.out ?_ ?_ ?_ ?_ ?_); (exact rfl); (exact (HS23.out).get 1 rfl); (exact rfl); (exact info_tb); simp only [Act.put, List.setIfInBounds_toArray, List.set_cons_zero, List.set_cons_succ]))
              refine (prelease_any g.tx _ HRd.out ((HS23.out).reads 3 rfl) HTg.out).mono ?_
              rintro e w171 ⟨h9, v9, R9, rfl, hrd2, hin2, hnew2, hb⟩
              obtain ⟨a9, c9, rfl, _, _⟩ := hrd2.1.shape
              obtain ⟨b9, d9, rfl, _, _⟩ := hrd2.2.shape
              have Hrd9 := Lib.hid hrd2
              have HS171 : Hid (HpL w C (m0 - 1) [.cd C, .ob B6 25 (tbCells (.slice a t.held.length c) (.slice b t.wait.length d)), .ob B21 29 (grCells g), .rd R, .rd R9] w171) := (HS23.out).addrd hb R9 hin2 (fun r hr => (hnew2 r hr).elim .inl (fun h => .inr ⟨.rd R, List.mem_of_getElem? (i := 3) rfl, h⟩))
              clear hb hin2 hrd2 hnew2
              clear HS23
              go_wp2_with (first | ((with_reducible refine wpList_store_ob 25 (.tmp 4) B6 (tbCells (.slice a9 (releaseR t g.tx).held.length c9) (.slice b9 (releaseR t g.tx).wait.length d9)) (tbCells (.slice a t.held.length c) (.slice b t.wait.length d)) 25 ?_ ?_ ?_ ?_ ?_ ?_ ?_); (exact rfl); (exact rfl); (exact (HS171.out).get 1 rfl); (exact info_tb); (exact rfl); (exact (oneCell_tb _ _ _ _ _ _)); skip))
              have HS172 : Hid (HpL w C (m0 - 1) [.cd C, .ob B6 25 (tbCells (.slice a9 (releaseR t g.tx).held.length c9) (.slice b9 (releaseR t g.tx).wait.length d9)), .ob B21 29 (grCells g), .rd R, .rd R9] (w171.setRow B6 (tbCells (.slice a9 (releaseR t g.tx).held.length c9) (.slice b9 (releaseR t g.tx).wait.length d9)).toArray)) := (HS171.out).row 1 rfl (tbCells (.slice a9 (releaseR t g.tx).held.length c9) (.slice b9 (releaseR t g.tx).wait.length d9))
              clear HS171
              generalize (w171.setRow B6 (tbCells (.slice a9 (releaseR t g.tx).held.length c9) (.slice b9 (releaseR t g.tx).wait.length d9)).toArray) = w172 at *
              clear g0 g1 g2 g3
              have HS173 : Hid (HpL w C (m0 - 1) [.cd C, .ob B6 25 (tbCells (.slice a9 (releaseR t g.tx).held.length c9) (.slice b9 (releaseR t g.tx).wait.length d9)), .ob B21 29 (grCells g), .rd R9] w172) := HS172.out.pull [0, 1, 2, 4] rfl (pull_nd HS172.out.nd [0, 1, 2, 4] rfl (by decide)) (by simp)
              clear HS172
              go_wp2_with fail
              go_meet
              exact ⟨_, _, _, _, _, R9, Hrd9.out, HOk.out.1, by have := HOk.out.2; omega, HS173.out⟩
            · obtain ⟨e3, n3⟩ := ne_facts hs7
              clear hs5 hs6 hs7 s0 s1
              obtain ⟨u, bb, cd, hu⟩ : ∃ u bb cd, requestR t g = (u, bb, cd) := ⟨_, _, _, rfl⟩
              obtain ⟨wx, wb, hwx⟩ : ∃ wx wb, waitR t g.tx = (wx, wb) := ⟨_, _, rfl⟩
              have hcd : cd = 0 ∨ (cd = 15 ∧ wb = true) := by
                have h := request_err HSt.out.ok HGo.out (by have := HLn.out; have := HMp.out; omega)
                rw [hu, hwx] at h
                exact h
              have HSu : Hid (cd = 0 → Settled u ∧ tbLen u ≤ tbLen t + 1 ∧ bb = decide (g.mode ≤ modeT u g.tx g.page g.slot)) := Lib.hid (fun hc0 => by
                have h := request_ok HSt.out.ok (g := g) (by rw [hu]; exact hc0)
                rw [hu] at h
                refine ⟨⟨h.1, h.2.1 HSt.out.stuck⟩, h.2.2.2, ?_⟩
                unfold modeT
                rw [if_pos (tbOkB_iff.2 h.1)]
                exact h.2.2.1)
              have HUe := Lib.hid hu
              have HWa : Hid (∀ W, RdIn W R → Calls Try.prog 25 #[.agg (tbCells (.slice a t.held.length c) (.slice b t.wait.length d)).toArray, .int .i64 g.tx] W fun e w' => e = .returned (.tuple #[.agg (grCells wx).toArray, .bool wb]) ∧ Below W.heap.size W w') := Lib.hid (fun W h => by have := rWaiting_any g.tx W HRd.out h HTg.out; rwa [hwx] at this)
              have HCd := Lib.hid hcd
              clear hu hwx hcd
              go_wp2_with (first | ((with_reducible refine wpList_load_ob 25 (.tmp 4) B6 (tbCells (.slice a t.held.length c) (.slice b t.wait.length d)) 25 HUT.out ?_ ?_ ?_ ?_ ?_); (exact rfl); (exact (HS23.out).get 1 rfl); (exact rfl); (exact info_tb); simp only [Act.put, List.setIfInBounds_toArray, List.set_cons_zero, List.set_cons_succ]) | ((with_reducible refine wpList_load_ob 29 (.tmp 5) B21 (grCells g) 29 HUG.out ?_ ?_ ?_ ?_ ?_); (exact rfl); (exact (HS23.out).get 2 rfl); (exact rfl); (exact info_gr); simp only [Act.put, List.setIfInBounds_toArray, List.set_cons_zero, List.set_cons_succ]))
              refine (tb3_as HUe.out (prequest_any g _ HRd.out ((HS23.out).reads 3 rfl) HTg.out HG.out)).mono ?_
              rintro e w201 ⟨h9, v9, R9, rfl, hrd2, hin2, hnew2, hb⟩
              obtain ⟨a9, c9, rfl, _, _⟩ := hrd2.1.shape
              obtain ⟨b9, d9, rfl, _, _⟩ := hrd2.2.shape
              have Hrd9 := Lib.hid hrd2
              have HS201 : Hid (HpL w C (m0 - 1) [.cd C, .ob B6 25 (tbCells (.slice a t.held.length c) (.slice b t.wait.length d)), .ob B21 29 (grCells g), .rd R, .rd R9] w201) := (HS23.out).addrd hb R9 hin2 (fun r hr => (hnew2 r hr).elim .inl (fun h => .inr ⟨.rd R, List.mem_of_getElem? (i := 3) rfl, h⟩))
              clear hb hin2 hrd2 hnew2
              clear HS23
              go_upto_region 9 with (first | ((with_reducible refine wpList_alloc_ob 25 (tbCells (.slice none 0 0) (.slice none 0 0)) ?_ ?_); (exact alloc_tb); simp only [Act.put, List.setIfInBounds_toArray, List.set_cons_zero, List.set_cons_succ]) | ((with_reducible refine wpList_store_ob 25 (.tmp 6) (w201.heap.size) (tbCells (.slice a9 u.held.length c9) (.slice b9 u.wait.length d9)) (tbCells (.slice none 0 0) (.slice none 0 0)) 25 ?_ ?_ ?_ ?_ ?_ ?_ ?_); (exact rfl); (exact rfl); (exact ((HS201.out).put 25 (tbCells (.slice none 0 0) (.slice none 0 0))).get 5 rfl); (exact info_tb); (exact rfl); (exact (oneCell_tb _ _ _ _ _ _)); skip))
              have HS202 : Hid (HpL w C (m0 - 1) [.cd C, .ob B6 25 (tbCells (.slice a t.held.length c) (.slice b t.wait.length d)), .ob B21 29 (grCells g), .rd R, .rd R9, .ob (w201.heap.size) 25 (tbCells (.slice a9 u.held.length c9) (.slice b9 u.wait.length d9))] ((w201.alloc (.cells (tbCells (.slice none 0 0) (.slice none 0 0)).toArray 25)).setRow (w201.heap.size) (tbCells (.slice a9 u.held.length c9) (.slice b9 u.wait.length d9)).toArray)) := ((HS201.out).put 25 (tbCells (.slice none 0 0) (.slice none 0 0))).row 5 rfl (tbCells (.slice a9 u.held.length c9) (.slice b9 u.wait.length d9))
              clear HS201
              generalize ((w201.alloc (.cells (tbCells (.slice none 0 0) (.slice none 0 0)).toArray 25)).setRow (w201.heap.size) (tbCells (.slice a9 u.held.length c9) (.slice b9 u.wait.length d9)).toArray) = w202 at *
              generalize w201.heap.size = B201 at *
              have g0 : w202.cell? ⟨B21, 0, none⟩ = some (.int .i64 g.tx) := HS202.out.at 2 rfl 0 rfl
              have g1 : w202.cell? ⟨B21, 1, none⟩ = some (.int .i64 g.page) := HS202.out.at 2 rfl 1 rfl
              have g2 : w202.cell? ⟨B21, 2, none⟩ = some (.int .i64 g.slot) := HS202.out.at 2 rfl 2 rfl
              have g3 : w202.cell? ⟨B21, 3, none⟩ = some (.int .i64 g.mode) := HS202.out.at 2 rfl 3 rfl
              go_wp2_with (first | ((with_reducible refine wpList_load_ob 25 (.tmp 4) B6 (tbCells (.slice a t.held.length c) (.slice b t.wait.length d)) 25 HUT.out ?_ ?_ ?_ ?_ ?_); (exact rfl); (exact (HS202.out).get 1 rfl); (exact rfl); (exact info_tb); simp only [Act.put, List.setIfInBounds_toArray, List.set_cons_zero, List.set_cons_succ]))
              refine (HWa.out _ ((HS202.out).reads 3 rfl)).mono ?_
              rintro e w203 ⟨rfl, hb⟩
              have HS203 : Hid (HpL w C (m0 - 1) [.cd C, .ob B6 25 (tbCells (.slice a t.held.length c) (.slice b t.wait.length d)), .ob B21 29 (grCells g), .rd R, .rd R9, .ob B201 25 (tbCells (.slice a9 u.held.length c9) (.slice b9 u.wait.length d9))] w203) := (HS202.out).calls hb
              clear hb
              clear HS202
              go_upto_region 10 with (first | ((with_reducible refine wpList_alloc_ob 29 (grCells grNil) ?_ ?_); (exact alloc_gr); simp only [Act.put, List.setIfInBounds_toArray, List.set_cons_zero, List.set_cons_succ]) | ((with_reducible refine wpList_store_ob 29 (.tmp 9) (w203.heap.size) (grCells wx) (grCells grNil) 29 ?_ ?_ ?_ ?_ ?_ ?_ ?_); (exact rfl); (exact rfl); (exact ((HS203.out).put 29 (grCells grNil)).get 6 rfl); (exact info_gr); (exact rfl); (exact (oneCell_gr _)); skip))
              have HS204 : Hid (HpL w C (m0 - 1) [.cd C, .ob B6 25 (tbCells (.slice a t.held.length c) (.slice b t.wait.length d)), .ob B21 29 (grCells g), .rd R, .rd R9, .ob B201 25 (tbCells (.slice a9 u.held.length c9) (.slice b9 u.wait.length d9)), .ob (w203.heap.size) 29 (grCells wx)] ((w203.alloc (.cells (grCells grNil).toArray 29)).setRow (w203.heap.size) (grCells wx).toArray)) := ((HS203.out).put 29 (grCells grNil)).row 6 rfl (grCells wx)
              clear HS203
              generalize ((w203.alloc (.cells (grCells grNil).toArray 29)).setRow (w203.heap.size) (grCells wx).toArray) = w204 at *
              generalize w203.heap.size = B202 at *
              clear g0 g1 g2 g3
              by_cases hc0 : cd = 0
              · obtain ⟨e4, n4⟩ := eq_facts hc0
                obtain ⟨hsu, hlu, hbb⟩ := HSu.out hc0
                have HSv := Lib.hid hsu
                have HLu := Lib.hid hlu
                have HBb := Lib.hid hbb
                clear hc0 hsu hlu hbb HSu HCd
                go_upto_region 13 with (fail)
                go_upto_region 14 with (first | ((with_reducible refine wpList_load_ob 25 (.tmp 6) B201 (tbCells (.slice a9 u.held.length c9) (.slice b9 u.wait.length d9)) 25 HUT.out ?_ ?_ ?_ ?_ ?_); (exact rfl); (exact (HS204.out).get 5 rfl); (exact rfl); (exact info_tb); simp only [Act.put, List.setIfInBounds_toArray, List.set_cons_zero, List.set_cons_succ]) | ((with_reducible refine wpList_store_ob 25 (.tmp 4) B6 (tbCells (.slice a9 u.held.length c9) (.slice b9 u.wait.length d9)) (tbCells (.slice a t.held.length c) (.slice b t.wait.length d)) 25 ?_ ?_ ?_ ?_ ?_ ?_ ?_); (exact rfl); (exact rfl); (exact (HS204.out).get 1 rfl); (exact info_tb); (exact rfl); (exact (oneCell_tb _ _ _ _ _ _)); skip))
                have HS205 : Hid (HpL w C (m0 - 1) [.cd C, .ob B6 25 (tbCells (.slice a9 u.held.length c9) (.slice b9 u.wait.length d9)), .ob B21 29 (grCells g), .rd R, .rd R9, .ob B201 25 (tbCells (.slice a9 u.held.length c9) (.slice b9 u.wait.length d9)), .ob B202 29 (grCells wx)] (w204.setRow B6 (tbCells (.slice a9 u.held.length c9) (.slice b9 u.wait.length d9)).toArray)) := (HS204.out).row 1 rfl (tbCells (.slice a9 u.held.length c9) (.slice b9 u.wait.length d9))
                clear HS204
                generalize (w204.setRow B6 (tbCells (.slice a9 u.held.length c9) (.slice b9 u.wait.length d9)).toArray) = w205 at *
                have HMo : Hid (∀ W, RdIn W R9 → Calls Try.prog 20 #[.agg (tbCells (.slice a9 u.held.length c9) (.slice b9 u.wait.length d9)).toArray, .int .i64 g.tx, .agg (lkCells g.lock).toArray] W fun e w' => e = .returned (.int .i64 (modeT u g.tx g.page g.slot)) ∧ Below W.heap.size W w') := Lib.hid (fun W h => pMode_any g.tx g.lock W Hrd9.out h HSv.out.ok.good HG.out.lock)
                obtain ⟨md, hmd⟩ : ∃ md, modeT u g.tx g.page g.slot = md := ⟨_, rfl⟩
                have hbb := HBb.out
                rw [hmd] at HMo hbb
                have HBb2 := Lib.hid hbb
                clear hmd hbb HBb
                refine wp_region_held_drew (S := fun w' => w'.rangeAt B6 0 (tbCells (.slice a9 u.held.length c9) (.slice b9 u.wait.length d9)) ∧ w'.rangeAt B21 0 (grCells g)) (by kernel_rfl) (⟨(fun j v hv => by rw [Nat.zero_add]; exact ((HS205.out).drew).at 1 rfl j hv), (fun j v hv => by rw [Nat.zero_add]; exact ((HS205.out).drew).at 2 rfl j hv)⟩) (fun hHeld => ?_)
                refine wpAnyH_take (i := 0) (oi := { dst := some 56, op := Op.move (Operand.tmp 7), type := 4, pos := "law.go:92", after := #[], guard := none }) (v := ?q51v) rfl (by kernel_rfl) (by kernel_rfl) (by kernel_rfl) (fun _ _ _ h => h) (Or.inl ⟨by rfl, ?q51h⟩) hHeld ?q51r
                case q51h => (intro wq hSw; clear hSw; go_simp; try with_reducible rfl)
                try simp only [Act.put, List.setIfInBounds_toArray, List.set_cons_zero, List.set_cons_succ]
                refine wpAnyH_take (i := 1) (oi := { dst := some 57, op := Op.load 25 (Operand.tmp 4), type := 25, pos := "law.go:92", after := #[], guard := none }) rfl (by kernel_rfl) (by kernel_rfl) (by kernel_rfl) (fun _ _ _ h => h) (yieldsIf_load_mid (by rfl) 25 (.tmp 4) rfl B6 (0) rfl (tbCells (.slice a9 u.held.length c9) (.slice b9 u.wait.length d9)) _ (fun _ h => h.1) HUT.out rfl (info_tb)) hHeld ?_
                try simp only [Act.put, List.setIfInBounds_toArray, List.set_cons_zero, List.set_cons_succ]
                refine wpAnyH_take (i := 2) (oi := { dst := some 58, op := Op.fieldAddr 29 (Operand.tmp 5) 0, type := 0, pos := "law.go:92", after := #[], guard := none }) (v := ?q53v) rfl (by kernel_rfl) (by kernel_rfl) (by kernel_rfl) (fun _ _ _ h => h) (Or.inl ⟨by rfl, ?q53h⟩) hHeld ?q53r
                case q53h => (intro wq hSw; clear hSw; go_simp; try with_reducible rfl)
                try simp only [Act.put, List.setIfInBounds_toArray, List.set_cons_zero, List.set_cons_succ]
                refine wpAnyH_take (i := 3) (oi := { dst := some 59, op := Op.load 3 (Operand.tmp 58), type := 3, pos := "law.go:92", after := #[{ on := 2, ground := Ground.data }], guard := none }) (v := .int .i64 g.tx) rfl (by kernel_rfl) (by kernel_rfl) (by kernel_rfl) (fun _ _ _ h => h) (Or.inl ⟨by rfl, ?q54h⟩) hHeld ?q54r
                case q54h => (intro wq hSw; have lq := (hSw.2) 0 (.int .i64 g.tx) rfl; simp only [Nat.zero_add] at lq; clear hSw; go_simp; try with_reducible rfl)
                try simp only [Act.put, List.setIfInBounds_toArray, List.set_cons_zero, List.set_cons_succ]
                refine wpAnyH_take (i := 4) (oi := { dst := some 60, op := Op.fieldAddr 29 (Operand.tmp 5) 1, type := 0, pos := "law.go:92", after := #[], guard := none }) (v := ?q55v) rfl (by kernel_rfl) (by kernel_rfl) (by kernel_rfl) (fun _ _ _ h => h) (Or.inl ⟨by rfl, ?q55h⟩) hHeld ?q55r
                case q55h => (intro wq hSw; clear hSw; go_simp; try with_reducible rfl)
                try simp only [Act.put, List.setIfInBounds_toArray, List.set_cons_zero, List.set_cons_succ]
                refine wpAnyH_take (i := 5) (oi := { dst := some 61, op := Op.load 27 (Operand.tmp 60), type := 27, pos := "law.go:92", after := #[{ on := 4, ground := Ground.data }], guard := none }) rfl (by kernel_rfl) (by kernel_rfl) (by kernel_rfl) (fun _ _ _ h => h) (yieldsIf_load_mid (by rfl) 27 (.tmp 60) rfl B21 (1) rfl (lkCells g.lock) _ (fun _ h => range_part (h.2) (mid_lk g)) HUK.out rfl (info_lk)) hHeld ?_
                try simp only [Act.put, List.setIfInBounds_toArray, List.set_cons_zero, List.set_cons_succ]
                refine wpAnyH_take (i := 7) (oi := { dst := some 63, op := Op.fieldAddr 29 (Operand.tmp 5) 2, type := 0, pos := "law.go:92", after := #[], guard := none }) (v := ?q57v) rfl (by kernel_rfl) (by kernel_rfl) (by kernel_rfl) (fun _ _ _ h => h) (Or.inl ⟨by rfl, ?q57h⟩) hHeld ?q57r
                case q57h => (intro wq hSw; clear hSw; go_simp; try with_reducible rfl)
                try simp only [Act.put, List.setIfInBounds_toArray, List.set_cons_zero, List.set_cons_succ]
                refine wpAnyH_take (i := 8) (oi := { dst := some 64, op := Op.load 3 (Operand.tmp 63), type := 3, pos := "law.go:92", after := #[{ on := 7, ground := Ground.data }], guard := none }) (v := .int .i64 g.mode) rfl (by kernel_rfl) (by kernel_rfl) (by kernel_rfl) (fun _ _ _ h => h) (Or.inl ⟨by rfl, ?q58h⟩) hHeld ?q58r
                case q58h => (intro wq hSw; have lq := (hSw.2) 3 (.int .i64 g.mode) rfl; simp only [Nat.zero_add] at lq; clear hSw; go_simp; try with_reducible rfl)
                try simp only [Act.put, List.setIfInBounds_toArray, List.set_cons_zero, List.set_cons_succ]
                refine wpAnyH_ready (rs := [6]) (by kernel_rfl) (by simp) ?_
                refine AllReadyH.cons (o := { dst := some 62, op := Op.call { callee := Callee.value (Operand.func 20), args := #[Operand.tmp 57, Operand.tmp 59, Operand.tmp 61], argTypes := #[25, 3, 27] }, type := 3, pos := "law.go:92", after := #[{ on := 1, ground := Ground.data }, { on := 3, ground := Ground.data }, { on := 5, ground := Ground.data }], guard := none }) rfl (fun K hK => ?_) (AllReadyH.nil)
                go_simp
                go_wp2_with (go_at_call 20; refine (HMo.out _ (((HS205.out).drew).reads 4 rfl)).mono ?_; rintro e w206 ⟨rfl, hb⟩)
                have HS206 : Hid (HpL w C (m0 - 1) [.cd C, .ob B6 25 (tbCells (.slice a9 u.held.length c9) (.slice b9 u.wait.length d9)), .ob B21 29 (grCells g), .rd R, .rd R9, .ob B201 25 (tbCells (.slice a9 u.held.length c9) (.slice b9 u.wait.length d9)), .ob B202 29 (grCells wx)] w206) := ((HS205.out).drew).calls hb
                refine hK.out _ _ (⟨(fun j v hv => by rw [Nat.zero_add]; exact (HS206.out).at 1 rfl j hv), (fun j v hv => by rw [Nat.zero_add]; exact (HS206.out).at 2 rfl j hv)⟩) (fun hHeld => ?_)
                clear hK K hb
                try simp only [Act.put, List.setIfInBounds_toArray, List.set_cons_zero, List.set_cons_succ]
                refine wpAnyH_take (i := 9) (oi := { dst := some 65, op := Op.binOp BinOp.geq 3 (Operand.tmp 62) (Operand.tmp 64) 3, type := 4, pos := "law.go:92", after := #[{ on := 6, ground := Ground.data }, { on := 8, ground := Ground.data }], guard := none }) (v := .bool bb) rfl (by kernel_rfl) (by kernel_rfl) (by kernel_rfl) (fun _ _ _ h => h) (Or.inl ⟨by rfl, ?q59h⟩) hHeld ?q59r
                case q59h => (intro wq hSw; have lq := HBb2.out.symm; clear hSw; go_simp; try with_reducible rfl)
                try simp only [Act.put, List.setIfInBounds_toArray, List.set_cons_zero, List.set_cons_succ]
                refine wpAnyH_take (i := 10) (oi := { dst := some 66, op := Op.binOp BinOp.neq 4 (Operand.tmp 56) (Operand.tmp 65) 4, type := 4, pos := "law.go:92", after := #[{ on := 0, ground := Ground.data }, { on := 9, ground := Ground.data }], guard := none }) (v := .bool false) rfl (by kernel_rfl) (by kernel_rfl) (by kernel_rfl) (fun _ _ _ h => h) (Or.inl ⟨by rfl, ?q60h⟩) hHeld ?q60r
                case q60h => (intro wq hSw; clear hSw; go_simp; try with_reducible rfl)
                try simp only [Act.put, List.setIfInBounds_toArray, List.set_cons_zero, List.set_cons_succ]
                refine wpAnyH_done (by kernel_rfl) ?_ _
                clear hHeld
                have HS207 : Hid (HpL w C (m0 - 1) [.cd C, .ob B6 25 (tbCells (.slice a9 u.held.length c9) (.slice b9 u.wait.length d9)), .ob B21 29 (grCells g), .rd R9] w206) := HS206.out.pull [0, 1, 2, 4] rfl (pull_nd HS206.out.nd [0, 1, 2, 4] rfl (by decide)) (by simp)
                clear HS206
                go_wp2_with fail
                go_meet
                exact ⟨u, _, _, _, _, R9, Hrd9.out, HSv.out, HLu.out, HS207.out⟩
              · obtain ⟨e4, n4⟩ := ne_facts hc0
                obtain ⟨hc15, hwb⟩ := HCd.out.resolve_left hc0
                have e5 : (cd == 15) = true := (eq_facts hc15).1
                subst hwb
                clear hc0 hc15 HSu HCd
                have HS218 : Hid (HpL w C (m0 - 1) [.cd C, .ob B6 25 (tbCells (.slice a t.held.length c) (.slice b t.wait.length d)), .ob B21 29 (grCells g), .rd R] w204) := HS204.out.pull [0, 1, 2, 3] rfl (pull_nd HS204.out.nd [0, 1, 2, 3] rfl (by decide)) (by simp)
                clear HS204
                go_wp2_with fail
                go_meet
                exact ⟨t, _, _, _, _, R, HRd.out, HSt.out, Nat.le_succ _, HS218.out⟩
      case rest =>
        obtain ⟨t2, a, b, c, d, R, hrd, hst, hln, hs⟩ := hcut
        have HYc : Hid (HpL w C (m0 - 1) [.cd C, .ob B6 25 (tbCells (.slice a t2.held.length c) (.slice b t2.wait.length d)), .ob B21 29 (grCells g), .rd R] wc) := hs
        have HR2 := Lib.hid hrd
        have HS2 := Lib.hid hst
        have HL2 := Lib.hid hln
        clear hs hrd hst hln HS23 HRd HSt HTg s0 s1
        generalize wc = w100 at *
        have HVp : Hid (∀ W, RdIn W R → Calls Try.prog 12 #[.agg (tbCells (.slice a t2.held.length c) (.slice b t2.wait.length d)).toArray] W fun e w' => e = .returned (.bool true) ∧ Below W.heap.size W w') := Lib.hid (fun W h => by have := plkvalid_any W HR2.out h HS2.out.ok.good; rwa [tbOkB_iff.2 HS2.out.ok] at this)
        have HVr : Hid (∀ W, RdIn W R → Calls Try.prog 13 #[.agg (tbCells (.slice a t2.held.length c) (.slice b t2.wait.length d)).toArray] W fun e w' => e = .returned (.bool true) ∧ Below W.heap.size W w') := Lib.hid (fun W h => by have := rlkvalid_any W HR2.out h HS2.out.ok.good; rwa [tbOkB_iff.2 HS2.out.ok] at this)
        have hp := HYc.out.pull [0, 1, 3] (M := [.cd C, .ob B6 25 (tbCells (.slice a t2.held.length c) (.slice b t2.wait.length d)), .rd R]) rfl (pull_nd HYc.out.nd [0, 1, 3] rfl (by decide)) (by simp)
        have HP : Hid (HpL w C (m0 - 1) [.cd C, .ob B6 25 (tbCells (.slice a t2.held.length c) (.slice b t2.wait.length d)), .rd R] w100) := hp
        clear hp HYc
        have b0 := HP.out.at 1 rfl 0 rfl
        have b1 := HP.out.at 1 rfl 1 rfl
        go_wp2_with fail
        refine (HVp.out _ (HP.out.reads 2 rfl)).mono ?_
        rintro e w101 ⟨rfl, hb⟩
        have HP1 := Lib.hid (HP.out.calls hb)
        clear hb b0 b1 HP
        have b0 := HP1.out.at 1 rfl 0 rfl
        have b1 := HP1.out.at 1 rfl 1 rfl
        go_wp2_with fail
        refine (HVr.out _ (HP1.out.reads 2 rfl)).mono ?_
        rintro e w102 ⟨rfl, hb⟩
        have HP2 := Lib.hid (HP1.out.calls hb)
        clear hb b0 b1 HP1 HVp HVr
        have b0 := HP2.out.at 1 rfl 0 rfl
        have b1 := HP2.out.at 1 rfl 1 rfl
        have hfw := HS2.out.ok.few
        have hwl : (t2.wait.length : Int) ≤ 1024 := by omega
        have hhl : (t2.held.length : Int) ≤ 1024 := by omega
        have hwcap : (t2.wait.length : Int) ≤ (d : Int) := by obtain ⟨_, _, h, h2, _⟩ := HR2.out.2.shape; simp only [Value.slice.injEq] at h; omega
        clear hfw
        go_wp2_with fail
        clear b0 b1
        go_loopw [98] (fun iv wr => ∃ i : Nat, iv = .int .i64 i ∧ i ≤ t2.wait.length ∧ HpL w C (m0 - 1) [.cd C, .ob B6 25 (tbCells (.slice a t2.held.length c) (.slice b t2.wait.length d)), .rd R] wr) (fun iv _ => t2.wait.length - (intOf iv).toNat)
        case atStart => exact ⟨0, rfl, Nat.zero_le _, HP2.out⟩
        case round =>
          clear HP2
          obtain ⟨i, rfl, hi, hs⟩ := hrel
          have HY := Lib.hid hs
          clear hs
          by_cases hlt : i < t2.wait.length
          · obtain ⟨g1, off1, rfl, hrw⟩ := HR2.out.2.base (by omega)
            have HRw := Lib.hid hrw
            obtain ⟨x, hx⟩ : ∃ x, t2.wait[i]? = some x := ⟨_, List.getElem?_eq_getElem hlt⟩
            have HXi := Lib.hid hx
            have HKp := Lib.hid (kept_any HS2.out hx)
            have HGx := Lib.hid (HS2.out.ok.good.wait x (List.mem_of_getElem? hx))
            have hii : (i : Int) < (t2.wait.length : Int) := by omega
            have hil : (i : Int) ≤ (t2.wait.length : Int) := by omega
            have hic : (i : Int) ≤ (d : Int) := by omega
            have hi0 : (0 : Int) ≤ (i : Int) := by omega
            have HLt := Lib.hid hlt
            clear hrw hx hi hlt
            go_upto_region 27 with (first | ((with_reducible refine wpList_load_at 29 (.tmp 101) g1 ((off1 + i * 4)) (grCells x) HUG.out ?_ ?_ ?_ ?_ ?_); (exact rfl); (exact (elem_rng (HRw.out _ ((HY.out).reads 2 rfl)) HXi.out)); (exact rfl); (exact info_gr); simp only [Act.put, List.setIfInBounds_toArray, List.set_cons_zero, List.set_cons_succ]) | ((with_reducible refine wpList_alloc_ob 29 (grCells grNil) ?_ ?_); (exact alloc_gr); simp only [Act.put, List.setIfInBounds_toArray, List.set_cons_zero, List.set_cons_succ]) | ((with_reducible refine wpList_store_ob 29 (.tmp 12) (wr.heap.size) (grCells x) (grCells grNil) 29 ?_ ?_ ?_ ?_ ?_ ?_ ?_); (exact rfl); (exact rfl); (exact ((HY.out).put 29 (grCells grNil)).get 3 rfl); (exact info_gr); (exact rfl); (exact (oneCell_gr _)); skip))
            have HS301 : Hid (HpL w C (m0 - 1) [.cd C, .ob B6 25 (tbCells (.slice a t2.held.length c) (.slice (some ⟨g1, off1, none⟩) t2.wait.length d)), .rd R, .ob (wr.heap.size) 29 (grCells x)] ((wr.alloc (.cells (grCells grNil).toArray 29)).setRow (wr.heap.size) (grCells x).toArray)) := ((HY.out).put 29 (grCells grNil)).row 3 rfl (grCells x)
            clear HY
            generalize ((wr.alloc (.cells (grCells grNil).toArray 29)).setRow (wr.heap.size) (grCells x).toArray) = w301 at *
            generalize wr.heap.size = B301 at *
            have b0 := HS301.out.at 1 rfl 0 rfl
            go_wp2_with fail
            clear b0
            go_loopw [13, 106] (fun kv hv wq => ∃ (k : Nat) (kb : Bool), kv = .bool kb ∧ hv = .int .i64 k ∧ k ≤ t2.held.length ∧ (t2.held.take k).any (fun y => confB y x) = kb ∧ HpL w C (m0 - 1) [.cd C, .ob B6 25 (tbCells (.slice a t2.held.length c) (.slice (some ⟨g1, off1, none⟩) t2.wait.length d)), .rd R, .ob B301 29 (grCells x)] wq) (fun _ hv _ => t2.held.length - (intOf hv).toNat)
            case atStart => exact ⟨0, false, rfl, rfl, Nat.zero_le _, rfl, HS301.out⟩
            case round =>
              clear HS301
              obtain ⟨k, kb, rfl, rfl, hk, hkb, hs⟩ := hrel
              have HY := Lib.hid hs
              have HKb := Lib.hid hkb
              clear hs hkb
              by_cases hlt : k < t2.held.length
              · obtain ⟨g0, off0, rfl, hrh⟩ := HR2.out.1.base (by omega)
                have HRh := Lib.hid hrh
                obtain ⟨y, hy⟩ : ∃ y, t2.held[k]? = some y := ⟨_, List.getElem?_eq_getElem hlt⟩
                have HYk := Lib.hid hy
                have hkk : (k : Int) < (t2.held.length : Int) := by omega
                have hk0 : (0 : Int) ≤ (k : Int) := by omega
                have HLk := Lib.hid hlt
                have HCf : Hid (∀ W, Calls Try.prog 31 #[.agg (grCells y).toArray, .agg (grCells x).toArray] W fun e w' => e = .returned (.bool (confB y x)) ∧ Below W.heap.size W w') := fun W => lconflict_any y x W (HS2.out.ok.good.held y (List.mem_of_getElem? hy)) HGx.out
                have HAn := Lib.hid (any_take (fun y => confB y x) hy)
                clear hrh hy hk hlt
                go_upto_region 31 with (first | ((with_reducible refine wpList_load_at 29 (.tmp 108) g0 ((off0 + k * 4)) (grCells y) HUG.out ?_ ?_ ?_ ?_ ?_); (exact rfl); (exact (elem_rng (HRh.out _ ((HY.out).reads 2 rfl)) HYk.out)); (exact rfl); (exact info_gr); simp only [Act.put, List.setIfInBounds_toArray, List.set_cons_zero, List.set_cons_succ]) | ((with_reducible refine wpList_alloc_ob 29 (grCells grNil) ?_ ?_); (exact alloc_gr); simp only [Act.put, List.setIfInBounds_toArray, List.set_cons_zero, List.set_cons_succ]) | ((with_reducible refine wpList_store_ob 29 (.tmp 15) (wr.heap.size) (grCells y) (grCells grNil) 29 ?_ ?_ ?_ ?_ ?_ ?_ ?_); (exact rfl); (exact rfl); (exact ((HY.out).put 29 (grCells grNil)).get 4 rfl); (exact info_gr); (exact rfl); (exact (oneCell_gr _)); skip))
                have HS401 : Hid (HpL w C (m0 - 1) [.cd C, .ob B6 25 (tbCells (.slice (some ⟨g0, off0, none⟩) t2.held.length c) (.slice (some ⟨g1, off1, none⟩) t2.wait.length d)), .rd R, .ob B301 29 (grCells x), .ob (wr.heap.size) 29 (grCells y)] ((wr.alloc (.cells (grCells grNil).toArray 29)).setRow (wr.heap.size) (grCells y).toArray)) := ((HY.out).put 29 (grCells grNil)).row 4 rfl (grCells y)
                clear HY
                generalize ((wr.alloc (.cells (grCells grNil).toArray 29)).setRow (wr.heap.size) (grCells y).toArray) = w401 at *
                generalize wr.heap.size = B401 at *
                have y0 := HS401.out.at 4 rfl 0 rfl
                have x0 := HS401.out.at 3 rfl 0 rfl
                have y1 := HS401.out.at 4 rfl 1 rfl
                have x1 := HS401.out.at 3 rfl 1 rfl
                have y2 := HS401.out.at 4 rfl 2 rfl
                have x2 := HS401.out.at 3 rfl 2 rfl
                have y3 := HS401.out.at 4 rfl 3 rfl
                have x3 := HS401.out.at 3 rfl 3 rfl
                cases kb
                case true =>
                  have hz := HS401.out.pull [0, 1, 2, 3] (M := [.cd C, .ob B6 25 (tbCells (.slice (some ⟨g0, off0, none⟩) t2.held.length c) (.slice (some ⟨g1, off1, none⟩) t2.wait.length d)), .rd R, .ob B301 29 (grCells x)]) rfl (pull_nd HS401.out.nd [0, 1, 2, 3] rfl (by decide)) (by simp)
                  have HZ := Lib.hid hz
                  clear hz HS401
                  go_wp2_with fail
                  go_roundw
                  case rel => exact ⟨k + 1, true, rfl, by go_num, HLk.out, by rw [HAn.out, HKb.out]; rfl, HZ.out⟩
                  case measure => simp [intOf]; try (have := HLk.out; omega)
                case false =>
                  go_wp2_with fail
                  refine (HCf.out _).mono ?_
                  rintro e w490 ⟨rfl, hb⟩
                  have HB := Lib.hid (HS401.out.calls hb)
                  clear hb HS401 x0 x1 x2 x3 y0 y1 y2 y3 HCf
                  have hz := HB.out.pull [0, 1, 2, 3] (M := [.cd C, .ob B6 25 (tbCells (.slice (some ⟨g0, off0, none⟩) t2.held.length c) (.slice (some ⟨g1, off1, none⟩) t2.wait.length d)), .rd R, .ob B301 29 (grCells x)]) rfl (pull_nd HB.out.nd [0, 1, 2, 3] rfl (by decide)) (by simp)
                  have HZ := Lib.hid hz
                  clear hz HB
                  go_wp2_with fail
                  go_roundw
                  case rel => exact ⟨k + 1, confB y x, rfl, by go_num, HLk.out, by rw [HAn.out, HKb.out]; rfl, HZ.out⟩
                  case measure => simp [intOf]; try (have := HLk.out; omega)
              · obtain rfl : t2.held.length = k := by omega
                have HKh : Hid (t2.held.any (fun y => confB y x) = kb) := Lib.hid (by have := HKb.out; rwa [List.take_length] at this)
                clear hlt hk HKb
                have b1 := HY.out.at 1 rfl 1 rfl
                go_wp2_with fail
                clear b1
                go_loopw [13, 122] (fun kv hv wq => ∃ (k : Nat) (kb : Bool), kv = .bool kb ∧ hv = .int .i64 k ∧ k ≤ i ∧ (t2.held.any (fun y => confB y x) || (t2.wait.take k).any (fun y => confB y x)) = kb ∧ HpL w C (m0 - 1) [.cd C, .ob B6 25 (tbCells (.slice a t2.held.length c) (.slice (some ⟨g1, off1, none⟩) t2.wait.length d)), .rd R, .ob B301 29 (grCells x)] wq) (fun _ hv _ => i - (intOf hv).toNat)
                case atStart => exact ⟨0, kb, rfl, rfl, Nat.zero_le _, by rw [HKh.out]; simp, HY.out⟩
                case round =>
                  clear HY HKh
                  obtain ⟨k, kb, rfl, rfl, hk, hkb, hs⟩ := hrel
                  have HY := Lib.hid hs
                  have HKb := Lib.hid hkb
                  clear hs hkb
                  by_cases hlt : k < i
                  · obtain ⟨y, hy⟩ : ∃ y, t2.wait[k]? = some y := ⟨_, List.getElem?_eq_getElem (by have := HLt.out; omega)⟩
                    have HYk := Lib.hid hy
                    have hkk : (k : Int) < (i : Int) := by omega
                    have hkw : (k : Int) < (t2.wait.length : Int) := by omega
                    have hk0 : (0 : Int) ≤ (k : Int) := by omega
                    have HLk := Lib.hid hlt
                    have HCf : Hid (∀ W, Calls Try.prog 31 #[.agg (grCells y).toArray, .agg (grCells x).toArray] W fun e w' => e = .returned (.bool (confB y x)) ∧ Below W.heap.size W w') := fun W => lconflict_any y x W (HS2.out.ok.good.wait y (List.mem_of_getElem? hy)) HGx.out
                    have HAn := Lib.hid (any_take (fun y => confB y x) hy)
                    clear hy hk hlt
                    go_upto_region 36 with (first | ((with_reducible refine wpList_load_at 29 (.tmp 124) g1 ((off1 + k * 4)) (grCells y) HUG.out ?_ ?_ ?_ ?_ ?_); (exact rfl); (exact (elem_rng (HRw.out _ ((HY.out).reads 2 rfl)) HYk.out)); (exact rfl); (exact info_gr); simp only [Act.put, List.setIfInBounds_toArray, List.set_cons_zero, List.set_cons_succ]) | ((with_reducible refine wpList_alloc_ob 29 (grCells grNil) ?_ ?_); (exact alloc_gr); simp only [Act.put, List.setIfInBounds_toArray, List.set_cons_zero, List.set_cons_succ]) | ((with_reducible refine wpList_store_ob 29 (.tmp 17) (wr.heap.size) (grCells y) (grCells grNil) 29 ?_ ?_ ?_ ?_ ?_ ?_ ?_); (exact rfl); (exact rfl); (exact ((HY.out).put 29 (grCells grNil)).get 4 rfl); (exact info_gr); (exact rfl); (exact (oneCell_gr _)); skip))
                    have HS501 : Hid (HpL w C (m0 - 1) [.cd C, .ob B6 25 (tbCells (.slice a t2.held.length c) (.slice (some ⟨g1, off1, none⟩) t2.wait.length d)), .rd R, .ob B301 29 (grCells x), .ob (wr.heap.size) 29 (grCells y)] ((wr.alloc (.cells (grCells grNil).toArray 29)).setRow (wr.heap.size) (grCells y).toArray)) := ((HY.out).put 29 (grCells grNil)).row 4 rfl (grCells y)
                    clear HY
                    generalize ((wr.alloc (.cells (grCells grNil).toArray 29)).setRow (wr.heap.size) (grCells y).toArray) = w501 at *
                    generalize wr.heap.size = B501 at *
                    have y0 := HS501.out.at 4 rfl 0 rfl
                    have x0 := HS501.out.at 3 rfl 0 rfl
                    have y1 := HS501.out.at 4 rfl 1 rfl
                    have x1 := HS501.out.at 3 rfl 1 rfl
                    have y2 := HS501.out.at 4 rfl 2 rfl
                    have x2 := HS501.out.at 3 rfl 2 rfl
                    have y3 := HS501.out.at 4 rfl 3 rfl
                    have x3 := HS501.out.at 3 rfl 3 rfl
                    cases kb
                    case true =>
                      have hz := HS501.out.pull [0, 1, 2, 3] (M := [.cd C, .ob B6 25 (tbCells (.slice a t2.held.length c) (.slice (some ⟨g1, off1, none⟩) t2.wait.length d)), .rd R, .ob B301 29 (grCells x)]) rfl (pull_nd HS501.out.nd [0, 1, 2, 3] rfl (by decide)) (by simp)
                      have HZ := Lib.hid hz
                      clear hz HS501
                      go_wp2_with fail
                      go_roundw
                      case rel => exact ⟨k + 1, true, rfl, by go_num, HLk.out, by rw [HAn.out, ← Bool.or_assoc, HKb.out]; rfl, HZ.out⟩
                      case measure => simp [intOf]; try (have := HLk.out; omega)
                    case false =>
                      go_wp2_with fail
                      refine (HCf.out _).mono ?_
                      rintro e w590 ⟨rfl, hb⟩
                      have HB := Lib.hid (HS501.out.calls hb)
                      clear hb HS501 x0 x1 x2 x3 y0 y1 y2 y3 HCf
                      have hz := HB.out.pull [0, 1, 2, 3] (M := [.cd C, .ob B6 25 (tbCells (.slice a t2.held.length c) (.slice (some ⟨g1, off1, none⟩) t2.wait.length d)), .rd R, .ob B301 29 (grCells x)]) rfl (pull_nd HB.out.nd [0, 1, 2, 3] rfl (by decide)) (by simp)
                      have HZ := Lib.hid hz
                      clear hz HB
                      go_wp2_with fail
                      go_roundw
                      case rel => exact ⟨k + 1, confB y x, rfl, by go_num, HLk.out, by rw [HAn.out, ← Bool.or_assoc, HKb.out]; rfl, HZ.out⟩
                      case measure => simp [intOf]; try (have := HLk.out; omega)
                  · obtain rfl : k = i := by omega
                    obtain rfl : kb = true := by rw [← HKb.out]; exact HKp.out
                    clear hlt hk HKb
                    have hz := HY.out.pull [0, 1, 2] (M := [.cd C, .ob B6 25 (tbCells (.slice a t2.held.length c) (.slice (some ⟨g1, off1, none⟩) t2.wait.length d)), .rd R]) rfl (pull_nd HY.out.nd [0, 1, 2] rfl (by decide)) (by simp)
                    have HZ := Lib.hid hz
                    clear hz HY
                    go_wp2_with fail
                    go_roundw
                    case rel => exact ⟨k + 1, by go_num, HLt.out, HZ.out⟩
                    case measure => simp [intOf]; try (have := HLt.out; omega)
          · obtain rfl : t2.wait.length = i := by omega
            clear hlt hi
            go_wp2_with fail
            go_roundw
            case rel => exact ⟨t2, a, b, c, d, R, HR2.out, HS2.out, by have h1 := HY.out.left; have h2 := HL2.out; have h3 := HLn.out; have h4 := HMp.out; omega, HY.out.hp⟩
            case measure => have h1 := HY.out.left; have h4 := HMp.out; rw [HM0.out]; omega
    · have dv : decide (0 < v) = false := decide_eq_false hv0
      clear hv0 HV
      go_wp2_with fail
      go_ret
      exact ⟨rfl, HY2.out.old⟩
end Go.Proofs.Ytcnaalbpbalgdaa
