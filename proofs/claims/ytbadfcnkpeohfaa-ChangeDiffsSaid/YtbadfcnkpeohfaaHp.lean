/- what a walk keeps of memory: objects, slices of its own, choices; what was there is as it was -/
import Derived.Test.YtbadfcnkpeohfaaMem
import Derived.Maps.AppendAt
import Derived.Deep.DeepCutAuto
import Derived.Great.BuildSlice
namespace Go.Proofs.Ytbadfcnkpeohfaa
open Go.RowKit

/-- a thing in new memory: an object; a slice of the walk's own; choices -/
inductive Th where
  | ob (b : Nat) (t : TypeId) (cs : List Value)
  | sl (v : Value) (e : TypeId) (z n : Nat) (xs : List Value)
  | cd (C : Nat)
/-- its block -/
def Th.blk : Th → Option Nat
  | .ob b _ _ => some b
  | .sl v _ _ _ _ => v.ownBlock
  | .cd C => some C
/-- it lies in W, in memory from B on -/
def Th.In (B : Nat) (W : World) : Th → Prop
  | .ob b t cs => B ≤ b ∧ W.heap[b]? = some (.cells cs.toArray t (0, 0))
  | .sl v e z n xs => W.ownsRow B e z v n xs
  | .cd C => B ≤ C ∧ CodesOk W C ∧ ∃ a len cap, W.cell? ⟨C, 0, none⟩ = some (.slice a len cap) ∧ (0 < len → ∀ b off, a = some ⟨b, off, none⟩ → b < B)
def Th.Apart (x y : Th) : Prop := ∀ b, x.blk = some b → y.blk ≠ some b
theorem Th.In.from {B : Nat} {W : World} {x : Th} (h : x.In B W) {b : Nat} (hb : x.blk = some b) : B ≤ b ∧ b < W.heap.size := by
  cases x with
  | ob c t cs =>
    obtain rfl : c = b := Option.some.inj hb
    exact ⟨h.1, (Array.getElem?_eq_some_iff.1 h.2).1⟩
  | sl v e z n xs => exact World.ownsRow.lt h b hb
  | cd C =>
    obtain rfl : C = b := Option.some.inj hb
    exact ⟨h.1, h.2.1.lt⟩
theorem codes_keep {w w' : World} {C B : Nat} (h : Th.In B w (.cd C)) (hs : w.heap.size ≤ w'.heap.size) (hC : w'.heap[C]? = w.heap[C]?) (ho : ∀ k, k < B → w'.heap[k]? = w.heap[k]?) : Th.In B w' (.cd C) := by
  obtain ⟨hB, ⟨a, len, cap, i, h0, h1, h2, h3, h4, h5, h6, h7⟩, a', len', cap', h8, h9⟩ := h
  have cell : ∀ j, w'.cell? ⟨C, j, none⟩ = w.cell? ⟨C, j, none⟩ := fun j => World.cell?_of_block (a := ⟨C, j, none⟩) hC
  have e := h1.symm.trans h8
  simp only [Option.some.injEq, Value.slice.injEq] at e
  obtain ⟨rfl, rfl, rfl⟩ := e
  refine ⟨hB, ⟨a, len, cap, i, by omega, by rw [cell 0]; exact h1, by rw [cell 1]; exact h2, by rw [World.frozen?_of_block (a := ⟨C, 1, none⟩) hC]; exact h3, h4, h5, h6, fun hl => ?_⟩, a, len, cap, by rw [cell 0]; exact h8, h9⟩
  obtain ⟨b, off, ha, hbC, hz⟩ := h7 hl
  have hb := h9 hl b off ha
  exact ⟨b, off, ha, hbC, fun j hj => by rw [World.cell?_of_block (a := ⟨b, off + j, none⟩) (ho b hb)]; exact hz j hj⟩
theorem Th.In.keep {B : Nat} {W W' : World} {x : Th} (h : x.In B W) (hs : W.heap.size ≤ W'.heap.size) (hx : ∀ b, x.blk = some b → W'.heap[b]? = W.heap[b]?) (ho : ∀ k, k < B → W'.heap[k]? = W.heap[k]?) : x.In B W' := by
  cases x with
  | ob c t cs => exact ⟨h.1, (hx c rfl).trans h.2⟩
  | sl v e z n xs =>
    refine ⟨h.1, ?_⟩
    rcases h.2 with h0 | ⟨g, cap, cur, hv, hB, hg, hr⟩
    · exact .inl h0
    · exact .inr ⟨g, cap, cur, hv, hB, (hx g (by rw [hv]; rfl)).trans hg, hr⟩
  | cd C => exact codes_keep h hs (hx C rfl) ho
theorem Th.Apart.symm {x y : Th} (h : x.Apart y) : y.Apart x := fun b hy hx => h b hx hy

structure Hp (w : World) (L : List Th) (W : World) : Prop where
  old : Below w.heap.size w W
  all : ∀ x ∈ L, x.In w.heap.size W
  nd : L.Pairwise Th.Apart
theorem Hp.start (w : World) : Hp w [] w := ⟨Below.refl _ _, by simp, .nil⟩
theorem Hp.in {w W : World} {L : List Th} (h : Hp w L W) (i : Nat) {x : Th} (e : L[i]? = some x) : x.In w.heap.size W := h.all _ (List.mem_of_getElem? e)
theorem Hp.get {w W : World} {L : List Th} (h : Hp w L W) (i : Nat) {b : Nat} {t : TypeId} {cs : List Value} (e : L[i]? = some (.ob b t cs)) : W.heap[b]? = some (.cells cs.toArray t (0, 0)) := (h.in i e).2
theorem Hp.at {w W : World} {L : List Th} (h : Hp w L W) (i : Nat) {b : Nat} {t : TypeId} {cs : List Value} (e : L[i]? = some (.ob b t cs)) (k : Nat) {v : Value} (hv : cs[k]? = some v) : W.cell? ⟨b, k, none⟩ = some v := by
  rw [cell_of_row W b k _ _ _ (h.get i e), List.getElem?_toArray]; exact hv
theorem Hp.frozen {w W : World} {L : List Th} (h : Hp w L W) (i : Nat) {b : Nat} {t : TypeId} {cs : List Value} (e : L[i]? = some (.ob b t cs)) (k : Nat) : W.frozen? ⟨b, k, none⟩ = false := frozen_of_row _ _ _ _ _ (h.get i e)
theorem Hp.codes {w W : World} {L : List Th} (h : Hp w L W) (i : Nat) {C : Nat} (e : L[i]? = some (.cd C)) : CodesOk W C := (h.in i e).2.1
theorem Hp.own {w W : World} {L : List Th} (h : Hp w L W) (i : Nat) {v : Value} {t : TypeId} {z n : Nat} {xs : List Value} (e : L[i]? = some (.sl v t z n xs)) : W.ownsRow w.heap.size t z v n xs := h.in i e
theorem Hp.lt {w W : World} {L : List Th} (h : Hp w L W) (i : Nat) {x : Th} {b : Nat} (e : L[i]? = some x) (hb : x.blk = some b) : w.heap.size ≤ b ∧ b < W.heap.size := (h.in i e).from hb
theorem apart_at {L : List Th} (hn : L.Pairwise Th.Apart) : ∀ (i j : Nat) (x y : Th), L[i]? = some x → L[j]? = some y → i ≠ j → x.Apart y := by
  induction L with
  | nil => intro i j x y hx; simp at hx
  | cons z l ih =>
    rw [List.pairwise_cons] at hn
    intro i j x y hx hy hij
    cases i with
    | zero =>
      cases j with
      | zero => exact absurd rfl hij
      | succ j =>
        obtain rfl : z = x := by simpa using hx
        exact hn.1 y (List.mem_of_getElem? (by simpa using hy))
    | succ i =>
      cases j with
      | zero =>
        obtain rfl : z = y := by simpa using hy
        exact (hn.1 x (List.mem_of_getElem? (by simpa using hx))).symm
      | succ j => exact ih hn.2 i j x y (by simpa using hx) (by simpa using hy) (by omega)
theorem Hp.ne {w W : World} {L : List Th} (h : Hp w L W) (i j : Nat) {x y : Th} {b c : Nat} (ei : L[i]? = some x) (ej : L[j]? = some y) (hij : i ≠ j) (hb : x.blk = some b) (hc : y.blk = some c) : b ≠ c := fun e => by
  subst e
  exact apart_at h.nd i j x y ei ej hij b hb hc
theorem Hp.drew {w W : World} {L : List Th} (h : Hp w L W) : Hp w L W.drew := ⟨h.old.drew, fun x hx => (h.all x hx).keep (Nat.le_refl _) (fun _ _ => rfl) (fun _ _ => rfl), h.nd⟩
theorem Hp.drewN {w W : World} {L : List Th} (h : Hp w L W) (q : Nat) : Hp w L (W.drewN q) := ⟨⟨h.old.os, h.old.tape, h.old.output, h.old.size, h.old.block⟩, fun x hx => (h.all x hx).keep (Nat.le_refl _) (fun _ _ => rfl) (fun _ _ => rfl), h.nd⟩
theorem Hp.calls {w W W' : World} {L : List Th} (h : Hp w L W) (hb : Below W.heap.size W W') : Hp w L W' :=
  ⟨h.old.trans (hb.mono h.old.size), fun x hx => (h.all x hx).keep hb.size (fun b e => hb.block b ((h.all x hx).from e).2) (fun k hk => hb.block k (Nat.lt_of_lt_of_le hk h.old.size)), h.nd⟩
theorem Hp.add {w W W' : World} {L : List Th} (h : Hp w L W) (hb : Below W.heap.size W W') (y : Th) (hy : y.In w.heap.size W') (hn : ∀ b, y.blk = some b → W.heap.size ≤ b) : Hp w (L ++ [y]) W' := by
  have h' := h.calls hb
  refine ⟨h'.old, fun x hx => ?_, ?_⟩
  · rcases List.mem_append.1 hx with hx | hx
    · exact h'.all x hx
    · obtain rfl := List.mem_singleton.1 hx
      exact hy
  · rw [List.pairwise_append]
    refine ⟨h.nd, List.pairwise_singleton _ _, fun a ha b hb c hac hbc => ?_⟩
    obtain rfl := List.mem_singleton.1 hb
    have h1 := ((h.all a ha).from hac).2
    have h2 := hn c hbc
    omega
/-- an object is made -/
theorem Hp.put {w W : World} {L : List Th} (h : Hp w L W) (t : TypeId) (cs : List Value) : Hp w (L ++ [.ob W.heap.size t cs]) (W.alloc (.cells cs.toArray t)) :=
  h.add ((Below.refl _ _).alloc (Nat.le_refl _) _) _ ⟨h.old.size, heap_alloc_last W _⟩ (fun b e => by obtain rfl : W.heap.size = b := Option.some.inj e; exact Nat.le_refl _)
/-- choices begin -/
theorem Hp.begin {w W W' : World} {L : List Th} (h : Hp w L W) (hb : Below W.heap.size W W') (hc : CodesOk W' W.heap.size) (hl : ∃ a len cap, W'.cell? ⟨W.heap.size, 0, none⟩ = some (.slice a len cap) ∧ (0 < len → ∀ b off, a = some ⟨b, off, none⟩ → b < w.heap.size)) : Hp w (L ++ [.cd W.heap.size]) W' :=
  h.add hb _ ⟨h.old.size, hc, hl⟩ (fun b e => by obtain rfl : W.heap.size = b := Option.some.inj e; exact Nat.le_refl _)
/-- a slice of its own, nil as yet -/
theorem Hp.nil {w W : World} {L : List Th} (h : Hp w L W) (t : TypeId) (z : Nat) : Hp w (L ++ [.sl (.slice none 0 0) t z 0 []]) W :=
  h.add (Below.refl _ _) _ ⟨by simp, .inl ⟨rfl, rfl⟩⟩ (fun b e => by cases e)
theorem pair_set' {L : List Th} {i : Nat} {x : Th} (hn : L.Pairwise Th.Apart) (e : L[i]? = some x) (y : Th) (hy : ∀ z ∈ L, z.Apart x → z.Apart y) : (L.set i y).Pairwise Th.Apart := by
  induction L generalizing i with
  | nil => simp at e
  | cons z l ih =>
    rw [List.pairwise_cons] at hn
    cases i with
    | zero =>
      obtain rfl : z = x := by simpa using e
      rw [List.set_cons_zero, List.pairwise_cons]
      exact ⟨fun u hu => (hy u (List.mem_cons_of_mem _ hu) (hn.1 u hu).symm).symm, hn.2⟩
    | succ i =>
      have e' : l[i]? = some x := by simpa using e
      rw [List.set_cons_succ, List.pairwise_cons]
      refine ⟨fun u hu => ?_, ih hn.2 e' (fun z hz => hy z (List.mem_cons_of_mem _ hz))⟩
      rcases List.mem_or_eq_of_mem_set hu with hu | rfl
      · exact hn.1 u hu
      · exact hy z (List.mem_cons_self ..) (hn.1 x (List.mem_of_getElem? e'))
theorem other_th {L : List Th} {i : Nat} {x z : Th} (hn : L.Pairwise Th.Apart) (e : L[i]? = some x) (y : Th) (hz : z ∈ L.set i y) : z = y ∨ (z ∈ L ∧ z.Apart x) := by
  induction L generalizing i with
  | nil => simp at e
  | cons u l ih =>
    rw [List.pairwise_cons] at hn
    cases i with
    | zero =>
      obtain rfl : u = x := by simpa using e
      rw [List.set_cons_zero] at hz
      rcases List.mem_cons.1 hz with rfl | hz
      · exact .inl rfl
      · exact .inr ⟨List.mem_cons_of_mem _ hz, (hn.1 z hz).symm⟩
    | succ i =>
      have e' : l[i]? = some x := by simpa using e
      rw [List.set_cons_succ] at hz
      rcases List.mem_cons.1 hz with rfl | hz
      · exact .inr ⟨List.mem_cons_self .., hn.1 x (List.mem_of_getElem? e')⟩
      · rcases ih hn.2 e' hz with h | h
        · exact .inl h
        · exact .inr ⟨List.mem_cons_of_mem _ h.1, h.2⟩
/-- a thing is turned; all that is not its block is as it was -/
theorem Hp.swap {w W W' : World} {L : List Th} (h : Hp w L W) (i : Nat) {x : Th} (e : L[i]? = some x) (y : Th) (hy : y.In w.heap.size W') (hn : ∀ b, y.blk = some b → x.blk = some b ∨ W.heap.size ≤ b)
    (hk : ∀ k, k < W.heap.size → x.blk ≠ some k → W'.heap[k]? = W.heap[k]?) (hos : W'.os = W.os) (ht : W'.tape = W.tape) (hout : W'.output = W.output) (hs : W.heap.size ≤ W'.heap.size) : Hp w (L.set i y) W' := by
  have hx := h.in i e
  have hold : ∀ k, k < w.heap.size → W'.heap[k]? = W.heap[k]? := fun k hk' => hk k (Nat.lt_of_lt_of_le hk' h.old.size) (fun e => by have := (hx.from e).1; omega)
  refine ⟨⟨hos.trans h.old.os, ht.trans h.old.tape, hout.trans h.old.output, Nat.le_trans h.old.size hs, fun k hk' => (hold k hk').trans (h.old.block k hk')⟩, fun z hz => ?_, pair_set' h.nd e y (fun z hz hzx b hzb hyb => ?_)⟩
  · rcases other_th h.nd e y hz with rfl | ⟨hz, hzx⟩
    · exact hy
    · exact (h.all z hz).keep hs (fun b hb => hk b ((h.all z hz).from hb).2 (hzx b hb)) hold
  · rcases hn b hyb with hxb | hge
    · exact hzx b hzb hxb
    · have := ((h.all z hz).from hzb).2
      omega
theorem Hp.draws {w W W' : World} {L : List Th} (h : Hp w L W) (i : Nat) {C : Nat} (e : L[i]? = some (.cd C)) (hb : Besides C W W') (hc : CodesOk W' C) : Hp w (L.set i (.cd C)) W' := by
  obtain ⟨hB, hok, a, len, cap, h8, h9⟩ := h.in i e
  exact h.swap i e (.cd C) ⟨hB, hc, a, len, cap, (hb.head hok.lt).trans h8, h9⟩ (fun b hb => .inl hb) (fun k hk hne => hb.block k hk (fun e => hne (by rw [e]; rfl))) hb.os hb.tape hb.output hb.size
theorem Hp.set {w W : World} {L : List Th} (h : Hp w L W) (i : Nat) {b : Nat} {t : TypeId} {cs : List Value} (e : L[i]? = some (.ob b t cs)) (k : Nat) (v : Value) : Hp w (L.set i (.ob b t (cs.set k v))) (W.setCell ⟨b, k, none⟩ v) := by
  refine h.swap i e _ ⟨(h.in i e).1, ?_⟩ (fun b hb => .inl hb) (fun j hj hne => Below.heap_setCell _ _ _ _ (fun e => hne (by rw [e]; rfl))) rfl rfl rfl (by simp [World.setCell])
  have := heap_setCell_same W b k _ _ v (h.get i e)
  rw [List.setIfInBounds_toArray] at this
  exact this
theorem Hp.row {w W : World} {L : List Th} (h : Hp w L W) (i : Nat) {b : Nat} {t : TypeId} {cs : List Value} (e : L[i]? = some (.ob b t cs)) (cs' : List Value) : Hp w (L.set i (.ob b t cs')) (W.setRow b cs'.toArray) :=
  h.swap i e _ ⟨(h.in i e).1, setRow_heap _ _ _ _ _ _ (h.get i e)⟩ (fun b hb => .inl hb) (fun j hj hne => setRow_other _ _ _ _ (fun e => hne (by rw [e]; rfl))) rfl rfl rfl (by simp [World.setRow])
/-- a slice of its own has grown -/
theorem Hp.grown {w W W' : World} {L : List Th} (h : Hp w L W) (i : Nat) {v v' : Value} {t : TypeId} {z n m : Nat} {xs ys : List Value} (e : L[i]? = some (.sl v t z n xs)) (ho : W'.ownsRow w.heap.size t z v' m ys) (hg : W.grownBy W' v.ownBlock) (hb : v'.ownBlock = v.ownBlock ∨ v'.ownBlock = some W.heap.size) : Hp w (L.set i (.sl v' t z m ys)) W' := by
  refine h.swap i e _ ho (fun b hb' => ?_) (fun k hk hne => hg.block k hk (fun e => hne e.symm)) hg.os hg.tape hg.output hg.size
  have hb'' : v'.ownBlock = some b := hb'
  rcases hb with hb | hb
  · exact .inl (hb.symm.trans hb'')
  · right
    rw [hb] at hb''
    exact Nat.le_of_eq (Option.some.inj hb'')
/-- what is not needed any more -/
theorem Hp.forget {w W : World} {L M : List Th} (h : Hp w (L ++ M) W) : Hp w L W := ⟨h.old, fun x hx => h.all x (List.mem_append_left _ hx), (List.pairwise_append.1 h.nd).1⟩
/-- some of the things alone -/
def Hold (B : Nat) (L : List Th) (W : World) : Prop := ∀ x ∈ L, x.In B W
theorem Hold.get {B : Nat} {L : List Th} {W : World} (h : Hold B L W) (i : Nat) {b : Nat} {t : TypeId} {cs : List Value} (e : L[i]? = some (.ob b t cs)) : W.heap[b]? = some (.cells cs.toArray t (0, 0)) := (h _ (List.mem_of_getElem? e)).2
theorem Hold.at {B : Nat} {L : List Th} {W : World} (h : Hold B L W) (i : Nat) {b : Nat} {t : TypeId} {cs : List Value} (e : L[i]? = some (.ob b t cs)) (k : Nat) {v : Value} (hv : cs[k]? = some v) : W.cell? ⟨b, k, none⟩ = some v := by
  rw [cell_of_row W b k _ _ _ (h.get i e), List.getElem?_toArray]; exact hv
theorem Hold.whole {B : Nat} {L : List Th} {W : World} (h : Hold B L W) (i : Nat) {b : Nat} {t : TypeId} {cs : List Value} (e : L[i]? = some (.ob b t cs)) : W.rangeAt b 0 cs := fun j v hv => by
  rw [Nat.zero_add]; exact h.at i e j hv
theorem Hp.pick {w W : World} {L M : List Th} (h : Hp w L W) (is : List Nat) (e : is.map (fun i => L[i]?) = M.map some) : Hold w.heap.size M W := fun x hx => by
  have : some x ∈ M.map some := List.mem_map.2 ⟨x, hx, rfl⟩
  rw [← e, List.mem_map] at this
  obtain ⟨i, _, hi⟩ := this
  exact h.in i hi
theorem Hp.pull {w W : World} {L M : List Th} (h : Hp w L W) (is : List Nat) (e : is.map (fun i => L[i]?) = M.map some) (hn : M.Pairwise Th.Apart) : Hp w M W := ⟨h.old, h.pick is e, hn⟩
theorem pull_nd {L M : List Th} (hn : L.Pairwise Th.Apart) (is : List Nat) (e : is.map (fun i => L[i]?) = M.map some) (hd : is.Pairwise (· ≠ ·)) : M.Pairwise Th.Apart := by
  induction is generalizing M with
  | nil =>
    cases M with
    | nil => exact .nil
    | cons m M => simp at e
  | cons i is ih =>
    cases M with
    | nil => simp at e
    | cons m M =>
      rw [List.map_cons, List.map_cons, List.cons.injEq] at e
      rw [List.pairwise_cons] at hd ⊢
      refine ⟨fun y hy => ?_, ih e.2 hd.2⟩
      have hy' : some y ∈ is.map (fun i => L[i]?) := by rw [e.2]; exact List.mem_map.2 ⟨y, hy, rfl⟩
      obtain ⟨j, hj, hje⟩ := List.mem_map.1 hy'
      exact apart_at hn i j m y e.1 hje (hd.1 j hj)
/-- part of a slice of its own -/
theorem own_range {B : Nat} {W : World} {t : TypeId} {z n : Nat} {v : Value} {xs : List Value} (h : W.ownsRow B t z v n xs) {g cap : Nat} (hv : v = .slice (some ⟨g, 0, none⟩) n cap) (k : Nat) (cs : List Value) (hc : ∀ j u, cs[j]? = some u → xs[k + j]? = some u) : W.rangeAt g k cs := fun j u hu => by
  rcases h.2 with ⟨h0, _⟩ | ⟨g', cap', cur, hv', _, hg, _, _, _, hx⟩
  · rw [hv] at h0; cases h0
  · rw [hv] at hv'
    have e : g = g' := by have := congrArg Value.ownBlock hv'; simpa [Value.ownBlock] using this
    subst e
    have hxs := hc j u hu
    rw [← hx] at hxs
    rw [cell_of_row W g (k + j) _ _ _ hg, ← Array.getElem?_toList]
    rw [List.getElem?_take] at hxs
    split at hxs
    · exact hxs
    · cases hxs
/-- what a type of elements is like -/
structure ElemIs (e : TypeId) (z bytes : Nat) : Prop where
  is : ∃ (inf : TypeInfo) (zv : Value), Try.prog.info? e = some inf ∧ inf.zero = some zv ∧ inf.size = z ∧ inf.bytes = bytes ∧ zv.cells.size = z
  pos : 0 < z
  small : z ≤ 65536
  room : bytes ≤ 65536
theorem Hp.append {w W : World} {L : List Th} (h : Hp w L W) (i : Nat) {v : Value} {e : TypeId} {z n : Nat} {xs : List Value} (ei : L[i]? = some (.sl v e z n xs)) (j : Nat) {b : Nat} {t' : TypeId} {ys : List Value} (ej : L[j]? = some (.ob b t' ys))
    (ts : TypeId) (ty : TypeId) {bytes : Nat} (ht : Try.prog.underlying ts = some (.slice e)) (he : ElemIs e z bytes) (m c : Nat) (hl : ys.length = m * z) (h1 : ∀ u ∈ ys, u.oneCell' = true) (hn : n + m ≤ 1048576) :
    ∃ v' W', (Builtin.append_ #[ts, ts] ty #[v, .slice (some ⟨b, 0, none⟩) m c]).run Try.prog W = .ok v' W' ∧ Hp w (L.set i (.sl v' e z (n + m) (xs ++ ys))) W' ∧ (v' = .slice none 0 0 ↔ v = .slice none 0 0 ∧ m = 0) := by
  obtain ⟨inf, zv, hi, hz, hsize, hby, hzs⟩ := he.is
  have hroom := he.room
  have hcell : ∀ q u, ys[q]? = some u → W.cell? ((⟨b, 0, none⟩ : Addr).add q) = some u := fun q u hu => by
    rw [Addr.add_mid, Nat.zero_add]
    exact h.at j ej q hu
  obtain ⟨v', W', hr, h2, h3, h4, h5⟩ := run_append_own_at (P := Try.prog) W w.heap.size ts ty e inf zv z bytes ht hi hz hsize hby hzs he.pos v n xs (h.own i ei) ⟨b, 0, none⟩ m c ys hl hcell h1 (by unfold maxLen; omega) (by
    have := Nat.mul_le_mul hn hroom
    omega) h.old.size
  exact ⟨v', W', hr, h.grown i ei h2 h3 h5, h4⟩
theorem wp_append_hp {o : Oper} {a : Act} {w W : World} {K : Act → World → Prop} {Q : Exit → Act → World → Prop} {L : List Th} (h : Hp w L W) (s x : Operand) (ts : TypeId) (ho : o.op = .call { callee := .builtin .append, args := #[s, x], argTypes := #[ts, ts] })
    (i : Nat) {v : Value} {e : TypeId} {z n : Nat} {xs : List Value} (ei : L[i]? = some (.sl v e z n xs)) (j : Nat) {b : Nat} {t' : TypeId} {ys : List Value} (ej : L[j]? = some (.ob b t' ys)) {bytes : Nat} (ht : Try.prog.underlying ts = some (.slice e)) (he : ElemIs e z bytes) (m c : Nat)
    (hs : a.eval s = v) (hx : a.eval x = .slice (some ⟨b, 0, none⟩) m c) (hl : ys.length = m * z) (h1 : ∀ u ∈ ys, u.oneCell' = true) (hn : n + m ≤ 1048576)
    (hk : ∀ v' W', Hp w (L.set i (.sl v' e z (n + m) (xs ++ ys))) W' → (v' = .slice none 0 0 ↔ v = .slice none 0 0 ∧ m = 0) → K (a.put o.dst v') W') : o.wp Try.prog a W K Q := by
  obtain ⟨v', W', hr, h2, h3⟩ := h.append i ei j ej ts o.type ht he m c hl h1 hn
  unfold Oper.wp execOp
  simp only [ho, resolve, invoke, builtin, Sem.run_bind, Sem.run_pure, Result.andThen_ok, List.map_toArray, List.map_cons, List.map_nil, hs, hx, hr]
  exact hk v' W' h2 h3
theorem wpList_append_hp {ops : Array Oper} {rest : List Oper} {a : Act} {w W : World} {Q : Exit → Act → World → Prop} {d : Option Tmp} {ty : TypeId} {pos : String} {aft : Array Edge} {L : List Th} (h : Hp w L W) (s x : Operand) (ts : TypeId)
    (i : Nat) {v : Value} {e : TypeId} {z n : Nat} {xs : List Value} (ei : L[i]? = some (.sl v e z n xs)) (j : Nat) {b : Nat} {t' : TypeId} {ys : List Value} (ej : L[j]? = some (.ob b t' ys)) {bytes : Nat} (ht : Try.prog.underlying ts = some (.slice e)) (he : ElemIs e z bytes) (m c : Nat)
    (hs : a.eval s = v) (hx : a.eval x = .slice (some ⟨b, 0, none⟩) m c) (hl : ys.length = m * z) (h1 : ∀ u ∈ ys, u.oneCell' = true) (hn : n + m ≤ 1048576)
    (hk : ∀ v' W', Hp w (L.set i (.sl v' e z (n + m) (xs ++ ys))) W' → (v' = .slice none 0 0 ↔ v = .slice none 0 0 ∧ m = 0) → wpList Try.prog ops Q rest (a.put d v') W') :
    wpList Try.prog ops Q ({ dst := d, op := .call { callee := .builtin .append, args := #[s, x], argTypes := #[ts, ts] }, type := ty, pos := pos, after := aft, guard := none } :: rest) a W :=
  wpList_plain rfl fun _ hK => wp_append_hp h s x ts rfl i ei j ej ht he m c hs hx hl h1 hn (fun v' W' p q => hK _ _ (hk v' W' p q))
/-- a slice of one, two or more elements, each a whole object -/
theorem run_build_obs {e ts : TypeId} {z bytes : Nat} (he : ElemIs e z bytes) (ht : Try.prog.underlying ts = some (.slice e)) (vs : List (List Value)) (hv : ∀ x ∈ vs, x.length = z) (h0 : 0 < vs.length) (h16 : vs.length ≤ 256) (W : World) :
    Sem.run Try.prog (Instr.buildSlice ts vs.length ((vs.zipIdx 0).map fun x => (x.2, Value.agg x.1.toArray)).toArray) W = .ok (.slice (some ⟨W.heap.size, 0, none⟩) vs.length vs.length) (W.alloc (.cells (vs.flatMap id).toArray e)) := by
  obtain ⟨inf, zv, hi, hz, hsize, hby, hzs⟩ := he.is
  have hp := he.pos
  have hsm := he.small
  refine run_buildSlice W ts e vs.length _ _ inf zv ht hi hz (by rw [hsize]; have := Nat.mul_le_mul h16 hsm; omega) (by rw [hsize]; exact Nat.ne_of_gt (Nat.mul_pos h0 hp)) ?_
  rw [hsize]
  have := Great.fill_whole (s := z) hp (vs.map fun x => Value.agg x.toArray) ((Array.range (vs.length * z)).map (zv.cells[· % zv.cells.size]!)) (by
    intro v hm
    obtain ⟨x, hx, rfl⟩ := List.mem_map.1 hm
    exact hv x hx) (by rw [Array.size_map, Array.size_range, List.length_map])
  rw [List.zipIdx_map, List.map_map] at this
  refine Eq.trans ?_ (this.trans ?_)
  · rfl
  · congr 1
    rw [List.flatMap_map]
    rfl
theorem wp_build_obs {o : Oper} {a : Act} {W : World} {K : Act → World → Prop} {Q : Exit → Act → World → Prop} {ts : TypeId} {n : Nat} {ps : Array (Nat × Operand)} (ho : o.op = .buildSlice ts n ps) {e : TypeId} {z bytes : Nat} (he : ElemIs e z bytes) (ht : Try.prog.underlying ts = some (.slice e)) (vs : List (List Value)) (hv : ∀ x ∈ vs, x.length = z) (h0 : 0 < vs.length) (h16 : vs.length ≤ 256) (hn : n = vs.length)
    (hp : ps.map (fun x => (x.1, a.eval x.2)) = ((vs.zipIdx 0).map fun x => (x.2, Value.agg x.1.toArray)).toArray)
    (h : K (a.put o.dst (.slice (some ⟨W.heap.size, 0, none⟩) n n)) (W.alloc (.cells (vs.flatMap id).toArray e))) : o.wp Try.prog a W K Q := by
  subst hn
  have hr := run_build_obs he ht vs hv h0 h16 W
  rw [← hp] at hr
  unfold Oper.wp execOp
  simp only [ho, Sem.run_bind, hr, Result.andThen_ok, Sem.run_pure]
  exact h
theorem wpList_build_obs (ts : TypeId) (n : Nat) {ps : Array (Nat × Operand)} {ops : Array Oper} {rest : List Oper} {a : Act} {W : World} {Q : Exit → Act → World → Prop} {d : Option Tmp} {ty : TypeId} {pos : String} {aft : Array Edge} {e : TypeId} {z bytes : Nat} (he : ElemIs e z bytes) (ht : Try.prog.underlying ts = some (.slice e)) (vs : List (List Value)) (hv : ∀ x ∈ vs, x.length = z) (h0 : 0 < vs.length) (h16 : vs.length ≤ 256) (hn : n = vs.length)
    (hp : ps.map (fun x => (x.1, a.eval x.2)) = ((vs.zipIdx 0).map fun x => (x.2, Value.agg x.1.toArray)).toArray)
    (h : wpList Try.prog ops Q rest (a.put d (.slice (some ⟨W.heap.size, 0, none⟩) n n)) (W.alloc (.cells (vs.flatMap id).toArray e))) :
    wpList Try.prog ops Q ({ dst := d, op := .buildSlice ts n ps, type := ty, pos := pos, after := aft, guard := none } :: rest) a W :=
  wpList_plain rfl fun _ hK => wp_build_obs rfl he ht vs hv h0 h16 hn hp (hK _ _ h)
/-- in a region that draws its order: a value that is built may be taken first -/
theorem yieldsIf_build_v {ops : Array Oper} {S : World → Prop} {op : Oper} {a : Act} (hw : Region.wanted op (yielded ops a.tmps) = true) (t : TypeId) (v : Value) {ps : Array (Nat × Operand)} (ho : op.op = .build t ps)
    (hb : ∀ W, Sem.run Try.prog (Instr.build t (ps.map fun x => (x.1, a.eval x.2))) W = .ok v W) : YieldsIf Try.prog ops S op v a :=
  .inl ⟨hw, fun W _ => by
    unfold execOp
    simp only [ho, Sem.run_bind, hb W, Result.andThen_ok, Sem.run_pure]⟩
theorem flat_mid {z : Nat} : ∀ (vs : List (List Value)) (_ : ∀ x ∈ vs, x.length = z) (k : Nat) (x : List Value), vs[k]? = some x → ∀ j v, x[j]? = some v → (vs.flatMap id)[k * z + j]? = some v
  | [], _, k, x, h, _, _, _ => by simp at h
  | y :: l, hz, 0, x, h, j, v, hv => by
    obtain rfl : y = x := by simpa using h
    rw [List.flatMap_cons, Nat.zero_mul, Nat.zero_add, List.getElem?_append_left (show j < (id y).length from (List.getElem?_eq_some_iff.1 hv).1)]
    exact hv
  | y :: l, hz, k + 1, x, h, j, v, hv => by
    have hy : (id y).length = z := hz y (List.mem_cons_self ..)
    rw [List.flatMap_cons, show (k + 1) * z + j = z + (k * z + j) from by rw [Nat.add_mul]; omega, List.getElem?_append_right (by omega), hy, Nat.add_sub_cancel_left]
    exact flat_mid l (fun u hu => hz u (List.mem_cons_of_mem _ hu)) k x (by simpa using h) j v hv
/-- a slice that a callee has made -/
theorem Hp.addown {w W W' : World} {L : List Th} (h : Hp w L W) (hb : Below W.heap.size W W') {v : Value} {t : TypeId} {z n : Nat} {xs : List Value} (ho : W'.ownsRow W.heap.size t z v n xs) : Hp w (L ++ [.sl v t z n xs]) W' := by
  refine h.add hb _ ⟨ho.1, ?_⟩ (fun b e => (ho.lt b e).1)
  rcases ho.2 with h0 | ⟨g, cap, cur, hv, hB, hr⟩
  · exact .inl h0
  · exact .inr ⟨g, cap, cur, hv, Nat.le_trans h.old.size hB, hr⟩
/-- an array of whole objects is built -/
theorem run_build_arr {t e : TypeId} {n z : Nat} (hu : Try.prog.underlying t = some (.array n e)) (hs : (Try.prog.info? e).map (·.size) = some z) (hz : ((Try.prog.info? t).bind (·.zero)).map (·.cells.size) = some (n * z)) (hp : 0 < z) (vs : List (List Value)) (hv : ∀ x ∈ vs, x.length = z) (hn : vs.length = n) (W : World) :
    Sem.run Try.prog (Instr.build t ((vs.zipIdx 0).map fun x => (x.2, Value.agg x.1.toArray)).toArray) W = .ok (.agg (vs.flatMap id).toArray) W := by
  refine run_build W t _ _ ?_
  unfold Program.built
  cases hie : Try.prog.info? e with
  | none => simp [hie] at hs
  | some ie =>
    cases hit : Try.prog.info? t with
    | none => simp [hit] at hz
    | some it =>
      cases hzz : it.zero with
      | none => simp [hit, hzz] at hz
      | some zv =>
        simp only [hie, hit, hzz, Option.map_some, Option.some.injEq, Option.bind_some] at hs hz
        simp only [hu, hzz, hie]
        rw [hs]
        have := Great.fill_whole (s := z) hp (vs.map fun x => Value.agg x.toArray) zv.cells (by
          intro v hm
          obtain ⟨x, hx, rfl⟩ := List.mem_map.1 hm
          exact hv x hx) (by rw [List.length_map, hn, hz])
        rw [List.zipIdx_map, List.map_map] at this
        refine Eq.trans ?_ (this.trans ?_)
        · rfl
        · congr 1
          rw [List.flatMap_map]
          rfl
/-- part of an object -/
theorem Hold.mid {B : Nat} {L : List Th} {W : World} (h : Hold B L W) (i : Nat) {b : Nat} {t : TypeId} {cs : List Value} (e : L[i]? = some (.ob b t cs)) (k : Nat) (vs : List Value) (hv : ∀ j v, vs[j]? = some v → cs[k + j]? = some v) : W.rangeAt b k vs := fun j v hj => h.at i e (k + j) (hv j v hj)
theorem Hp.mid {w W : World} {L : List Th} (h : Hp w L W) (i : Nat) {b : Nat} {t : TypeId} {cs : List Value} (e : L[i]? = some (.ob b t cs)) (k : Nat) (vs : List Value) (hv : ∀ j v, vs[j]? = some v → cs[k + j]? = some v) : W.rangeAt b k vs := fun j v hj => h.at i e (k + j) (hv j v hj)
theorem pgCells_mid (p : Pg) (k : Nat) (h : k < p.cells.length) : ∀ j v, (clCells p.cells[k])[j]? = some v → (pgCells p)[2 + k * 2 + j]? = some v
  | 0, _, hv => (pgCells_at p k h).1.trans hv
  | 1, _, hv => (pgCells_at p k h).2.trans hv
  | j + 2, v, hv => by simp [clCells] at hv
end Go.Proofs.Ytbadfcnkpeohfaa
