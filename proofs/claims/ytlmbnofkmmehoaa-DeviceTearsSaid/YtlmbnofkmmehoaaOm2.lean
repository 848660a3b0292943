/- texts of a claim, one after the other: what a walk keeps of memory: objects, slices of its own, choices; what was there is as it was, the choices of a law's walk, as a thing, the choices of the drawing package: Data, the choices of the drawing package: Bytes -/
import Derived.Test.YtlmbnofkmmehoaaOm1
import Derived.Maps.AppendAt
import Derived.Deep.DeepCutAuto
import Derived.Great.BuildSlice
import Derived.WalkKit
import Derived.Deep.RegionWith
/- what a walk keeps of memory: objects, slices of its own, choices; what was there is as it was -/
namespace Go.Proofs.Ytlmbnofkmmehoaa
open Go.RowKit
set_option maxRecDepth 20000

/-- cells that are read: a block, a place in it, what lies there -/
abbrev Rng := Nat × Nat × List Value
def RdIn (W : World) (R : List Rng) : Prop := ∀ r ∈ R, r.1 < W.heap.size ∧ W.rangeAt r.1 r.2.1 r.2.2
theorem RdIn.keep {W W' : World} {R : List Rng} (h : RdIn W R) (hs : W.heap.size ≤ W'.heap.size) (hk : ∀ b ∈ R.map (·.1), W'.heap[b]? = W.heap[b]?) : RdIn W' R := fun r hr => by
  obtain ⟨h1, h2⟩ := h r hr
  refine ⟨Nat.lt_of_lt_of_le h1 hs, fun j u hu => ?_⟩
  rw [World.cell?_of_block (a := ⟨r.1, r.2.1 + j, none⟩) (hk r.1 (List.mem_map.2 ⟨r, hr, rfl⟩))]
  exact h2 j u hu
theorem RdIn.lt {W : World} {R : List Rng} (h : RdIn W R) {b : Nat} (hb : b ∈ R.map (·.1)) : b < W.heap.size := by
  obtain ⟨r, hr, rfl⟩ := List.mem_map.1 hb
  exact (h r hr).1
theorem RdIn.below {W W' : World} {R : List Rng} (h : RdIn W R) (hb : Below W.heap.size W W') : RdIn W' R := h.keep hb.size (fun b hb' => hb.block b (h.lt hb'))
theorem RdIn.sub {W : World} {R S : List Rng} (h : RdIn W R) (hs : ∀ r ∈ S, r ∈ R) : RdIn W S := fun r hr => h r (hs r hr)
theorem RdIn.append {W : World} {R S : List Rng} (h : RdIn W R) (k : RdIn W S) : RdIn W (R ++ S) := fun r hr => (List.mem_append.1 hr).elim (h r) (k r)
theorem RdIn.nil (W : World) : RdIn W [] := fun r hr => by cases hr
/-- a thing in new memory: an object; a slice of the walk's own; choices; and cells that are read, wherever they are -/
inductive Th where
  | ob (b : Nat) (t : TypeId) (cs : List Value)
  | sl (v : Value) (e : TypeId) (z n : Nat) (xs : List Value)
  | cd (C : Nat)
  | rd (R : List Rng)
/-- its block -/
def Th.blk : Th → Option Nat
  | .ob b _ _ => some b
  | .sl v _ _ _ _ => v.ownBlock
  | .cd C => some C
  | .rd _ => none
/-- the blocks that it reads -/
def Th.reads : Th → List Nat
  | .rd R => R.map (·.1)
  | _ => []
/-- it lies in W, in memory from B on -/
def Th.In (B : Nat) (W : World) : Th → Prop
  | .ob b t cs => B ≤ b ∧ W.heap[b]? = some (.cells cs.toArray t (0, 0))
  | .sl v e z n xs => W.ownsRow B e z v n xs
  | .cd C => B ≤ C ∧ CodesOk W C ∧ ∃ a len cap, W.cell? ⟨C, 0, none⟩ = some (.slice a len cap) ∧ (0 < len → ∀ b off, a = some ⟨b, off, none⟩ → b < B)
  | .rd R => RdIn W R
def Th.Apart (x y : Th) : Prop := (∀ b, x.blk = some b → y.blk ≠ some b ∧ b ∉ y.reads) ∧ (∀ b, y.blk = some b → b ∉ x.reads)
theorem Th.In.from {B : Nat} {W : World} {x : Th} (h : x.In B W) {b : Nat} (hb : x.blk = some b) : B ≤ b ∧ b < W.heap.size := by
  cases x with
  | ob c t cs =>
    obtain rfl : c = b := Option.some.inj hb
    exact ⟨h.1, (Array.getElem?_eq_some_iff.1 h.2).1⟩
  | sl v e z n xs => exact World.ownsRow.lt h b hb
  | cd C =>
    obtain rfl : C = b := Option.some.inj hb
    exact ⟨h.1, h.2.1.lt⟩
  | rd R => cases hb
theorem Th.In.reads_lt {B : Nat} {W : World} {x : Th} (h : x.In B W) {b : Nat} (hb : b ∈ x.reads) : b < W.heap.size := by
  cases x with
  | rd R => exact RdIn.lt h hb
  | _ => cases hb
theorem codes_keep {w w' : World} {C B : Nat} (h : Th.In B w (.cd C)) (hs : w.heap.size ≤ w'.heap.size) (hC : w'.heap[C]? = w.heap[C]?) (ho : ∀ k, k < B → w'.heap[k]? = w.heap[k]?) : Th.In B w' (.cd C) := by
  obtain ⟨hB, ⟨a, len, cap, i, h0, h1, h2, h3, h4, h5, h6, h7⟩, a', len', cap', h8, h9⟩ := h
  have cell : ∀ j, w'.cell? ⟨C, j, none⟩ = w.cell? ⟨C, j, none⟩ := fun j => World.cell?_of_block (a := ⟨C, j, none⟩) hC
  have e := h1.symm.trans h8
  simp only [Option.some.injEq, Value.slice.injEq] at e
  obtain ⟨rfl, rfl, rfl⟩ := e
  refine ⟨hB, ⟨a, len, cap, i, by omega, by rw [cell 0]; exact h1, by rw [cell 1]; exact h2, by rw [World.frozen?_of_block (a := ⟨C, 1, none⟩) hC]; exact h3, h4, h5, h6, fun hl => ?_⟩, a, len, cap, by rw [cell 0]; exact h8, h9⟩
  obtain ⟨b, off, ha, hbC, hz⟩ := h7 hl
  have hb := h9 hl b off ha
  exact ⟨b, off, ha, hbC, fun j hj => by rw [World.cell?_of_block (a := ⟨b, off + j, none⟩) (ho b hb)]; exact hz j hj⟩
theorem Th.In.keep {B : Nat} {W W' : World} {x : Th} (h : x.In B W) (hs : W.heap.size ≤ W'.heap.size) (hx : ∀ b, x.blk = some b → W'.heap[b]? = W.heap[b]?) (ho : ∀ k, k < B → W'.heap[k]? = W.heap[k]?) (hr : ∀ b ∈ x.reads, W'.heap[b]? = W.heap[b]?) : x.In B W' := by
  cases x with
  | ob c t cs => exact ⟨h.1, (hx c rfl).trans h.2⟩
  | sl v e z n xs =>
    refine ⟨h.1, ?_⟩
    rcases h.2 with h0 | ⟨g, cap, cur, hv, hB, hg, hr⟩
    · exact .inl h0
    · exact .inr ⟨g, cap, cur, hv, hB, (hx g (by rw [hv]; rfl)).trans hg, hr⟩
  | cd C => exact codes_keep h hs (hx C rfl) ho
  | rd R => exact RdIn.keep h hs hr
theorem Th.Apart.symm {x y : Th} (h : x.Apart y) : y.Apart x := ⟨fun b hy => ⟨fun hx => (h.1 b hx).1 hy, h.2 b hy⟩, fun b hx => (h.1 b hx).2⟩

structure Hp (w : World) (L : List Th) (W : World) : Prop where
  old : Below w.heap.size w W
  all : ∀ x ∈ L, x.In w.heap.size W
  nd : L.Pairwise Th.Apart
theorem Hp.start (w : World) : Hp w [] w := ⟨Below.refl _ _, by simp, .nil⟩
theorem Hp.in {w W : World} {L : List Th} (h : Hp w L W) (i : Nat) {x : Th} (e : L[i]? = some x) : x.In w.heap.size W := h.all _ (List.mem_of_getElem? e)
theorem Hp.get {w W : World} {L : List Th} (h : Hp w L W) (i : Nat) {b : Nat} {t : TypeId} {cs : List Value} (e : L[i]? = some (.ob b t cs)) : W.heap[b]? = some (.cells cs.toArray t (0, 0)) := (h.in i e).2
theorem Hp.at {w W : World} {L : List Th} (h : Hp w L W) (i : Nat) {b : Nat} {t : TypeId} {cs : List Value} (e : L[i]? = some (.ob b t cs)) (k : Nat) {v : Value} (hv : cs[k]? = some v) : W.cell? ⟨b, k, none⟩ = some v := by
  rw [cell_of_row W b k _ _ _ (h.get i e), List.getElem?_toArray]; exact hv
theorem Hp.frozen {w W : World} {L : List Th} (h : Hp w L W) (i : Nat) {b : Nat} {t : TypeId} {cs : List Value} (e : L[i]? = some (.ob b t cs)) (k : Nat) : W.frozen? ⟨b, k, none⟩ = false := frozen_of_row _ _ _ _ _ (h.get i e)
theorem Hp.codes {w W : World} {L : List Th} (h : Hp w L W) (i : Nat) {C : Nat} (e : L[i]? = some (.cd C)) : CodesOk W C := (h.in i e).2.1
theorem Hp.own {w W : World} {L : List Th} (h : Hp w L W) (i : Nat) {v : Value} {t : TypeId} {z n : Nat} {xs : List Value} (e : L[i]? = some (.sl v t z n xs)) : W.ownsRow w.heap.size t z v n xs := h.in i e
theorem Hp.lt {w W : World} {L : List Th} (h : Hp w L W) (i : Nat) {x : Th} {b : Nat} (e : L[i]? = some x) (hb : x.blk = some b) : w.heap.size ≤ b ∧ b < W.heap.size := (h.in i e).from hb
theorem apart_at {L : List Th} (hn : L.Pairwise Th.Apart) : ∀ (i j : Nat) (x y : Th), L[i]? = some x → L[j]? = some y → i ≠ j → x.Apart y := by
  induction L with
  | nil => intro i j x y hx; simp at hx
  | cons z l ih =>
    rw [List.pairwise_cons] at hn
    intro i j x y hx hy hij
    cases i with
    | zero =>
      cases j with
      | zero => exact absurd rfl hij
      | succ j =>
        obtain rfl : z = x := by simpa using hx
        exact hn.1 y (List.mem_of_getElem? (by simpa using hy))
    | succ i =>
      cases j with
      | zero =>
        obtain rfl : z = y := by simpa using hy
        exact (hn.1 x (List.mem_of_getElem? (by simpa using hx))).symm
      | succ j => exact ih hn.2 i j x y (by simpa using hx) (by simpa using hy) (by omega)
theorem Hp.ne {w W : World} {L : List Th} (h : Hp w L W) (i j : Nat) {x y : Th} {b c : Nat} (ei : L[i]? = some x) (ej : L[j]? = some y) (hij : i ≠ j) (hb : x.blk = some b) (hc : y.blk = some c) : b ≠ c := fun e => by
  subst e
  exact (apart_at h.nd i j x y ei ej hij).1 b hb |>.1 hc
theorem Hp.drew {w W : World} {L : List Th} (h : Hp w L W) : Hp w L W.drew := ⟨h.old.drew, fun x hx => (h.all x hx).keep (Nat.le_refl _) (fun _ _ => rfl) (fun _ _ => rfl) (fun _ _ => rfl), h.nd⟩
theorem Hp.drewN {w W : World} {L : List Th} (h : Hp w L W) (q : Nat) : Hp w L (W.drewN q) := ⟨⟨h.old.os, h.old.tape, h.old.output, h.old.size, h.old.block⟩, fun x hx => (h.all x hx).keep (Nat.le_refl _) (fun _ _ => rfl) (fun _ _ => rfl) (fun _ _ => rfl), h.nd⟩
theorem Hp.calls {w W W' : World} {L : List Th} (h : Hp w L W) (hb : Below W.heap.size W W') : Hp w L W' :=
  ⟨h.old.trans (hb.mono h.old.size), fun x hx => (h.all x hx).keep hb.size (fun b e => hb.block b ((h.all x hx).from e).2) (fun k hk => hb.block k (Nat.lt_of_lt_of_le hk h.old.size)) (fun b hbr => hb.block b ((h.all x hx).reads_lt hbr)), h.nd⟩
theorem mem_apart {L : List Th} (hn : L.Pairwise Th.Apart) {x z : Th} (hx : x ∈ L) (hz : z ∈ L) {b : Nat} (hb : x.blk = some b) (hr : b ∈ z.reads) : False := by
  induction L with
  | nil => cases hx
  | cons y l ih =>
    rw [List.pairwise_cons] at hn
    rcases List.mem_cons.1 hx with rfl | hx'
    · rcases List.mem_cons.1 hz with rfl | hz'
      · cases z <;> first | (cases hb; done) | (cases hr; done) | simp [Th.blk] at hb
      · exact ((hn.1 z hz').1 b hb).2 hr
    · rcases List.mem_cons.1 hz with rfl | hz'
      · exact (hn.1 x hx').2 b hb hr
      · exact ih hn.2 hx' hz'
theorem Hp.reads_apart {w W : World} {L : List Th} (h : Hp w L W) {x z : Th} (hx : x ∈ L) (hz : z ∈ L) {b : Nat} (hb : x.blk = some b) (hr : b ∈ z.reads) : False := mem_apart h.nd hx hz hb hr
theorem Hp.add {w W W' : World} {L : List Th} (h : Hp w L W) (hb : Below W.heap.size W W') (y : Th) (hy : y.In w.heap.size W') (hn : ∀ b, y.blk = some b → W.heap.size ≤ b) (hr : ∀ b ∈ y.reads, W.heap.size ≤ b ∨ ∃ z ∈ L, b ∈ z.reads) : Hp w (L ++ [y]) W' := by
  have h' := h.calls hb
  refine ⟨h'.old, fun x hx => ?_, ?_⟩
  · rcases List.mem_append.1 hx with hx | hx
    · exact h'.all x hx
    · obtain rfl := List.mem_singleton.1 hx
      exact hy
  · rw [List.pairwise_append]
    refine ⟨h.nd, List.pairwise_singleton _ _, fun a ha b hb => ?_⟩
    obtain rfl := List.mem_singleton.1 hb
    refine ⟨fun c hac => ⟨fun hbc => ?_, fun hbr => ?_⟩, fun c hbc har => ?_⟩
    · have h1 := ((h.all a ha).from hac).2
      have h2 := hn c hbc
      omega
    · have h1 := ((h.all a ha).from hac).2
      rcases hr c hbr with h2 | ⟨z, hz, hzr⟩
      · omega
      · exact h.reads_apart ha hz hac hzr
    · have h1 := (h.all a ha).reads_lt har
      have h2 := hn c hbc
      omega
/-- an object is made -/
theorem Hp.put {w W : World} {L : List Th} (h : Hp w L W) (t : TypeId) (cs : List Value) : Hp w (L ++ [.ob W.heap.size t cs]) (W.alloc (.cells cs.toArray t)) :=
  h.add ((Below.refl _ _).alloc (Nat.le_refl _) _) (.ob W.heap.size t cs) ⟨h.old.size, heap_alloc_last W _⟩ (fun b e => by obtain rfl : W.heap.size = b := Option.some.inj e; exact Nat.le_refl _) (fun b e => by cases e)
/-- choices begin -/
theorem Hp.begin {w W W' : World} {L : List Th} (h : Hp w L W) (hb : Below W.heap.size W W') (hc : CodesOk W' W.heap.size) (hl : ∃ a len cap, W'.cell? ⟨W.heap.size, 0, none⟩ = some (.slice a len cap) ∧ (0 < len → ∀ b off, a = some ⟨b, off, none⟩ → b < w.heap.size)) : Hp w (L ++ [.cd W.heap.size]) W' :=
  h.add hb (.cd W.heap.size) ⟨h.old.size, hc, hl⟩ (fun b e => by obtain rfl : W.heap.size = b := Option.some.inj e; exact Nat.le_refl _) (fun b e => by cases e)
/-- a slice of its own, nil as yet -/
theorem Hp.nil {w W : World} {L : List Th} (h : Hp w L W) (t : TypeId) (z : Nat) : Hp w (L ++ [.sl (.slice none 0 0) t z 0 []]) W :=
  h.add (Below.refl _ _) _ ⟨by simp, .inl ⟨rfl, rfl⟩⟩ (fun b e => by cases e) (fun b e => by cases e)
theorem pair_set' {L : List Th} {i : Nat} {x : Th} (hn : L.Pairwise Th.Apart) (e : L[i]? = some x) (y : Th) (hy : ∀ z ∈ L, z.Apart x → z.Apart y) : (L.set i y).Pairwise Th.Apart := by
  induction L generalizing i with
  | nil => simp at e
  | cons z l ih =>
    rw [List.pairwise_cons] at hn
    cases i with
    | zero =>
      obtain rfl : z = x := by simpa using e
      rw [List.set_cons_zero, List.pairwise_cons]
      exact ⟨fun u hu => (hy u (List.mem_cons_of_mem _ hu) (hn.1 u hu).symm).symm, hn.2⟩
    | succ i =>
      have e' : l[i]? = some x := by simpa using e
      rw [List.set_cons_succ, List.pairwise_cons]
      refine ⟨fun u hu => ?_, ih hn.2 e' (fun z hz => hy z (List.mem_cons_of_mem _ hz))⟩
      rcases List.mem_or_eq_of_mem_set hu with hu | rfl
      · exact hn.1 u hu
      · exact hy z (List.mem_cons_self ..) (hn.1 x (List.mem_of_getElem? e'))
theorem other_th {L : List Th} {i : Nat} {x z : Th} (hn : L.Pairwise Th.Apart) (e : L[i]? = some x) (y : Th) (hz : z ∈ L.set i y) : z = y ∨ (z ∈ L ∧ z.Apart x) := by
  induction L generalizing i with
  | nil => simp at e
  | cons u l ih =>
    rw [List.pairwise_cons] at hn
    cases i with
    | zero =>
      obtain rfl : u = x := by simpa using e
      rw [List.set_cons_zero] at hz
      rcases List.mem_cons.1 hz with rfl | hz
      · exact .inl rfl
      · exact .inr ⟨List.mem_cons_of_mem _ hz, (hn.1 z hz).symm⟩
    | succ i =>
      have e' : l[i]? = some x := by simpa using e
      rw [List.set_cons_succ] at hz
      rcases List.mem_cons.1 hz with rfl | hz
      · exact .inr ⟨List.mem_cons_self .., hn.1 x (List.mem_of_getElem? e')⟩
      · rcases ih hn.2 e' hz with h | h
        · exact .inl h
        · exact .inr ⟨List.mem_cons_of_mem _ h.1, h.2⟩
/-- a thing is turned; all that is not its block is as it was -/
theorem Hp.swap {w W W' : World} {L : List Th} (h : Hp w L W) (i : Nat) {x : Th} (e : L[i]? = some x) (y : Th) (hy : y.In w.heap.size W') (hn : ∀ b, y.blk = some b → x.blk = some b ∨ W.heap.size ≤ b) (hyr : y.reads = [])
    (hk : ∀ k, k < W.heap.size → x.blk ≠ some k → W'.heap[k]? = W.heap[k]?) (hos : W'.os = W.os) (ht : W'.tape = W.tape) (hout : W'.output = W.output) (hs : W.heap.size ≤ W'.heap.size) : Hp w (L.set i y) W' := by
  have hx := h.in i e
  have hold : ∀ k, k < w.heap.size → W'.heap[k]? = W.heap[k]? := fun k hk' => hk k (Nat.lt_of_lt_of_le hk' h.old.size) (fun e => by have := (hx.from e).1; omega)
  refine ⟨⟨hos.trans h.old.os, ht.trans h.old.tape, hout.trans h.old.output, Nat.le_trans h.old.size hs, fun k hk' => (hold k hk').trans (h.old.block k hk')⟩, fun z hz => ?_, pair_set' h.nd e y (fun z hz hzx => ?_)⟩
  · rcases other_th h.nd e y hz with rfl | ⟨hz, hzx⟩
    · exact hy
    · exact (h.all z hz).keep hs (fun b hb => hk b ((h.all z hz).from hb).2 (hzx.1 b hb).1) hold (fun b hb => hk b ((h.all z hz).reads_lt hb) (fun e => hzx.2 b e hb))
  · refine ⟨fun b hzb => ⟨fun hyb => ?_, fun hr => by rw [hyr] at hr; cases hr⟩, fun b hyb hzr => ?_⟩
    · rcases hn b hyb with hxb | hge
      · exact (hzx.1 b hzb).1 hxb
      · have := ((h.all z hz).from hzb).2
        omega
    · rcases hn b hyb with hxb | hge
      · exact hzx.2 b hxb hzr
      · have := (h.all z hz).reads_lt hzr
        omega
theorem Hp.draws {w W W' : World} {L : List Th} (h : Hp w L W) (i : Nat) {C : Nat} (e : L[i]? = some (.cd C)) (hb : Besides C W W') (hc : CodesOk W' C) : Hp w (L.set i (.cd C)) W' := by
  obtain ⟨hB, hok, a, len, cap, h8, h9⟩ := h.in i e
  exact h.swap i e (.cd C) ⟨hB, hc, a, len, cap, (hb.head hok.lt).trans h8, h9⟩ (fun b hb => .inl hb) rfl (fun k hk hne => hb.block k hk (fun e => hne (by rw [e]; rfl))) hb.os hb.tape hb.output hb.size
theorem Hp.set {w W : World} {L : List Th} (h : Hp w L W) (i : Nat) {b : Nat} {t : TypeId} {cs : List Value} (e : L[i]? = some (.ob b t cs)) (k : Nat) (v : Value) : Hp w (L.set i (.ob b t (cs.set k v))) (W.setCell ⟨b, k, none⟩ v) := by
  refine h.swap i e _ ⟨(h.in i e).1, ?_⟩ (fun b hb => .inl hb) rfl (fun j hj hne => Below.heap_setCell _ _ _ _ (fun e => hne (by rw [e]; rfl))) rfl rfl rfl (by simp [World.setCell])
  have := heap_setCell_same W b k _ _ v (h.get i e)
  rw [List.setIfInBounds_toArray] at this
  exact this
theorem Hp.row {w W : World} {L : List Th} (h : Hp w L W) (i : Nat) {b : Nat} {t : TypeId} {cs : List Value} (e : L[i]? = some (.ob b t cs)) (cs' : List Value) : Hp w (L.set i (.ob b t cs')) (W.setRow b cs'.toArray) :=
  h.swap i e _ ⟨(h.in i e).1, setRow_heap _ _ _ _ _ _ (h.get i e)⟩ (fun b hb => .inl hb) rfl (fun j hj hne => setRow_other _ _ _ _ (fun e => hne (by rw [e]; rfl))) rfl rfl rfl (by simp [World.setRow])
/-- a slice of its own has grown -/
theorem Hp.grown {w W W' : World} {L : List Th} (h : Hp w L W) (i : Nat) {v v' : Value} {t : TypeId} {z n m : Nat} {xs ys : List Value} (e : L[i]? = some (.sl v t z n xs)) (ho : W'.ownsRow w.heap.size t z v' m ys) (hg : W.grownBy W' v.ownBlock) (hb : v'.ownBlock = v.ownBlock ∨ v'.ownBlock = some W.heap.size) : Hp w (L.set i (.sl v' t z m ys)) W' := by
  refine h.swap i e _ ho (fun b hb' => ?_) rfl (fun k hk hne => hg.block k hk (fun e => hne e.symm)) hg.os hg.tape hg.output hg.size
  have hb'' : v'.ownBlock = some b := hb'
  rcases hb with hb | hb
  · exact .inl (hb.symm.trans hb'')
  · right
    rw [hb] at hb''
    exact Nat.le_of_eq (Option.some.inj hb'')
/-- what is not needed any more -/
theorem Hp.forget {w W : World} {L M : List Th} (h : Hp w (L ++ M) W) : Hp w L W := ⟨h.old, fun x hx => h.all x (List.mem_append_left _ hx), (List.pairwise_append.1 h.nd).1⟩
/-- some of the things alone -/
def Hold (B : Nat) (L : List Th) (W : World) : Prop := ∀ x ∈ L, x.In B W
theorem Hold.get {B : Nat} {L : List Th} {W : World} (h : Hold B L W) (i : Nat) {b : Nat} {t : TypeId} {cs : List Value} (e : L[i]? = some (.ob b t cs)) : W.heap[b]? = some (.cells cs.toArray t (0, 0)) := (h _ (List.mem_of_getElem? e)).2
theorem Hold.at {B : Nat} {L : List Th} {W : World} (h : Hold B L W) (i : Nat) {b : Nat} {t : TypeId} {cs : List Value} (e : L[i]? = some (.ob b t cs)) (k : Nat) {v : Value} (hv : cs[k]? = some v) : W.cell? ⟨b, k, none⟩ = some v := by
  rw [cell_of_row W b k _ _ _ (h.get i e), List.getElem?_toArray]; exact hv
theorem Hold.whole {B : Nat} {L : List Th} {W : World} (h : Hold B L W) (i : Nat) {b : Nat} {t : TypeId} {cs : List Value} (e : L[i]? = some (.ob b t cs)) : W.rangeAt b 0 cs := fun j v hv => by
  rw [Nat.zero_add]; exact h.at i e j hv
theorem Hp.pick {w W : World} {L M : List Th} (h : Hp w L W) (is : List Nat) (e : is.map (fun i => L[i]?) = M.map some) : Hold w.heap.size M W := fun x hx => by
  have : some x ∈ M.map some := List.mem_map.2 ⟨x, hx, rfl⟩
  rw [← e, List.mem_map] at this
  obtain ⟨i, _, hi⟩ := this
  exact h.in i hi
theorem Hp.pull {w W : World} {L M : List Th} (h : Hp w L W) (is : List Nat) (e : is.map (fun i => L[i]?) = M.map some) (hn : M.Pairwise Th.Apart) : Hp w M W := ⟨h.old, h.pick is e, hn⟩
theorem pull_nd {L M : List Th} (hn : L.Pairwise Th.Apart) (is : List Nat) (e : is.map (fun i => L[i]?) = M.map some) (hd : is.Pairwise (· ≠ ·)) : M.Pairwise Th.Apart := by
  induction is generalizing M with
  | nil =>
    cases M with
    | nil => exact .nil
    | cons m M => simp at e
  | cons i is ih =>
    cases M with
    | nil => simp at e
    | cons m M =>
      rw [List.map_cons, List.map_cons, List.cons.injEq] at e
      rw [List.pairwise_cons] at hd ⊢
      refine ⟨fun y hy => ?_, ih e.2 hd.2⟩
      have hy' : some y ∈ is.map (fun i => L[i]?) := by rw [e.2]; exact List.mem_map.2 ⟨y, hy, rfl⟩
      obtain ⟨j, hj, hje⟩ := List.mem_map.1 hy'
      exact apart_at hn i j m y e.1 hje (hd.1 j hj)
/-- part of a slice of its own -/
theorem own_range {B : Nat} {W : World} {t : TypeId} {z n : Nat} {v : Value} {xs : List Value} (h : W.ownsRow B t z v n xs) {g cap : Nat} (hv : v = .slice (some ⟨g, 0, none⟩) n cap) (k : Nat) (cs : List Value) (hc : ∀ j u, cs[j]? = some u → xs[k + j]? = some u) : W.rangeAt g k cs := fun j u hu => by
  rcases h.2 with ⟨h0, _⟩ | ⟨g', cap', cur, hv', _, hg, _, _, _, hx⟩
  · rw [hv] at h0; cases h0
  · rw [hv] at hv'
    have e : g = g' := by have := congrArg Value.ownBlock hv'; simpa [Value.ownBlock] using this
    subst e
    have hxs := hc j u hu
    rw [← hx] at hxs
    rw [cell_of_row W g (k + j) _ _ _ hg, ← Array.getElem?_toList]
    rw [List.getElem?_take] at hxs
    split at hxs
    · exact hxs
    · cases hxs
/-- what a type of elements is like -/
structure ElemIs (e : TypeId) (z bytes : Nat) : Prop where
  is : ∃ (inf : TypeInfo) (zv : Value), Try.prog.info? e = some inf ∧ inf.zero = some zv ∧ inf.size = z ∧ inf.bytes = bytes ∧ zv.cells.size = z
  pos : 0 < z
  small : z ≤ 65536
  room : bytes ≤ 65536
theorem Hp.append {w W : World} {L : List Th} (h : Hp w L W) (i : Nat) {v : Value} {e : TypeId} {z n : Nat} {xs : List Value} (ei : L[i]? = some (.sl v e z n xs)) (j : Nat) {b : Nat} {t' : TypeId} {ys : List Value} (ej : L[j]? = some (.ob b t' ys))
    (ts : TypeId) (ty : TypeId) {bytes : Nat} (ht : Try.prog.underlying ts = some (.slice e)) (he : ElemIs e z bytes) (m c : Nat) (hl : ys.length = m * z) (h1 : ∀ u ∈ ys, u.oneCell' = true) (hn : n + m ≤ 1048576) :
    ∃ v' W', (Builtin.append_ #[ts, ts] ty #[v, .slice (some ⟨b, 0, none⟩) m c]).run Try.prog W = .ok v' W' ∧ Hp w (L.set i (.sl v' e z (n + m) (xs ++ ys))) W' ∧ (v' = .slice none 0 0 ↔ v = .slice none 0 0 ∧ m = 0) := by
  obtain ⟨inf, zv, hi, hz, hsize, hby, hzs⟩ := he.is
  have hroom := he.room
  have hcell : ∀ q u, ys[q]? = some u → W.cell? ((⟨b, 0, none⟩ : Addr).add q) = some u := fun q u hu => by
    rw [Addr.add_mid, Nat.zero_add]
    exact h.at j ej q hu
  obtain ⟨v', W', hr, h2, h3, h4, h5⟩ := run_append_own_at (P := Try.prog) W w.heap.size ts ty e inf zv z bytes ht hi hz hsize hby hzs he.pos v n xs (h.own i ei) ⟨b, 0, none⟩ m c ys hl hcell h1 (by unfold maxLen; omega) (by
    have := Nat.mul_le_mul hn hroom
    omega) h.old.size
  exact ⟨v', W', hr, h.grown i ei h2 h3 h5, h4⟩
theorem wp_append_hp {o : Oper} {a : Act} {w W : World} {K : Act → World → Prop} {Q : Exit → Act → World → Prop} {L : List Th} (h : Hp w L W) (s x : Operand) (ts : TypeId) (ho : o.op = .call { callee := .builtin .append, args := #[s, x], argTypes := #[ts, ts] })
    (i : Nat) {v : Value} {e : TypeId} {z n : Nat} {xs : List Value} (ei : L[i]? = some (.sl v e z n xs)) (j : Nat) {b : Nat} {t' : TypeId} {ys : List Value} (ej : L[j]? = some (.ob b t' ys)) {bytes : Nat} (ht : Try.prog.underlying ts = some (.slice e)) (he : ElemIs e z bytes) (m c : Nat)
    (hs : a.eval s = v) (hx : a.eval x = .slice (some ⟨b, 0, none⟩) m c) (hl : ys.length = m * z) (h1 : ∀ u ∈ ys, u.oneCell' = true) (hn : n + m ≤ 1048576)
    (hk : ∀ v' W', Hp w (L.set i (.sl v' e z (n + m) (xs ++ ys))) W' → (v' = .slice none 0 0 ↔ v = .slice none 0 0 ∧ m = 0) → K (a.put o.dst v') W') : o.wp Try.prog a W K Q := by
  obtain ⟨v', W', hr, h2, h3⟩ := h.append i ei j ej ts o.type ht he m c hl h1 hn
  unfold Oper.wp execOp
  simp only [ho, resolve, invoke, builtin, Sem.run_bind, Sem.run_pure, Result.andThen_ok, List.map_toArray, List.map_cons, List.map_nil, hs, hx, hr]
  exact hk v' W' h2 h3
theorem wpList_append_hp {ops : Array Oper} {rest : List Oper} {a : Act} {w W : World} {Q : Exit → Act → World → Prop} {d : Option Tmp} {ty : TypeId} {pos : String} {aft : Array Edge} {L : List Th} (h : Hp w L W) (s x : Operand) (ts : TypeId)
    (i : Nat) {v : Value} {e : TypeId} {z n : Nat} {xs : List Value} (ei : L[i]? = some (.sl v e z n xs)) (j : Nat) {b : Nat} {t' : TypeId} {ys : List Value} (ej : L[j]? = some (.ob b t' ys)) {bytes : Nat} (ht : Try.prog.underlying ts = some (.slice e)) (he : ElemIs e z bytes) (m c : Nat)
    (hs : a.eval s = v) (hx : a.eval x = .slice (some ⟨b, 0, none⟩) m c) (hl : ys.length = m * z) (h1 : ∀ u ∈ ys, u.oneCell' = true) (hn : n + m ≤ 1048576)
    (hk : ∀ v' W', Hp w (L.set i (.sl v' e z (n + m) (xs ++ ys))) W' → (v' = .slice none 0 0 ↔ v = .slice none 0 0 ∧ m = 0) → wpList Try.prog ops Q rest (a.put d v') W') :
    wpList Try.prog ops Q ({ dst := d, op := .call { callee := .builtin .append, args := #[s, x], argTypes := #[ts, ts] }, type := ty, pos := pos, after := aft, guard := none } :: rest) a W :=
  wpList_plain rfl fun _ hK => wp_append_hp h s x ts rfl i ei j ej ht he m c hs hx hl h1 hn (fun v' W' p q => hK _ _ (hk v' W' p q))
/-- a slice of one, two or more elements, each a whole object -/
theorem run_build_obs {e ts : TypeId} {z bytes : Nat} (he : ElemIs e z bytes) (ht : Try.prog.underlying ts = some (.slice e)) (vs : List (List Value)) (hv : ∀ x ∈ vs, x.length = z) (h0 : 0 < vs.length) (h16 : vs.length ≤ 256) (W : World) :
    Sem.run Try.prog (Instr.buildSlice ts vs.length ((vs.zipIdx 0).map fun x => (x.2, Value.agg x.1.toArray)).toArray) W = .ok (.slice (some ⟨W.heap.size, 0, none⟩) vs.length vs.length) (W.alloc (.cells (vs.flatMap id).toArray e)) := by
  obtain ⟨inf, zv, hi, hz, hsize, hby, hzs⟩ := he.is
  have hp := he.pos
  have hsm := he.small
  refine run_buildSlice W ts e vs.length _ _ inf zv ht hi hz (by rw [hsize]; have := Nat.mul_le_mul h16 hsm; omega) (by rw [hsize]; exact Nat.ne_of_gt (Nat.mul_pos h0 hp)) ?_
  rw [hsize]
  have := Great.fill_whole (s := z) hp (vs.map fun x => Value.agg x.toArray) ((Array.range (vs.length * z)).map (zv.cells[· % zv.cells.size]!)) (by
    intro v hm
    obtain ⟨x, hx, rfl⟩ := List.mem_map.1 hm
    exact hv x hx) (by rw [Array.size_map, Array.size_range, List.length_map])
  rw [List.zipIdx_map, List.map_map] at this
  refine Eq.trans ?_ (this.trans ?_)
  · rfl
  · congr 1
    rw [List.flatMap_map]
    rfl
theorem wp_build_obs {o : Oper} {a : Act} {W : World} {K : Act → World → Prop} {Q : Exit → Act → World → Prop} {ts : TypeId} {n : Nat} {ps : Array (Nat × Operand)} (ho : o.op = .buildSlice ts n ps) {e : TypeId} {z bytes : Nat} (he : ElemIs e z bytes) (ht : Try.prog.underlying ts = some (.slice e)) (vs : List (List Value)) (hv : ∀ x ∈ vs, x.length = z) (h0 : 0 < vs.length) (h16 : vs.length ≤ 256) (hn : n = vs.length)
    (hp : ps.map (fun x => (x.1, a.eval x.2)) = ((vs.zipIdx 0).map fun x => (x.2, Value.agg x.1.toArray)).toArray)
    (h : K (a.put o.dst (.slice (some ⟨W.heap.size, 0, none⟩) n n)) (W.alloc (.cells (vs.flatMap id).toArray e))) : o.wp Try.prog a W K Q := by
  subst hn
  have hr := run_build_obs he ht vs hv h0 h16 W
  rw [← hp] at hr
  unfold Oper.wp execOp
  simp only [ho, Sem.run_bind, hr, Result.andThen_ok, Sem.run_pure]
  exact h
theorem wpList_build_obs (ts : TypeId) (n : Nat) {ps : Array (Nat × Operand)} {ops : Array Oper} {rest : List Oper} {a : Act} {W : World} {Q : Exit → Act → World → Prop} {d : Option Tmp} {ty : TypeId} {pos : String} {aft : Array Edge} {e : TypeId} {z bytes : Nat} (he : ElemIs e z bytes) (ht : Try.prog.underlying ts = some (.slice e)) (vs : List (List Value)) (hv : ∀ x ∈ vs, x.length = z) (h0 : 0 < vs.length) (h16 : vs.length ≤ 256) (hn : n = vs.length)
    (hp : ps.map (fun x => (x.1, a.eval x.2)) = ((vs.zipIdx 0).map fun x => (x.2, Value.agg x.1.toArray)).toArray)
    (h : wpList Try.prog ops Q rest (a.put d (.slice (some ⟨W.heap.size, 0, none⟩) n n)) (W.alloc (.cells (vs.flatMap id).toArray e))) :
    wpList Try.prog ops Q ({ dst := d, op := .buildSlice ts n ps, type := ty, pos := pos, after := aft, guard := none } :: rest) a W :=
  wpList_plain rfl fun _ hK => wp_build_obs rfl he ht vs hv h0 h16 hn hp (hK _ _ h)
/-- in a region that draws its order: a value that is built may be taken first -/
theorem yieldsIf_build_v {ops : Array Oper} {S : World → Prop} {op : Oper} {a : Act} (hw : Region.wanted op (yielded ops a.tmps) = true) (t : TypeId) (v : Value) {ps : Array (Nat × Operand)} (ho : op.op = .build t ps)
    (hb : ∀ W, Sem.run Try.prog (Instr.build t (ps.map fun x => (x.1, a.eval x.2))) W = .ok v W) : YieldsIf Try.prog ops S op v a :=
  .inl ⟨hw, fun W _ => by
    unfold execOp
    simp only [ho, Sem.run_bind, hb W, Result.andThen_ok, Sem.run_pure]⟩
theorem flat_mid {z : Nat} : ∀ (vs : List (List Value)) (_ : ∀ x ∈ vs, x.length = z) (k : Nat) (x : List Value), vs[k]? = some x → ∀ j v, x[j]? = some v → (vs.flatMap id)[k * z + j]? = some v
  | [], _, k, x, h, _, _, _ => by simp at h
  | y :: l, hz, 0, x, h, j, v, hv => by
    obtain rfl : y = x := by simpa using h
    rw [List.flatMap_cons, Nat.zero_mul, Nat.zero_add, List.getElem?_append_left (show j < (id y).length from (List.getElem?_eq_some_iff.1 hv).1)]
    exact hv
  | y :: l, hz, k + 1, x, h, j, v, hv => by
    have hy : (id y).length = z := hz y (List.mem_cons_self ..)
    rw [List.flatMap_cons, show (k + 1) * z + j = z + (k * z + j) from by rw [Nat.add_mul]; omega, List.getElem?_append_right (by omega), hy, Nat.add_sub_cancel_left]
    exact flat_mid l (fun u hu => hz u (List.mem_cons_of_mem _ hu)) k x (by simpa using h) j v hv
/-- a slice that a callee has made -/
theorem Hp.addown {w W W' : World} {L : List Th} (h : Hp w L W) (hb : Below W.heap.size W W') {v : Value} {t : TypeId} {z n : Nat} {xs : List Value} (ho : W'.ownsRow W.heap.size t z v n xs) : Hp w (L ++ [.sl v t z n xs]) W' := by
  refine h.add hb _ ⟨ho.1, ?_⟩ (fun b e => (ho.lt b e).1) (fun b e => by cases e)
  rcases ho.2 with h0 | ⟨g, cap, cur, hv, hB, hr⟩
  · exact .inl h0
  · exact .inr ⟨g, cap, cur, hv, Nat.le_trans h.old.size hB, hr⟩
/-- an array of whole objects is built -/
theorem run_build_arr {t e : TypeId} {n z : Nat} (hu : Try.prog.underlying t = some (.array n e)) (hs : (Try.prog.info? e).map (·.size) = some z) (hz : ((Try.prog.info? t).bind (·.zero)).map (·.cells.size) = some (n * z)) (hp : 0 < z) (vs : List (List Value)) (hv : ∀ x ∈ vs, x.length = z) (hn : vs.length = n) (W : World) :
    Sem.run Try.prog (Instr.build t ((vs.zipIdx 0).map fun x => (x.2, Value.agg x.1.toArray)).toArray) W = .ok (.agg (vs.flatMap id).toArray) W := by
  refine run_build W t _ _ ?_
  unfold Program.built
  cases hie : Try.prog.info? e with
  | none => simp [hie] at hs
  | some ie =>
    cases hit : Try.prog.info? t with
    | none => simp [hit] at hz
    | some it =>
      cases hzz : it.zero with
      | none => simp [hit, hzz] at hz
      | some zv =>
        simp only [hie, hit, hzz, Option.map_some, Option.some.injEq, Option.bind_some] at hs hz
        simp only [hu, hzz, hie]
        rw [hs]
        have := Great.fill_whole (s := z) hp (vs.map fun x => Value.agg x.toArray) zv.cells (by
          intro v hm
          obtain ⟨x, hx, rfl⟩ := List.mem_map.1 hm
          exact hv x hx) (by rw [List.length_map, hn, hz])
        rw [List.zipIdx_map, List.map_map] at this
        refine Eq.trans ?_ (this.trans ?_)
        · rfl
        · congr 1
          rw [List.flatMap_map]
          rfl
/-- part of an object -/
theorem Hold.mid {B : Nat} {L : List Th} {W : World} (h : Hold B L W) (i : Nat) {b : Nat} {t : TypeId} {cs : List Value} (e : L[i]? = some (.ob b t cs)) (k : Nat) (vs : List Value) (hv : ∀ j v, vs[j]? = some v → cs[k + j]? = some v) : W.rangeAt b k vs := fun j v hj => h.at i e (k + j) (hv j v hj)
theorem Hp.mid {w W : World} {L : List Th} (h : Hp w L W) (i : Nat) {b : Nat} {t : TypeId} {cs : List Value} (e : L[i]? = some (.ob b t cs)) (k : Nat) (vs : List Value) (hv : ∀ j v, vs[j]? = some v → cs[k + j]? = some v) : W.rangeAt b k vs := fun j v hj => h.at i e (k + j) (hv j v hj)
theorem Hp.reads {w W : World} {L : List Th} (h : Hp w L W) (i : Nat) {R : List Rng} (e : L[i]? = some (.rd R)) : RdIn W R := h.in i e
/-- cells that are read, in memory that a callee made or that is read already -/
theorem Hp.addrd {w W W' : World} {L : List Th} (h : Hp w L W) (hb : Below W.heap.size W W') (R : List Rng) (hR : RdIn W' R) (hr : ∀ r ∈ R, W.heap.size ≤ r.1 ∨ ∃ z ∈ L, r.1 ∈ z.reads) : Hp w (L ++ [.rd R]) W' :=
  h.add hb _ hR (fun b e => by cases e) (fun b hb' => by
    obtain ⟨r, hr', rfl⟩ := List.mem_map.1 hb'
    exact hr r hr')
/-- what the walk found is read -/
theorem Hp.startrd (w : World) (R : List Rng) (hR : RdIn w R) : Hp w [.rd R] w := ⟨Below.refl _ _, fun x hx => by
  obtain rfl := List.mem_singleton.1 hx
  exact hR, List.pairwise_singleton _ _⟩
/-- a slice of single words -/
theorem flat_cells {vs : List Value} (h : ∀ v ∈ vs, v.cells = #[v]) : (vs.flatMap fun v => v.cells.toList) = vs := by
  induction vs with
  | nil => rfl
  | cons v l ih => rw [List.flatMap_cons, h v (List.mem_cons_self ..), ih (fun u hu => h u (List.mem_cons_of_mem _ hu))]; rfl
theorem run_build_vals {e ts : TypeId} {bytes : Nat} (he : ElemIs e 1 bytes) (ht : Try.prog.underlying ts = some (.slice e)) (vs : List Value) (hv : ∀ v ∈ vs, v.cells = #[v]) (h0 : 0 < vs.length) (h16 : vs.length ≤ 256) (W : World) :
    Sem.run Try.prog (Instr.buildSlice ts vs.length ((vs.zipIdx 0).map fun x => (x.2, x.1)).toArray) W = .ok (.slice (some ⟨W.heap.size, 0, none⟩) vs.length vs.length) (W.alloc (.cells vs.toArray e)) := by
  obtain ⟨inf, zv, hi, hz, hsize, hby, hzs⟩ := he.is
  refine run_buildSlice W ts e vs.length _ _ inf zv ht hi hz (by rw [hsize]; omega) (by rw [hsize]; omega) ?_
  rw [hsize]
  have := Great.fill_whole (s := 1) (by decide) vs ((Array.range (vs.length * 1)).map (zv.cells[· % zv.cells.size]!)) (by
    intro v hm
    rw [hv v hm]; rfl) (by rw [Array.size_map, Array.size_range])
  rw [flat_cells hv] at this
  exact this
theorem wp_build_vals {o : Oper} {a : Act} {W : World} {K : Act → World → Prop} {Q : Exit → Act → World → Prop} {ts : TypeId} {n : Nat} {ps : Array (Nat × Operand)} (ho : o.op = .buildSlice ts n ps) {e : TypeId} {bytes : Nat} (he : ElemIs e 1 bytes) (ht : Try.prog.underlying ts = some (.slice e)) (vs : List Value) (hv : ∀ v ∈ vs, v.cells = #[v]) (h0 : 0 < vs.length) (h16 : vs.length ≤ 256) (hn : n = vs.length)
    (hp : ps.map (fun x => (x.1, a.eval x.2)) = ((vs.zipIdx 0).map fun x => (x.2, x.1)).toArray)
    (h : K (a.put o.dst (.slice (some ⟨W.heap.size, 0, none⟩) n n)) (W.alloc (.cells vs.toArray e))) : o.wp Try.prog a W K Q := by
  subst hn
  have hr := run_build_vals he ht vs hv h0 h16 W
  rw [← hp] at hr
  unfold Oper.wp execOp
  simp only [ho, Sem.run_bind, hr, Result.andThen_ok, Sem.run_pure]
  exact h
theorem wpList_build_vals (ts : TypeId) (n : Nat) {ps : Array (Nat × Operand)} {ops : Array Oper} {rest : List Oper} {a : Act} {W : World} {Q : Exit → Act → World → Prop} {d : Option Tmp} {ty : TypeId} {pos : String} {aft : Array Edge} {e : TypeId} {bytes : Nat} (he : ElemIs e 1 bytes) (ht : Try.prog.underlying ts = some (.slice e)) (vs : List Value) (hv : ∀ v ∈ vs, v.cells = #[v]) (h0 : 0 < vs.length) (h16 : vs.length ≤ 256) (hn : n = vs.length)
    (hp : ps.map (fun x => (x.1, a.eval x.2)) = ((vs.zipIdx 0).map fun x => (x.2, x.1)).toArray)
    (h : wpList Try.prog ops Q rest (a.put d (.slice (some ⟨W.heap.size, 0, none⟩) n n)) (W.alloc (.cells vs.toArray e))) :
    wpList Try.prog ops Q ({ dst := d, op := .buildSlice ts n ps, type := ty, pos := pos, after := aft, guard := none } :: rest) a W :=
  wpList_plain rfl fun _ hK => wp_build_vals rfl he ht vs hv h0 h16 hn hp (hK _ _ h)
end Go.Proofs.Ytlmbnofkmmehoaa
/- the choices of a law's walk, as a thing -/
namespace Go.Proofs.Ytlmbnofkmmehoaa
open Go.RowKit
set_option maxRecDepth 20000

theorem row_lo {w : World} {x : Option Addr} {len cap : Nat} {zs : List Int} (hr : IsRow .u8 w x len cap zs) (h0 : 0 < len) : ∀ b off, x = some ⟨b, off, none⟩ → b < w.heap.size := by
  intro b off hx
  rcases hr with ⟨_, h, _, _⟩ | ⟨y, hy, _, _, hz, hc, _⟩
  · omega
  · have := World.block_lt_of_cell? w _ (hc 0 (by omega))
    rw [hx] at hy
    cases hy
    simpa [Addr.add] using this
theorem new_hp (m : Nat) (hm : m ≤ 1000) {w0 w : World} {L : List Th} {x : Option Addr} {len cap : Nat} {zs : List Int} (h : Hp w0 L w) (hr : IsRow .u8 w0 x len cap zs) :
    Calls Try.prog 11 #[.slice x len cap, .int .i64 m] w fun e w' => e = .returned (.pointer (some ⟨w.heap.size, 0, none⟩)) ∧ Hp w0 (L ++ [.cd w.heap.size]) w' :=
  (new_at m hm x len cap zs w (row_below hr h.old)).mono fun _ _ ⟨h1, h2, h3, l, c, h4, h5⟩ => ⟨h1, h.begin h2 h3 ⟨x, l, c, h4, fun hl => row_lo hr (h5 hl)⟩⟩
end Go.Proofs.Ytlmbnofkmmehoaa
/- the choices of the drawing package: Data -/
namespace Go.Proofs.Ytlmbnofkmmehoaa
open Go.RowKit
set_option maxRecDepth 20000

/-- what Data leaves: some short text -/
def DataPost (C : Nat) (w : World) (e : Ending) (w' : World) : Prop :=
  ∃ s : ByteArray, e = .returned (.string s) ∧ s.size ≤ 13 ∧ Besides C w w' ∧ CodesOk w' C
/-- a row of bytes of the call's own is read as a text -/
theorem conv_own (W : World) (base : Nat) (v : Value) (l : List UInt8) (h : W.ownsRow base 5 1 v l.length (l.map (fun b => Value.int .u8 (b.toNat : Int)))) (hv : v ≠ .slice none 0 0) :
    Sem.run Try.prog (convert 22 9 v) W = .ok (.string ⟨l.toArray⟩) W := by
  rcases h.2 with ⟨h1, _⟩ | ⟨g, cap, cur, rfl, _, hg, _⟩
  · exact absurd h1 hv
  · refine run_convert_bytes_back (P := Try.prog) W 22 9 5 ⟨g, 0, none⟩ cap l Try.underlying22 Try.underlying5 Try.underlying9 (fun j hj => ?_)
    exact h.cells rfl j _ (by rw [List.getElem?_map, List.getElem?_eq_getElem hj]; rfl)

theorem Besides.of_grown {C : Nat} {w w' : World} (h : w.grownBy w' none) : Besides C w w' := ⟨h.os, h.tape, h.output, h.size, fun k hk _ => h.block k hk (by simp), fun hC => World.cell?_of_block (a := ⟨C, 0, none⟩) (h.block C hC (by simp))⟩
theorem Below.of_grown {w w' : World} (h : w.grownBy w' none) : Below w.heap.size w w' := ⟨h.os, h.tape, h.output, h.size, fun k hk => h.block k hk (by simp)⟩

theorem Besides.grown {C : Nat} {a w w' : World} {row : Option Nat} (h : Besides C a w) (hg : w.grownBy w' row) (hr : ∀ k, row = some k → a.heap.size ≤ k) : Besides C a w' :=
  ⟨hg.os.trans h.os, hg.tape.trans h.tape, hg.output.trans h.output, Nat.le_trans h.size hg.size, fun k hk hC => (hg.block k (Nat.lt_of_lt_of_le hk h.size) (fun e => by have := hr k e.symm; omega)).trans (h.block k hk hC),
    fun hC => (World.cell?_of_block (a := ⟨C, 0, none⟩) (hg.block C (Nat.lt_of_lt_of_le hC h.size) (fun e => by have := hr C e.symm; omega))).trans (h.head hC)⟩
theorem own_lt {B : Nat} {W : World} {e : TypeId} {z n : Nat} {v : Value} {xs : List Value} (h : W.ownsRow B e z v n xs) (hv : v ≠ .slice none 0 0) : B < W.heap.size := by
  rcases h.2 with ⟨h1, _⟩ | ⟨g, cap, cur, rfl, hB, hg, _⟩
  · exact absurd h1 hv
  · have := (Array.getElem?_eq_some_iff.1 hg).1; omega
theorem own_besides {B C : Nat} {W W' : World} {e : TypeId} {z n : Nat} {v : Value} {xs : List Value} (h : W.ownsRow B e z v n xs) (hb : Besides C W W') (hC : C < B) : W'.ownsRow B e z v n xs :=
  h.kept (row := some C) ⟨hb.os, hb.tape, hb.output, hb.size, fun k hk hne => hb.block k hk (by intro e; exact hne (by rw [e]))⟩ (by
    cases hv : v.ownBlock with
    | none => exact .inl rfl
    | some k => right; intro e; injection e with e; have := (h.lt k hv).1; omega)

set_option maxHeartbeats 1000000 in
theorem data_any (C : Nat) (w : World) (h : CodesOk w C) :
    Calls Try.prog 19 #[.pointer (some ⟨C, 0, none⟩)] w (DataPost C w) := by
  have HK := Lib.hid h
  clear h
  obtain ⟨i0, hi, hz0, hz1, hz2⟩ := info_byte'
  go_enter Try.func19, Try.ntmps19
  go_wp2_with fail
  refine (next_any C 5 _ HK.out (by omega)).mono ?_
  rintro e w2 ⟨n, rfl, n0, n1, hb2, hc2⟩
  have HB2 := Lib.hid hb2
  have HC2 := Lib.hid hc2
  clear hb2 hc2
  go_wp2_with fail
  refine (next_any C 6 _ HC2.out (by omega)).mono ?_
  rintro e w3 ⟨m, rfl, m0, m1, hb3, hc3⟩
  have HB3 := Lib.hid (HB2.out.trans hb3)
  have HC3 := Lib.hid hc3
  clear m1 hb3 hc3
  by_cases h0 : m = 0
  · have h0b : (m == 0) = true := by rw [h0]; rfl
    clear h0
    go_wp2_with fail
    refine (next_any C 14 _ HC3.out (by omega)).mono ?_
    rintro e w4 ⟨x, rfl, x0, x1, hb4, hc4⟩
    obtain ⟨n, rfl⟩ := Int.eq_ofNat_of_zero_le x0
    have hn : n ≤ 13 := by omega
    clear x1 x0
    have HB4 := Lib.hid (HB3.out.trans hb4)
    have HC4 := Lib.hid hc4
    clear hb4 hc4
    go_wp2_with (refine wpList_make_own _ rfl _ _ 22 rfl w4.heap.size 5 i0 (.int .u8 0) 1 Try.underlying22 hi hz0 hz1 .i64 .i64 _ n rfl rfl rfl ?m1 ?m2 ?m3 ?_)
    case m1 => rw [hz2]; omega
    case m2 => unfold maxLen; omega
    case m3 => exact Nat.le_refl _
    intro w5 hown5 hgr5
    have HB5 : Hid (Besides C w w5) := HB4.out.trans (Besides.of_grown hgr5)
    have HC5 : Hid (CodesOk w5 C) := HC4.out.below (Below.of_grown hgr5) HC4.out.lt
    have HBw : Hid (w.heap.size ≤ w4.heap.size) := HB4.out.size
    have HCB : Hid (C < w4.heap.size) := HC4.out.lt
    have HO5 := Lib.hid hown5
    clear hown5 hgr5
    generalize w4.heap.size = B at *
    go_wp2_with fail
    go_loopw [4, 5] (fun v i wr => ∃ (k : Nat) (l : List UInt8), k ≤ n ∧ i = .int .i64 k ∧ l.length = k ∧ v ≠ .slice none 0 0 ∧ wr.ownsRow B 5 1 v l.length (l.map (fun b => Value.int .u8 (b.toNat : Int))) ∧ Besides C w wr ∧ CodesOk wr C) (fun _ i _ => n - (intOf i).toNat)
    case atStart => exact ⟨0, [], by omega, rfl, rfl, by simp, HO5.out, HB5.out, HC5.out⟩
    case round =>
      obtain ⟨k, l, hk, rfl, hl, hv, hown, hbr, hcr⟩ := hrel
      have HV := Lib.hid hv
      have HO := Lib.hid hown
      have HBr := Lib.hid hbr
      have HCr := Lib.hid hcr
      have HL := Lib.hid hl
      clear hv hown hbr hcr hl
      by_cases hlt : (k : Int) < (n : Int)
      · go_wp2_with fail
        refine (next_any C 3 _ HCr.out (by omega)).mono ?_
        rintro e w6 ⟨x, rfl, x0, x1, hb6, hc6⟩
        have x2 : x ≤ 2 := by omega
        have HO6 := Lib.hid (own_besides HO.out hb6 HCB.out)
        have HB6 := Lib.hid (HBr.out.trans hb6)
        have HC6 := Lib.hid hc6
        have hwa : IntKind.i64.wrap (97 + x) = 97 + x := IntWalk.i64_in _ (by omega)
        have hwb : IntKind.u8.wrap (97 + x) = 97 + x := IntWalk.u8_in _ (by omega)
        have HX : Hid (Value.int .u8 (97 + x) = Value.int .u8 (((UInt8.ofNat (97 + x).toNat).toNat : Nat) : Int)) := by
          show _ = _
          rw [UInt8.toNat_ofNat', show (((97 + x).toNat % 2 ^ 8 : Nat) : Int) = 97 + x from by omega]
        clear x1 hb6 hc6
        go_wp2_with (at_builtin; refine wpList_append_own _ rfl _ _ 22 rfl B 5 i0 (.int .u8 0) 1 1 Try.underlying22 hi hz0 hz1 hz2 rfl (by decide) _ _ _ rfl (HO6.out.alloc _) ⟨w6.heap.size, 0, none⟩ 1 1 [.int .u8 (97 + x)] rfl rfl ?c1 ?c2 ?c3 ?c4 ?c5 ?_)
        case c1 =>
          intro j u hj
          match j, hj with
          | 0, hj => simp at hj; subst hj; simp [Addr.add]
        case c2 => intro u hu; simp at hu; subst hu; rfl
        case c3 => have := HL.out; unfold maxLen; omega
        case c4 => have := HL.out; omega
        case c5 => have := own_lt HO6.out HV.out; simp; omega
        intro v' w7 hown7 hgr7 hnil7
        have HO7 : Hid (w7.ownsRow B 5 1 v' (l ++ [UInt8.ofNat (97 + x).toNat]).length ((l ++ [UInt8.ofNat (97 + x).toNat]).map (fun b => Value.int .u8 (b.toNat : Int)))) := by
          show World.ownsRow _ _ _ _ _ _ _
          rw [List.length_append, List.map_append, List.map_singleton, ← HX.out]
          exact hown7
        have HV7 : Hid (v' ≠ .slice none 0 0) := fun e => by first | exact hnil7 e | exact HV.out (hnil7.1 e).1
        have HB7 : Hid (Besides C w w7) := (HB6.out.alloc _).grown hgr7 (fun k hk => Nat.le_trans HBw.out (HO6.out.lt k hk).1)
        have HC7 : Hid (CodesOk w7 C) := (HC6.out.below ((Below.refl _ _).alloc (Nat.le_refl _) _) HC6.out.lt).below (B := C + 1) ((Below.refl _ _).grown hgr7 (by have := HC6.out.lt; simp; omega) (fun k hk => Nat.lt_of_lt_of_le HCB.out (HO6.out.lt k hk).1)) (Nat.lt_succ_self _)
        clear hown7 hgr7 hnil7
        have hkw : IntKind.i64.wrap ((k : Int) + 1) = (k : Int) + 1 := IntWalk.i64_in _ (by omega)
        go_wp2_with fail
        go_roundw
        case rel => exact ⟨k + 1, _, by omega, rfl, by rw [List.length_append, HL.out]; rfl, HV7.out, HO7.out, HB7.out, HC7.out⟩
        case measure => simp [intOf]; omega
      · have hcv := conv_own _ _ _ _ HO.out HV.out
        go_wp2_with fail
        go_ret
        exact ⟨_, rfl, by show l.toArray.size ≤ 13; have := HL.out; simp; omega, HBr.out, HCr.out⟩
  · have h0b : (m == 0) = false := by rw [beq_eq_false_iff_ne]; exact h0
    clear h0
    obtain ⟨n, rfl⟩ := Int.eq_ofNat_of_zero_le n0
    have hn : n ≤ 13 := by omega
    clear n1 n0
    go_wp2_with (refine wpList_make_own _ rfl _ _ 22 rfl w3.heap.size 5 i0 (.int .u8 0) 1 Try.underlying22 hi hz0 hz1 .i64 .i64 _ n rfl rfl rfl ?m1 ?m2 ?m3 ?_)
    case m1 => rw [hz2]; omega
    case m2 => unfold maxLen; omega
    case m3 => exact Nat.le_refl _
    intro w5 hown5 hgr5
    have HB5 : Hid (Besides C w w5) := HB3.out.trans (Besides.of_grown hgr5)
    have HC5 : Hid (CodesOk w5 C) := HC3.out.below (Below.of_grown hgr5) HC3.out.lt
    have HBw : Hid (w.heap.size ≤ w3.heap.size) := HB3.out.size
    have HCB : Hid (C < w3.heap.size) := HC3.out.lt
    have HO5 := Lib.hid hown5
    clear hown5 hgr5
    generalize w3.heap.size = B at *
    go_wp2_with fail
    go_loopw [4, 5] (fun v i wr => ∃ (k : Nat) (l : List UInt8), k ≤ n ∧ i = .int .i64 k ∧ l.length = k ∧ v ≠ .slice none 0 0 ∧ wr.ownsRow B 5 1 v l.length (l.map (fun b => Value.int .u8 (b.toNat : Int))) ∧ Besides C w wr ∧ CodesOk wr C) (fun _ i _ => n - (intOf i).toNat)
    case atStart => exact ⟨0, [], by omega, rfl, rfl, by simp, HO5.out, HB5.out, HC5.out⟩
    case round =>
      obtain ⟨k, l, hk, rfl, hl, hv, hown, hbr, hcr⟩ := hrel
      have HV := Lib.hid hv
      have HO := Lib.hid hown
      have HBr := Lib.hid hbr
      have HCr := Lib.hid hcr
      have HL := Lib.hid hl
      clear hv hown hbr hcr hl
      by_cases hlt : (k : Int) < (n : Int)
      · go_wp2_with fail
        refine (next_any C 3 _ HCr.out (by omega)).mono ?_
        rintro e w6 ⟨x, rfl, x0, x1, hb6, hc6⟩
        have x2 : x ≤ 2 := by omega
        have HO6 := Lib.hid (own_besides HO.out hb6 HCB.out)
        have HB6 := Lib.hid (HBr.out.trans hb6)
        have HC6 := Lib.hid hc6
        have hwa : IntKind.i64.wrap (97 + x) = 97 + x := IntWalk.i64_in _ (by omega)
        have hwb : IntKind.u8.wrap (97 + x) = 97 + x := IntWalk.u8_in _ (by omega)
        have HX : Hid (Value.int .u8 (97 + x) = Value.int .u8 (((UInt8.ofNat (97 + x).toNat).toNat : Nat) : Int)) := by
          show _ = _
          rw [UInt8.toNat_ofNat', show (((97 + x).toNat % 2 ^ 8 : Nat) : Int) = 97 + x from by omega]
        clear x1 hb6 hc6
        go_wp2_with (at_builtin; refine wpList_append_own _ rfl _ _ 22 rfl B 5 i0 (.int .u8 0) 1 1 Try.underlying22 hi hz0 hz1 hz2 rfl (by decide) _ _ _ rfl (HO6.out.alloc _) ⟨w6.heap.size, 0, none⟩ 1 1 [.int .u8 (97 + x)] rfl rfl ?c1 ?c2 ?c3 ?c4 ?c5 ?_)
        case c1 =>
          intro j u hj
          match j, hj with
          | 0, hj => simp at hj; subst hj; simp [Addr.add]
        case c2 => intro u hu; simp at hu; subst hu; rfl
        case c3 => have := HL.out; unfold maxLen; omega
        case c4 => have := HL.out; omega
        case c5 => have := own_lt HO6.out HV.out; simp; omega
        intro v' w7 hown7 hgr7 hnil7
        have HO7 : Hid (w7.ownsRow B 5 1 v' (l ++ [UInt8.ofNat (97 + x).toNat]).length ((l ++ [UInt8.ofNat (97 + x).toNat]).map (fun b => Value.int .u8 (b.toNat : Int)))) := by
          show World.ownsRow _ _ _ _ _ _ _
          rw [List.length_append, List.map_append, List.map_singleton, ← HX.out]
          exact hown7
        have HV7 : Hid (v' ≠ .slice none 0 0) := fun e => by first | exact hnil7 e | exact HV.out (hnil7.1 e).1
        have HB7 : Hid (Besides C w w7) := (HB6.out.alloc _).grown hgr7 (fun k hk => Nat.le_trans HBw.out (HO6.out.lt k hk).1)
        have HC7 : Hid (CodesOk w7 C) := (HC6.out.below ((Below.refl _ _).alloc (Nat.le_refl _) _) HC6.out.lt).below (B := C + 1) ((Below.refl _ _).grown hgr7 (by have := HC6.out.lt; simp; omega) (fun k hk => Nat.lt_of_lt_of_le HCB.out (HO6.out.lt k hk).1)) (Nat.lt_succ_self _)
        clear hown7 hgr7 hnil7
        have hkw : IntKind.i64.wrap ((k : Int) + 1) = (k : Int) + 1 := IntWalk.i64_in _ (by omega)
        go_wp2_with fail
        go_roundw
        case rel => exact ⟨k + 1, _, by omega, rfl, by rw [List.length_append, HL.out]; rfl, HV7.out, HO7.out, HB7.out, HC7.out⟩
        case measure => simp [intOf]; omega
      · have hcv := conv_own _ _ _ _ HO.out HV.out
        go_wp2_with fail
        go_ret
        exact ⟨_, rfl, by show l.toArray.size ≤ 13; have := HL.out; simp; omega, HBr.out, HCr.out⟩
end Go.Proofs.Ytlmbnofkmmehoaa
/- the choices of the drawing package: Bytes -/
namespace Go.Proofs.Ytlmbnofkmmehoaa
open Go.RowKit
set_option maxRecDepth 20000

/-- what Bytes leaves: some text of a page's length -/
def BytesPost (C : Nat) (w : World) (e : Ending) (w' : World) : Prop :=
  ∃ s : ByteArray, e = .returned (.string s) ∧ s.size = 256 ∧ Besides C w w' ∧ CodesOk w' C
/-- a row of bytes is block B -/
def RowIn (w : World) (B : Nat) (l : List UInt8) : Prop := w.heap[B]? = some (.cells (l.map (fun b => Value.int .u8 (b.toNat : Int))).toArray 5 (0, 0))
theorem RowIn.lt {w : World} {B : Nat} {l : List UInt8} (h : RowIn w B l) : B < w.heap.size := (Array.getElem?_eq_some_iff.1 h).1
theorem RowIn.besides {w w' : World} {B C : Nat} {l : List UInt8} (h : RowIn w B l) (hb : Besides C w w') (hC : B ≠ C) : RowIn w' B l := (hb.block B h.lt hC).trans h
theorem RowIn.cell {w : World} {B : Nat} {l : List UInt8} (h : RowIn w B l) (i : Nat) (hi : i < l.length) : w.cell? ⟨B, i, none⟩ = some (.int .u8 (l[i].toNat : Int)) := by
  unfold RowIn at h
  simp [World.cell?, h, List.getElem?_eq_getElem hi]
theorem RowIn.frozen {w : World} {B : Nat} {l : List UInt8} (h : RowIn w B l) (i : Nat) : w.frozen? ⟨B, i, none⟩ = false := by
  unfold RowIn at h
  simp [World.frozen?, h]
theorem RowIn.set {w : World} {B : Nat} {l : List UInt8} (h : RowIn w B l) (k : Nat) (x : Int) (x0 : 0 ≤ x) (x1 : x ≤ 255) : RowIn (w.setCell ⟨B, k, none⟩ (.int .u8 x)) B (l.set k (UInt8.ofNat x.toNat)) := by
  refine (heap_setCell_same w B k _ _ _ h).trans ?_
  rw [List.setIfInBounds_toArray, List.map_set, UInt8.toNat_ofNat', show ((x.toNat % 2 ^ 8 : Nat) : Int) = x from by omega]
theorem RowIn.conv {w : World} {B : Nat} {l : List UInt8} (h : RowIn w B l) (n c : Nat) (hn : n = l.length) : Sem.run Try.prog (convert 22 9 (.slice (some ⟨B, 0, none⟩) n c)) w = .ok (.string ⟨l.toArray⟩) w := by
  subst hn
  refine run_convert_bytes_back (P := Try.prog) w 22 9 5 ⟨B, 0, none⟩ c l Try.underlying22 Try.underlying5 Try.underlying9 (fun j hj => ?_)
  have ea : (⟨B, 0, none⟩ : Addr).add j = ⟨B, j, none⟩ := by
    simp only [Addr.add]; split
    · next h => rw [h]
    · simp
  rw [ea]
  exact h.cell j hj

theorem made_row (m : Nat) : Obj.cells (madeCells #[.int .u8 0] m) 5 = .cells ((List.replicate m (0 : UInt8)).map (fun b => Value.int .u8 (b.toNat : Int))).toArray 5 (0, 0) := by
  congr 1
  apply Array.toList_inj.1
  rw [toList_madeCells_one, List.map_replicate]
  rfl
theorem len_rep (m : Nat) : (List.replicate m (0 : UInt8)).length = m := List.length_replicate
set_option maxHeartbeats 1000000 in
theorem bytes_any (C : Nat) (w : World) (h : CodesOk w C) :
    Calls Try.prog 18 #[.pointer (some ⟨C, 0, none⟩)] w (BytesPost C w) := by
  have HK := Lib.hid h
  clear h
  have hmk : Sem.run Try.prog (Instr.makeSlice 22 (.int .i64 256) (.int .i64 256)) w = .ok (.slice (some ⟨w.heap.size, 0, none⟩) 256 256) (w.alloc (.cells (madeCells #[.int .u8 0] 256) 5)) :=
    run_make_row' 22 5 (.int .u8 0) 1 Try.underlying22 info_byte rfl .i64 .i64 256 (by decide) (by decide) w
  rw [made_row] at hmk
  have hlen := len_rep 256
  generalize List.replicate 256 (0 : UInt8) = L0 at hmk hlen
  have HRa : Hid (RowIn (w.alloc (.cells (L0.map (fun b => Value.int .u8 (b.toNat : Int))).toArray 5 (0, 0))) w.heap.size L0) := heap_alloc_last w _
  generalize (L0.map (fun b => Value.int .u8 (b.toNat : Int))).toArray = cells0 at hmk HRa
  have HL0 := Lib.hid hlen
  clear hlen
  go_enter Try.func18, Try.ntmps18
  go_wp2_with fail
  refine (next_any C 256 _ (HK.out.below ((Below.refl _ _).alloc (Nat.le_refl _) _) HK.out.lt) (by omega)).mono ?_
  rintro e w2 ⟨x, rfl, x0, x1, hb2, hc2⟩
  have x2 : x ≤ 255 := by omega
  have HBC : Hid (w.heap.size ≠ C) := by have := HK.out.lt; show _ ≠ _; omega
  have HCB : Hid (C < w.heap.size) := HK.out.lt
  have HR2 := Lib.hid (HRa.out.besides hb2 HBC.out)
  have HB2 := Lib.hid (((Besides.refl C w).alloc _).trans hb2)
  have HC2 := Lib.hid hc2
  clear hb2 hc2 x1 hmk
  have hwx : IntKind.u8.wrap x = x := IntWalk.u8_in _ ⟨x0, x2⟩
  have HX : Hid (0 ≤ x ∧ x ≤ 255) := ⟨x0, x2⟩
  go_wp2_with fail
  go_loopw [5] (fun i wr => ∃ (k : Nat) (l : List UInt8), k ≤ 256 ∧ i = .int .i64 k ∧ l.length = 256 ∧ RowIn wr w.heap.size l ∧ Besides C w wr ∧ CodesOk wr C) (fun i _ => 256 - (intOf i).toNat)
  case atStart => exact ⟨0, L0, by omega, rfl, HL0.out, HR2.out, HB2.out, HC2.out⟩
  case round =>
    obtain ⟨k, l, hk, rfl, hl, hr, hb, hc⟩ := hrel
    have HL := Lib.hid hl
    have HR := Lib.hid hr
    have HB := Lib.hid hb
    have HC := Lib.hid hc
    clear hl hr hb hc
    by_cases hlt : k < 256
    · have hki : (k : Int) < 256 := by omega
      have c0 := HR.out.cell k (by rw [HL.out]; exact hlt)
      have f0 := HR.out.frozen k
      generalize l[k]'(by rw [HL.out]; exact hlt) = old at c0
      have hkw : IntKind.i64.wrap ((k : Int) + 1) = (k : Int) + 1 := IntWalk.i64_in _ (by omega)
      go_wp2_with fail
      go_roundw
      case rel => exact ⟨k + 1, l.set k (UInt8.ofNat x.toNat), by omega, rfl, by rw [List.length_set]; exact HL.out, HR.out.set k x HX.out.1 HX.out.2, HB.out.then_below ((Below.refl _ _).setCell (p := ⟨w.heap.size, k, none⟩) (Nat.le_refl _) _), HC.out.below ((Below.refl w.heap.size wr).setCell (p := ⟨w.heap.size, k, none⟩) (Nat.le_refl _) _) HCB.out⟩
      case measure => simp [intOf]; omega
    · have hki : ¬ (k : Int) < 256 := by omega
      go_wp2_with fail
      refine (next_any C 256 _ HC.out (by omega)).mono ?_
      rintro e w3 ⟨j, rfl, j0, j1, hb3, hc3⟩
      obtain ⟨j, rfl⟩ := Int.eq_ofNat_of_zero_le j0
      have hj : j < 256 := by omega
      have HR3 := Lib.hid (HR.out.besides hb3 HBC.out)
      have HB3 := Lib.hid (HB.out.trans hb3)
      have HC3 := Lib.hid hc3
      clear hb3 hc3 j0 j1
      go_wp2_with fail
      refine (next_any C 256 _ HC3.out (by omega)).mono ?_
      rintro e w4 ⟨y, rfl, y0, y1, hb4, hc4⟩
      have y2 : y ≤ 255 := by omega
      have HY : Hid (0 ≤ y ∧ y ≤ 255) := ⟨y0, y2⟩
      have hwy : IntKind.u8.wrap y = y := IntWalk.u8_in _ ⟨y0, y2⟩
      have hji : (j : Int) < 256 := by omega
      have HR4 := Lib.hid (HR3.out.besides hb4 HBC.out)
      have HB4 := Lib.hid (HB3.out.trans hb4)
      have HC4 := Lib.hid hc4
      have c0 := HR4.out.cell j (by rw [HL.out]; exact hj)
      have f0 := HR4.out.frozen j
      generalize l[j]'(by rw [HL.out]; exact hj) = old at c0
      have hcv := (HR4.out.set j y y0 y2).conv 256 256 (by rw [List.length_set]; exact HL.out.symm)
      clear hb4 hc4 y1
      go_wp2_with fail
      go_ret
      exact ⟨_, rfl, by show (List.toArray _).size = 256; rw [List.size_toArray, List.length_set]; exact HL.out, HB4.out.then_below ((Below.refl _ _).setCell (p := ⟨w.heap.size, j, none⟩) (Nat.le_refl _) _), HC4.out.below ((Below.refl w.heap.size w4).setCell (p := ⟨w.heap.size, j, none⟩) (Nat.le_refl _) _) HCB.out⟩
end Go.Proofs.Ytlmbnofkmmehoaa
