/- texts of a claim, one after the other: the choices of the drawing package: Data, the choices of the drawing package: Bytes, the walks of the reference's blanks and New, the walk of the reference's Inject, the choices of a law's walk, as a thing, the choices of the drawing package: how many are left, the choices of the drawing package, with how many are left: Int, Fault, within a drawing function: things in new memory beside choices that were there before, the choices of the drawing package: Grant, the choices of the drawing package: Locks, what a walk keeps of memory, beside how many choices are left at most, the law WaitsArise: for every input the call returns true -/
import Derived.Test.YtooaldglgkjjgaaWa1
import Derived.WalkKit
import Derived.Deep.RegionWith
import Derived.Test.YtooaldglgkjjgaaWa4
import Derived.Deep.CutBlock
import Derived.Test.YtooaldglgkjjgaaWa2
import Derived.Test.YtooaldglgkjjgaaWa6
/- the choices of the drawing package: Data -/
namespace Go.Proofs.Ytooaldglgkjjgaa
open Go.RowKit
set_option maxRecDepth 20000

theorem Besides.grown {C : Nat} {a w w' : World} {row : Option Nat} (h : Besides C a w) (hg : w.grownBy w' row) (hr : ∀ k, row = some k → a.heap.size ≤ k) : Besides C a w' :=
  ⟨hg.os.trans h.os, hg.tape.trans h.tape, hg.output.trans h.output, Nat.le_trans h.size hg.size, fun k hk hC => (hg.block k (Nat.lt_of_lt_of_le hk h.size) (fun e => by have := hr k e.symm; omega)).trans (h.block k hk hC),
    fun hC => (World.cell?_of_block (a := ⟨C, 0, none⟩) (hg.block C (Nat.lt_of_lt_of_le hC h.size) (fun e => by have := hr C e.symm; omega))).trans (h.head hC)⟩
end Go.Proofs.Ytooaldglgkjjgaa
/- the choices of the drawing package: Bytes -/
namespace Go.Proofs.Ytooaldglgkjjgaa
open Go.RowKit
set_option maxRecDepth 20000

/-- a row of bytes is block B -/
def RowIn (w : World) (B : Nat) (l : List UInt8) : Prop := w.heap[B]? = some (.cells (l.map (fun b => Value.int .u8 (b.toNat : Int))).toArray 5 (0, 0))
theorem RowIn.lt {w : World} {B : Nat} {l : List UInt8} (h : RowIn w B l) : B < w.heap.size := (Array.getElem?_eq_some_iff.1 h).1
theorem RowIn.besides {w w' : World} {B C : Nat} {l : List UInt8} (h : RowIn w B l) (hb : Besides C w w') (hC : B ≠ C) : RowIn w' B l := (hb.block B h.lt hC).trans h
theorem RowIn.cell {w : World} {B : Nat} {l : List UInt8} (h : RowIn w B l) (i : Nat) (hi : i < l.length) : w.cell? ⟨B, i, none⟩ = some (.int .u8 (l[i].toNat : Int)) := by
  unfold RowIn at h
  simp [World.cell?, h, List.getElem?_eq_getElem hi]
theorem RowIn.frozen {w : World} {B : Nat} {l : List UInt8} (h : RowIn w B l) (i : Nat) : w.frozen? ⟨B, i, none⟩ = false := by
  unfold RowIn at h
  simp [World.frozen?, h]
theorem RowIn.set {w : World} {B : Nat} {l : List UInt8} (h : RowIn w B l) (k : Nat) (x : Int) (x0 : 0 ≤ x) (x1 : x ≤ 255) : RowIn (w.setCell ⟨B, k, none⟩ (.int .u8 x)) B (l.set k (UInt8.ofNat x.toNat)) := by
  refine (heap_setCell_same w B k _ _ _ h).trans ?_
  rw [List.setIfInBounds_toArray, List.map_set, UInt8.toNat_ofNat', show ((x.toNat % 2 ^ 8 : Nat) : Int) = x from by omega]
theorem RowIn.conv {w : World} {B : Nat} {l : List UInt8} (h : RowIn w B l) (n c : Nat) (hn : n = l.length) : Sem.run Try.prog (convert 22 9 (.slice (some ⟨B, 0, none⟩) n c)) w = .ok (.string ⟨l.toArray⟩) w := by
  subst hn
  refine run_convert_bytes_back (P := Try.prog) w 22 9 5 ⟨B, 0, none⟩ c l Try.underlying22 Try.underlying5 Try.underlying9 (fun j hj => ?_)
  have ea : (⟨B, 0, none⟩ : Addr).add j = ⟨B, j, none⟩ := by
    simp only [Addr.add]; split
    · next h => rw [h]
    · simp
  rw [ea]
  exact h.cell j hj

end Go.Proofs.Ytooaldglgkjjgaa
/- the walks of the reference's blanks and New -/
namespace Go.Proofs.Ytooaldglgkjjgaa
open Go.RowKit
set_option maxRecDepth 20000

/-- how a function that gives a device and an error ends: it reads as x says, in memory that is new or was read before -/
def DvPost (w : World) (R0 : List Rng) (x : Dv × Int) (e : Ending) (w' : World) : Prop :=
  ∃ p u f R, e = .returned (.tuple #[.agg (dvCells p x.1 u f).toArray, .int .i64 x.2]) ∧ DvRd p u f x.1 R ∧ RdIn w' R ∧ (∀ r ∈ R, w.heap.size ≤ r.1 ∨ r ∈ R0) ∧ Below w.heap.size w w'
theorem DvPost.none {w w' : World} {R0 : List Rng} {x : Dv × Int} {n : Int} (hx : x = (dvNil, n)) (hb : Below w.heap.size w w') : DvPost w R0 x (.returned (.tuple #[.agg (dvCells nilS dvNil nilS nilS).toArray, .int .i64 n])) w' := by
  subst hx
  exact ⟨_, _, _, [], rfl, ⟨SlRd.nil _ _, SlRd.nil _ _, SlRd.nil _ _⟩, RdIn.nil _, by simp, hb⟩
end Go.Proofs.Ytooaldglgkjjgaa
/- the walk of the reference's Inject -/
namespace Go.Proofs.Ytooaldglgkjjgaa
open Go.RowKit
set_option maxRecDepth 20000

/-- what a callee made, beside what the walk has -/
theorem Hp.join {w W W' : World} {L M : List Th} (h : Hp w L W) (k : Hp W M W') (hM : ∀ y ∈ M, y.reads = [] ∧ ∀ C, y ≠ .cd C) : Hp w (L ++ M) W' := by
  have h' := h.calls k.old
  refine ⟨h'.old, fun x hx => ?_, ?_⟩
  · rcases List.mem_append.1 hx with hx | hx
    · exact h'.all x hx
    · have hk := k.all x hx
      cases x with
      | ob b t cs => exact ⟨Nat.le_trans h.old.size hk.1, hk.2⟩
      | sl v e z n xs =>
        refine ⟨hk.1, ?_⟩
        rcases hk.2 with h0 | ⟨g, cap, cur, hv, hB, hr⟩
        · exact .inl h0
        · exact .inr ⟨g, cap, cur, hv, Nat.le_trans h.old.size hB, hr⟩
      | cd C => exact absurd rfl ((hM _ hx).2 C)
      | rd R => exact hk
  · rw [List.pairwise_append]
    refine ⟨h.nd, k.nd, fun a ha b hb => ⟨fun c hac => ⟨fun hbc => ?_, fun hr => ?_⟩, fun c hbc har => ?_⟩⟩
    · have h1 := ((h.all a ha).from hac).2
      have h2 := ((k.all b hb).from hbc).1
      omega
    · rw [(hM b hb).1] at hr
      cases hr
    · have h1 := (h.all a ha).reads_lt har
      have h2 := ((k.all b hb).from hbc).1
      omega
end Go.Proofs.Ytooaldglgkjjgaa
/- the choices of a law's walk, as a thing -/
namespace Go.Proofs.Ytooaldglgkjjgaa
open Go.RowKit
set_option maxRecDepth 20000

theorem row_lo {w : World} {x : Option Addr} {len cap : Nat} {zs : List Int} (hr : IsRow .u8 w x len cap zs) (h0 : 0 < len) : ∀ b off, x = some ⟨b, off, none⟩ → b < w.heap.size := by
  intro b off hx
  rcases hr with ⟨_, h, _, _⟩ | ⟨y, hy, _, _, hz, hc, _⟩
  · omega
  · have := World.block_lt_of_cell? w _ (hc 0 (by omega))
    rw [hx] at hy
    cases hy
    simpa [Addr.add] using this
end Go.Proofs.Ytooaldglgkjjgaa
/- the choices of the drawing package: how many are left -/
namespace Go.Proofs.Ytooaldglgkjjgaa
open Go.RowKit
set_option maxRecDepth 20000

/-- how many choices are left at block C -/
def leftIn (w : World) (C : Nat) : Nat := match w.cell? ⟨C, 0, none⟩, w.cell? ⟨C, 1, none⟩ with
  | some (.slice _ len _), some (.int _ i) => ((len : Int) - i).toNat
  | _, _ => 0
theorem CodesAt.left {w : World} {C len cap : Nat} {a : Option Addr} {i : Int} (h : CodesAt w C a len cap i) : leftIn w C = ((len : Int) - i).toNat := by
  unfold leftIn
  rw [h.2.1, h.2.2.1]
theorem leftIn_of {w w' : World} {C : Nat} (h : w'.heap[C]? = w.heap[C]?) : leftIn w' C = leftIn w C := by
  unfold leftIn
  rw [World.cell?_of_block (a := ⟨C, 0, none⟩) h, World.cell?_of_block (a := ⟨C, 1, none⟩) h]
theorem leftIn_below {w w' : World} {C B : Nat} (hb : Below B w w') (hC : C < B) : leftIn w' C = leftIn w C := leftIn_of (hb.block C hC)
theorem leftIn_drewN (w : World) (q C : Nat) : leftIn (w.drewN q) C = leftIn w C := rfl
theorem leftIn_next {w : World} {C len cap : Nat} {a : Option Addr} {i : Int} (h : CodesAt w C a len cap i) : leftIn (w.setCell ⟨C, 1, none⟩ (.int .i64 (i + 1))) C ≤ leftIn w C - 1 := by
  rw [h.left]
  unfold leftIn
  rw [World.cell?_setCell_other w _ _ _ (by intro h; cases h), h.2.1, World.cell?_setCell_same w _ _ h.2.2.1]
  show ((len : Int) - (i + 1)).toNat ≤ _
  omega
def NextL (C : Nat) (n : Int) (w : World) (e : Ending) (w' : World) : Prop :=
  ∃ x : Int, e = .returned (.int .i64 x) ∧ 0 ≤ x ∧ (x < n ∨ x = 0) ∧ Besides C w w' ∧ CodesOk w' C ∧ leftIn w' C ≤ leftIn w C - 1
set_option maxHeartbeats 400000 in
theorem left_end (C : Nat) (a : Option Addr) (len cap : Nat) (i n : Int) (w : World) (h : CodesAt w C a len cap i) (hl : (len : Int) ≤ i) :
    Calls Try.prog 20 #[.pointer (some ⟨C, 0, none⟩), .int .i64 n] w (NextL C n w) := by
  have HK : Hid (CodesOk w C) := ⟨a, len, cap, i, h⟩
  have HZ : Hid (leftIn w C = 0) := by show _ = _; rw [h.left]; omega
  have h1 := h.2.1
  have h2 := h.2.2.1
  clear h
  have d1 : decide ((len : Int) ≤ i) = true := by simpa using hl
  go_enter Try.func20, Try.ntmps20
  go_wp2
  go_quiet (fail)
  go_wp2
  go_ret
  exact ⟨0, rfl, Int.le_refl _, Or.inr rfl, (Besides.refl _ _).drewN _, HK.out.drewN _, by rw [leftIn_drewN, HZ.out]; exact Nat.le_refl _⟩
set_option maxHeartbeats 400000 in
theorem left_small (C : Nat) (n : Int) (w : World) (h : CodesOk w C) (h1n : 1 ≤ n) (hn : n ≤ 256) :
    Calls Try.prog 20 #[.pointer (some ⟨C, 0, none⟩), .int .i64 n] w (NextL C n w) := by
  obtain ⟨a, len, cap, i, h⟩ := h
  by_cases hz : (len : Int) ≤ i
  · exact left_end C a len cap i n w h hz
  have hi : i < len := by omega
  have HK : Hid (∀ q : Nat, CodesOk ((w.drewN q).setCell ⟨C, 1, none⟩ (.int .i64 (i + 1))) C) := fun q => (h.keep (w' := w.drewN q) (Nat.le_refl _) (fun _ _ => rfl)).next hi
  have HLf : Hid (∀ q : Nat, leftIn ((w.drewN q).setCell ⟨C, 1, none⟩ (.int .i64 (i + 1))) C ≤ leftIn w C - 1) := fun q => leftIn_next (w := w.drewN q) (h.keep (w' := w.drewN q) (Nat.le_refl _) (fun _ _ => rfl))
  obtain ⟨h0, h1, h2, h3, h4, h5, h6, h7⟩ := h
  obtain ⟨b, off, rfl, hbC, hcell⟩ := h7 (by omega)
  obtain ⟨k, rfl⟩ := Int.eq_ofNat_of_zero_le h4
  obtain ⟨z, hzc, z0, z1⟩ := hcell k (by omega)
  clear hcell h7 hz
  have d1 : decide (len ≤ k) = false := by simp; omega
  have d2 : decide (n < 1) = false := by simp; omega
  have hk : (k : Int) < (len : Int) := by omega
  have hk0 : (0 : Int) ≤ (k : Int) := by omega
  have hg : ¬ 256 < n := by omega
  have dz := Int.emod_nonneg z (show n ≠ 0 by omega)
  have dz2 := Int.emod_lt_of_pos z (show 0 < n by omega)
  go_enter Try.func20, Try.ntmps20
  go_wp2
  go_quiet (fail)
  go_wp2
  go_quiet (fail)
  go_wp2
  go_ret
  exact ⟨z % n, rfl, dz, Or.inl dz2, ((Besides.refl _ _).drewN _).set _ _ (by decide), HK.out _, HLf.out _⟩
theorem left_any (C : Nat) (w : World) (h : CodesOk w C) :
    Calls Try.prog 19 #[.pointer (some ⟨C, 0, none⟩)] w fun e w' => ∃ (q : Nat) (v : Int), e = .returned (.int .i64 v) ∧ (0 < v → 0 < leftIn w C) ∧ w' = w.drewN q := by
  obtain ⟨a, len, cap, i, h⟩ := h
  have HL : Hid (leftIn w C = ((len : Int) - i).toNat) := h.left
  obtain ⟨h0, h1, h2, h3, h4, h5, h6, h7⟩ := h
  have hw : IntKind.i64.wrap ((len : Int) - i) = (len : Int) - i := IntWalk.i64_in _ (by omega)
  clear h0 h3 h4 h5 h6 h7
  go_enter Try.func19, Try.ntmps19
  go_wp2
  go_quiet (fail)
  go_wp2
  go_ret
  exact ⟨_, _, rfl, fun hv => by have := HL.out; omega, rfl⟩
set_option maxHeartbeats 400000 in
theorem new_left (m : Nat) (hm : m ≤ 1000) (a : Option Addr) (len cap : Nat) (zs : List Int) (w : World) (h : IsRow .u8 w a len cap zs) :
    Calls Try.prog 7 #[.slice a len cap, .int .i64 m] w fun e w' => e = .returned (.pointer (some ⟨w.heap.size, 0, none⟩)) ∧ Below w.heap.size w w' ∧ CodesOk w' w.heap.size ∧ CodesRow w' w.heap.size a len ∧ leftIn w' w.heap.size ≤ m := by
  by_cases hl : m < len
  · have HK := Lib.hid (codes_of_row h m cap (by omega) (by omega))
    rcases h with ⟨_, h, _, _⟩ | ⟨x, rfl, hlc, hcm, hz, _, _⟩
    · omega
    · have hcap : (m : Int) ≤ (cap : Int) := by omega
      have hi : (m : Int) < (len : Int) := by omega
      have hm0 : (0 : Int) ≤ (m : Int) := by omega
      have HL : Hid (m < len) := hl
      clear hz
      go_enter Try.func7, Try.ntmps7
      go_wp2
      go_ret
      exact ⟨rfl, (Below.refl _ _).alloc (Nat.le_refl _) _, HK.out, ⟨_, _, by rw [World.cell?_alloc_new]; rfl, fun _ => by have := HL.out; omega⟩, by unfold leftIn; rw [World.cell?_alloc_new, World.cell?_alloc_new]; show ((m : Int) - 0).toNat ≤ m; omega⟩
  · have hle : len ≤ 4611686018427387904 := by omega
    have HK := Lib.hid (codes_of_row h len cap (Nat.le_refl _) hle)
    have hi : ¬ ((m : Int) < (len : Int)) := by omega
    clear h
    go_enter Try.func7, Try.ntmps7
    go_wp2
    go_ret
    have hlm : len ≤ m := by omega
    refine ⟨rfl, (Below.refl _ _).alloc (Nat.le_refl _) _, HK.out, ⟨len, cap, ?_, fun h0 => h0⟩, by unfold leftIn; rw [World.cell?_alloc_new, World.cell?_alloc_new]; show ((len : Int) - 0).toNat ≤ m; omega⟩
    rw [World.cell?_alloc_new]
    rfl
theorem new_hpl (m : Nat) (hm : m ≤ 1000) {w0 w : World} {L : List Th} {x : Option Addr} {len cap : Nat} {zs : List Int} (h : Hp w0 L w) (hr : IsRow .u8 w0 x len cap zs) :
    Calls Try.prog 7 #[.slice x len cap, .int .i64 m] w fun e w' => e = .returned (.pointer (some ⟨w.heap.size, 0, none⟩)) ∧ Hp w0 (L ++ [.cd w.heap.size]) w' ∧ leftIn w' w.heap.size ≤ m :=
  (new_left m hm x len cap zs w (row_below hr h.old)).mono fun _ _ ⟨h1, h2, h3, ⟨l, c, h4, h5⟩, h6⟩ => ⟨h1, h.begin h2 h3 ⟨x, l, c, h4, fun hl => row_lo hr (h5 hl)⟩, h6⟩
end Go.Proofs.Ytooaldglgkjjgaa
/- the choices of the drawing package, with how many are left: Int, Fault -/
namespace Go.Proofs.Ytooaldglgkjjgaa
open Go.RowKit
set_option maxRecDepth 20000
set_option linter.unusedSimpArgs false
set_option linter.unusedVariables false

/-- choices, of which at most so many are left -/
def CodesM (m : Nat) (w : World) (C : Nat) : Prop := CodesOk w C ∧ leftIn w C ≤ m
theorem CodesM.lt {m : Nat} {w : World} {C : Nat} (h : CodesM m w C) : C < w.heap.size := h.1.lt
theorem CodesM.below {m : Nat} {w w' : World} {C B : Nat} (h : CodesM m w C) (hb : Below B w w') (hC : C < B) : CodesM m w' C := ⟨h.1.below hb hC, by rw [leftIn_below hb hC]; exact h.2⟩
structure DrM (m : Nat) (w : World) (C : Nat) (L : List Ob) (W : World) : Prop where
  dr : Dr w C L W
  left : leftIn W C ≤ m
theorem DrM.start {m : Nat} {w : World} {C : Nat} (h : CodesM m w C) : DrM m w C [] w := ⟨Dr.start h.1, h.2⟩
theorem DrM.codes {m : Nat} {w W : World} {C : Nat} {L : List Ob} (h : DrM m w C L W) : CodesM m W C := ⟨h.dr.codes, h.left⟩
theorem DrM.draws {m : Nat} {w W W' : World} {C : Nat} {L : List Ob} (h : DrM m w C L W) (hb : Besides C W W') (hc : CodesM m W' C) : DrM m w C L W' := ⟨h.dr.draws hb hc.1, hc.2⟩
theorem DrM.put {m : Nat} {w W : World} {C : Nat} {L : List Ob} (h : DrM m w C L W) (t : TypeId) (cs : List Value) : DrM m w C (L ++ [⟨W.heap.size, t, cs⟩]) (W.alloc (.cells cs.toArray t)) :=
  ⟨h.dr.put t cs, by rw [leftIn_below ((Below.refl _ _).alloc (Nat.le_refl _) _) h.dr.codes.lt]; exact h.left⟩
theorem DrM.ne {m : Nat} {w W : World} {C : Nat} {L : List Ob} (h : DrM m w C L W) (i : Nat) {o : Ob} (e : L[i]? = some o) : C ≠ o.b := by
  have h1 := h.dr.new _ (List.mem_of_getElem? e)
  have h2 := h.dr.lt
  omega
theorem DrM.set {m : Nat} {w W : World} {C : Nat} {L : List Ob} (h : DrM m w C L W) (i : Nat) {o : Ob} (e : L[i]? = some o) (k : Nat) (v : Value) : DrM m w C (L.set i ⟨o.b, o.t, o.cs.set k v⟩) (W.setCell ⟨o.b, k, none⟩ v) :=
  ⟨h.dr.set i e k v, by rw [leftIn_of (Below.heap_setCell _ _ _ _ (h.ne i e))]; exact h.left⟩
theorem DrM.row {m : Nat} {w W : World} {C : Nat} {L : List Ob} (h : DrM m w C L W) (i : Nat) {o : Ob} (e : L[i]? = some o) (cs : List Value) : DrM m w C (L.set i ⟨o.b, o.t, cs⟩) (W.setRow o.b cs.toArray) :=
  ⟨h.dr.row i e cs, by rw [leftIn_of (setRow_other _ _ _ _ (h.ne i e))]; exact h.left⟩
theorem DrM.get {m : Nat} {w W : World} {C : Nat} {L : List Ob} (h : DrM m w C L W) (i : Nat) {b : Nat} {t : TypeId} {cs : List Value} (e : L[i]? = some ⟨b, t, cs⟩) : W.heap[b]? = some (.cells cs.toArray t (0, 0)) := h.dr.get i e
theorem DrM.cell {m : Nat} {w W : World} {C : Nat} {L : List Ob} (h : DrM m w C L W) (i : Nat) {b : Nat} {t : TypeId} {cs : List Value} (e : L[i]? = some ⟨b, t, cs⟩) (k : Nat) {v : Value} (hv : cs[k]? = some v) : W.cell? ⟨b, k, none⟩ = some v := by
  rw [cell_of_row W b k _ _ _ (h.get i e), List.getElem?_toArray]; exact hv
theorem DrM.frozen {m : Nat} {w W : World} {C : Nat} {L : List Ob} (h : DrM m w C L W) (i : Nat) {b : Nat} {t : TypeId} {cs : List Value} (e : L[i]? = some ⟨b, t, cs⟩) (k : Nat) : W.frozen? ⟨b, k, none⟩ = false := frozen_of_row _ _ _ _ _ (h.get i e)
theorem wfm_of {n : Int} (h : -9223372036854775808 ≤ n ∧ n ≤ 9223372036854775807) : (Lit.int .i64 n).wf = true := by
  simp [Lit.wf, IntKind.min, IntKind.max, IntKind.bits, IntKind.signed]; omega
theorem GoodFlt.pg {f : Flt} (h : GoodFlt f) {x : Int} (hx : -9223372036854775808 ≤ x ∧ x ≤ 9223372036854775807) : GoodFlt ⟨f.kind, f.at_, x, f.target, f.byte, f.mask⟩ := ⟨h.kind, h.at_, wfm_of hx, h.target, h.byte, h.mask⟩
end Go.Proofs.Ytooaldglgkjjgaa
/- within a drawing function: things in new memory beside choices that were there before -/
namespace Go.Proofs.Ytooaldglgkjjgaa
open Go.RowKit
set_option maxRecDepth 20000
set_option linter.unusedSimpArgs false
set_option linter.unusedVariables false

/-- things in memory that is new since w, while only the choices C of the elder memory change -/
structure DrH (w : World) (C : Nat) (L : List Th) (W : World) : Prop where
  bes : Besides C w W
  codes : CodesOk W C
  lt : C < w.heap.size
  off : ∀ x ∈ L, ∀ b ∈ x.reads, w.heap.size ≤ b
  nocd : ∀ x ∈ L, ∀ c, x ≠ .cd c
  hp : ∃ w', w'.heap.size = w.heap.size ∧ Hp w' L W
theorem DrH.start {w : World} {C : Nat} (h : CodesOk w C) : DrH w C [] w := ⟨Besides.refl _ _, h, h.lt, by simp, by simp, w, rfl, Hp.start w⟩
theorem DrH.step {w W W' : World} {C : Nat} {L L' : List Th} (h : DrH w C L W) (hs : W.heap.size ≤ W'.heap.size) (H : ∀ w', w'.heap.size = w.heap.size → Hp w' L W → Hp w' L' W') (hr : ∀ x ∈ L', ∀ b ∈ x.reads, w.heap.size ≤ b) (hc : ∀ x ∈ L', ∀ c, x ≠ .cd c) : DrH w C L' W' := by
  obtain ⟨bes, cod, lt, _, _, w', e, hp⟩ := h
  have hp' := H w' e hp
  have hk : ∀ k, k < w.heap.size → W'.heap[k]? = W.heap[k]? := fun k hk => (hp'.old.block k (by omega)).trans (hp.old.block k (by omega)).symm
  have hb : Below w.heap.size W W' := ⟨hp'.old.os.trans hp.old.os.symm, hp'.old.tape.trans hp.old.tape.symm, hp'.old.output.trans hp.old.output.symm, hs, hk⟩
  have hw : w.heap.size ≤ W'.heap.size := Nat.le_trans bes.size hs
  exact ⟨⟨hb.os.trans bes.os, hb.tape.trans bes.tape, hb.output.trans bes.output, hw, fun k h1 h2 => (hk k h1).trans (bes.block k h1 h2), fun hC => (World.cell?_of_block (a := ⟨C, 0, none⟩) (hk C lt)).trans (bes.head hC)⟩, cod.below hb lt, lt, hr, hc, w', e, hp'⟩
theorem DrH.all {w W : World} {C : Nat} {L : List Th} (h : DrH w C L W) : ∀ x ∈ L, x.In w.heap.size W := by
  obtain ⟨_, _, _, _, _, w', e, hp⟩ := h
  intro x hx
  rw [← e]
  exact hp.all x hx
theorem DrH.nd {w W : World} {C : Nat} {L : List Th} (h : DrH w C L W) : L.Pairwise Th.Apart := by
  obtain ⟨_, _, _, _, _, w', e, hp⟩ := h
  exact hp.nd
theorem DrH.in {w W : World} {C : Nat} {L : List Th} (h : DrH w C L W) (i : Nat) {x : Th} (e : L[i]? = some x) : x.In w.heap.size W := h.all _ (List.mem_of_getElem? e)
theorem DrH.get {w W : World} {C : Nat} {L : List Th} (h : DrH w C L W) (i : Nat) {b : Nat} {t : TypeId} {cs : List Value} (e : L[i]? = some (.ob b t cs)) : W.heap[b]? = some (.cells cs.toArray t (0, 0)) := (h.in i e).2
theorem DrH.at {w W : World} {C : Nat} {L : List Th} (h : DrH w C L W) (i : Nat) {b : Nat} {t : TypeId} {cs : List Value} (e : L[i]? = some (.ob b t cs)) (k : Nat) {v : Value} (hv : cs[k]? = some v) : W.cell? ⟨b, k, none⟩ = some v := by
  rw [cell_of_row W b k _ _ _ (h.get i e), List.getElem?_toArray]; exact hv
theorem DrH.frozen {w W : World} {C : Nat} {L : List Th} (h : DrH w C L W) (i : Nat) {b : Nat} {t : TypeId} {cs : List Value} (e : L[i]? = some (.ob b t cs)) (k : Nat) : W.frozen? ⟨b, k, none⟩ = false := frozen_of_row _ _ _ _ _ (h.get i e)
theorem DrH.reads {w W : World} {C : Nat} {L : List Th} (h : DrH w C L W) (i : Nat) {R : List Rng} (e : L[i]? = some (.rd R)) : RdIn W R := h.in i e
theorem DrH.pick {w W : World} {C : Nat} {L M : List Th} (h : DrH w C L W) (is : List Nat) (e : is.map (fun i => L[i]?) = M.map some) : Hold w.heap.size M W := fun x hx => by
  have : some x ∈ M.map some := List.mem_map.2 ⟨x, hx, rfl⟩
  rw [← e, List.mem_map] at this
  obtain ⟨i, _, hi⟩ := this
  exact h.in i hi
theorem pull_mem {L M : List Th} (is : List Nat) (e : is.map (fun i => L[i]?) = M.map some) {x : Th} (hx : x ∈ M) : x ∈ L := by
  have : some x ∈ M.map some := List.mem_map.2 ⟨x, hx, rfl⟩
  rw [← e, List.mem_map] at this
  obtain ⟨i, _, hi⟩ := this
  exact List.mem_of_getElem? hi
theorem DrH.pull {w W : World} {C : Nat} {L M : List Th} (h : DrH w C L W) (is : List Nat) (e : is.map (fun i => L[i]?) = M.map some) (hn : M.Pairwise Th.Apart) : DrH w C M W :=
  h.step (Nat.le_refl _) (fun _ _ hp => hp.pull is e hn) (fun x hx => h.off x (pull_mem is e hx)) (fun x hx => h.nocd x (pull_mem is e hx))
theorem DrH.drew {w W : World} {C : Nat} {L : List Th} (h : DrH w C L W) : DrH w C L W.drew := h.step (Nat.le_refl _) (fun _ _ hp => hp.drew) h.off h.nocd
theorem DrH.calls {w W W' : World} {C : Nat} {L : List Th} (h : DrH w C L W) (hb : Below W.heap.size W W') : DrH w C L W' := h.step hb.size (fun _ _ hp => hp.calls hb) h.off h.nocd
theorem DrH.put {w W : World} {C : Nat} {L : List Th} (h : DrH w C L W) (t : TypeId) (cs : List Value) : DrH w C (L ++ [.ob W.heap.size t cs]) (W.alloc (.cells cs.toArray t)) :=
  h.step ((Below.refl W.heap.size W).alloc (Nat.le_refl _) _).size (fun _ _ hp => hp.put t cs) (fun x hx => by
    rcases List.mem_append.1 hx with hx | hx
    · exact h.off x hx
    · obtain rfl := List.mem_singleton.1 hx
      exact fun b hb => absurd hb List.not_mem_nil) (fun x hx => by
    rcases List.mem_append.1 hx with hx | hx
    · exact h.nocd x hx
    · obtain rfl := List.mem_singleton.1 hx
      intro c hc
      cases hc)
theorem DrH.row {w W : World} {C : Nat} {L : List Th} (h : DrH w C L W) (i : Nat) {b : Nat} {t : TypeId} {cs : List Value} (e : L[i]? = some (.ob b t cs)) (cs' : List Value) : DrH w C (L.set i (.ob b t cs')) (W.setRow b cs'.toArray) :=
  h.step (by simp [World.setRow]) (fun _ _ hp => hp.row i e cs') (fun x hx => by
    rcases List.mem_or_eq_of_mem_set hx with hx | rfl
    · exact h.off x hx
    · exact fun b hb => absurd hb List.not_mem_nil) (fun x hx => by
    rcases List.mem_or_eq_of_mem_set hx with hx | rfl
    · exact h.nocd x hx
    · intro c hc
      cases hc)
theorem DrH.set {w W : World} {C : Nat} {L : List Th} (h : DrH w C L W) (i : Nat) {b : Nat} {t : TypeId} {cs : List Value} (e : L[i]? = some (.ob b t cs)) (k : Nat) (v : Value) : DrH w C (L.set i (.ob b t (cs.set k v))) (W.setCell ⟨b, k, none⟩ v) :=
  h.step (by simp [World.setCell]) (fun _ _ hp => hp.set i e k v) (fun x hx => by
    rcases List.mem_or_eq_of_mem_set hx with hx | rfl
    · exact h.off x hx
    · exact fun b hb => absurd hb List.not_mem_nil) (fun x hx => by
    rcases List.mem_or_eq_of_mem_set hx with hx | rfl
    · exact h.nocd x hx
    · intro c hc
      cases hc)
theorem DrH.addrd {w W W' : World} {C : Nat} {L : List Th} (h : DrH w C L W) (hb : Below W.heap.size W W') (R : List Rng) (hR : RdIn W' R) (hr : ∀ r ∈ R, W.heap.size ≤ r.1 ∨ ∃ z ∈ L, r.1 ∈ z.reads) : DrH w C (L ++ [.rd R]) W' :=
  h.step hb.size (fun _ _ hp => hp.addrd hb R hR hr) (fun x hx => by
    rcases List.mem_append.1 hx with hx | hx
    · exact h.off x hx
    · obtain rfl := List.mem_singleton.1 hx
      intro b hb
      obtain ⟨r, hr', rfl⟩ := List.mem_map.1 hb
      rcases hr r hr' with h1 | ⟨z, hz, h1⟩
      · have := h.bes.size
        omega
      · exact h.off z hz _ h1) (fun x hx => by
    rcases List.mem_append.1 hx with hx | hx
    · exact h.nocd x hx
    · obtain rfl := List.mem_singleton.1 hx
      intro c hc
      cases hc)
theorem keep_nocd {B : Nat} {W W' : World} {x : Th} (h : x.In B W) (hc : ∀ c, x ≠ .cd c) (hs : W.heap.size ≤ W'.heap.size) (hx : ∀ b, x.blk = some b → W'.heap[b]? = W.heap[b]?) (hr : ∀ b ∈ x.reads, W'.heap[b]? = W.heap[b]?) : x.In B W' := by
  cases x with
  | ob c t cs => exact ⟨h.1, (hx c rfl).trans h.2⟩
  | sl v e z n xs =>
    refine ⟨h.1, ?_⟩
    rcases h.2 with h0 | ⟨g, cap, cur, hv, hB, hg, hr⟩
    · exact .inl h0
    · exact .inr ⟨g, cap, cur, hv, hB, (hx g (by rw [hv]; rfl)).trans hg, hr⟩
  | cd C => exact absurd rfl (hc C)
  | rd R => exact RdIn.keep h hs hr
theorem DrH.draws {w W W' : World} {C : Nat} {L : List Th} (h : DrH w C L W) (hb : Besides C W W') (hc : CodesOk W' C) : DrH w C L W' := by
  obtain ⟨bes, cod, lt, off, nocd, w', e, hp⟩ := h
  have hsz : w.heap.size ≤ W'.heap.size := Nat.le_trans bes.size hb.size
  have e2 : (W'.heap.extract 0 w.heap.size).size = w.heap.size := by rw [Array.size_extract]; omega
  refine ⟨bes.trans hb, hc, lt, off, nocd, { W' with heap := W'.heap.extract 0 w.heap.size }, e2, ⟨rfl, rfl, rfl, ?_, fun k hk => ?_⟩, fun x hx => ?_, hp.nd⟩
  · show (W'.heap.extract 0 w.heap.size).size ≤ W'.heap.size
    omega
  · have hk' : k < (W'.heap.extract 0 w.heap.size).size := hk
    show W'.heap[k]? = (W'.heap.extract 0 w.heap.size)[k]?
    rw [Array.getElem?_extract]
    rw [if_pos (by omega)]
    simp
  · show x.In (W'.heap.extract 0 w.heap.size).size W'
    rw [e2, ← e]
    exact keep_nocd (hp.all x hx) (nocd x hx) hb.size (fun b h1 => hb.block b ((hp.all x hx).from h1).2 (by have := ((hp.all x hx).from h1).1; omega)) (fun b h1 => hb.block b ((hp.all x hx).reads_lt h1) (by have := off x hx b h1; omega))
theorem set_off {P : Th → Prop} {L : List Th} (h : ∀ x ∈ L, P x) (i : Nat) {y : Th} (hy : P y) : ∀ x ∈ L.set i y, P x := fun x hx => by
  rcases List.mem_or_eq_of_mem_set hx with hx | rfl
  · exact h x hx
  · exact hy
theorem DrH.own {w W : World} {C : Nat} {L : List Th} (h : DrH w C L W) (i : Nat) {v : Value} {t : TypeId} {z n : Nat} {xs : List Value} (e : L[i]? = some (.sl v t z n xs)) : W.ownsRow w.heap.size t z v n xs := h.in i e
theorem DrH.ne {w W : World} {C : Nat} {L : List Th} (h : DrH w C L W) (i j : Nat) {x y : Th} {b c : Nat} (ei : L[i]? = some x) (ej : L[j]? = some y) (hij : i ≠ j) (hb : x.blk = some b) (hc : y.blk = some c) : b ≠ c := fun e => by
  subst e
  exact (apart_at h.nd i j x y ei ej hij).1 b hb |>.1 hc
theorem DrH.grown {w W W' : World} {C : Nat} {L : List Th} (h : DrH w C L W) (i : Nat) {v v' : Value} {t : TypeId} {z n m : Nat} {xs ys : List Value} (e : L[i]? = some (.sl v t z n xs)) (ho : W'.ownsRow w.heap.size t z v' m ys) (hg : W.grownBy W' v.ownBlock) (hb : v'.ownBlock = v.ownBlock ∨ v'.ownBlock = some W.heap.size) : DrH w C (L.set i (.sl v' t z m ys)) W' :=
  h.step hg.size (fun w' ew hp => hp.grown i e (by rw [ew]; exact ho) hg hb) (set_off h.off i (fun b hb => absurd hb List.not_mem_nil)) (set_off h.nocd i (fun c hc => by cases hc))
theorem DrH.join {w W W' : World} {C : Nat} {L M : List Th} (h : DrH w C L W) (k : Hp W M W') (hM : ∀ y ∈ M, y.reads = [] ∧ ∀ C, y ≠ .cd C) : DrH w C (L ++ M) W' :=
  h.step k.old.size (fun _ _ hp => hp.join k hM) (fun x hx => by
    rcases List.mem_append.1 hx with hx | hx
    · exact h.off x hx
    · intro b hb
      rw [(hM x hx).1] at hb
      cases hb) (fun x hx => by
    rcases List.mem_append.1 hx with hx | hx
    · exact h.nocd x hx
    · exact (hM x hx).2)
theorem DrH.append {w W : World} {C : Nat} {L : List Th} (h : DrH w C L W) (i : Nat) {v : Value} {e : TypeId} {z n : Nat} {xs : List Value} (ei : L[i]? = some (.sl v e z n xs)) (j : Nat) {b : Nat} {t' : TypeId} {ys : List Value} (ej : L[j]? = some (.ob b t' ys))
    (ts : TypeId) (ty : TypeId) {bytes : Nat} (ht : Try.prog.underlying ts = some (.slice e)) (he : ElemIs e z bytes) (m c : Nat) (hl : ys.length = m * z) (h1 : ∀ u ∈ ys, u.oneCell' = true) (hn : n + m ≤ 1048576) :
    ∃ v' W', (Builtin.append_ #[ts, ts] ty #[v, .slice (some ⟨b, 0, none⟩) m c]).run Try.prog W = .ok v' W' ∧ DrH w C (L.set i (.sl v' e z (n + m) (xs ++ ys))) W' ∧ (v' = .slice none 0 0 ↔ v = .slice none 0 0 ∧ m = 0) := by
  obtain ⟨inf, zv, hi, hz, hsize, hby, hzs⟩ := he.is
  have hroom := he.room
  have hcell : ∀ q u, ys[q]? = some u → W.cell? ((⟨b, 0, none⟩ : Addr).add q) = some u := fun q u hu => by
    rw [Addr.add_mid, Nat.zero_add]
    exact h.at j ej q hu
  obtain ⟨v', W', hr, h2, h3, h4, h5⟩ := run_append_own_at (P := Try.prog) W w.heap.size ts ty e inf zv z bytes ht hi hz hsize hby hzs he.pos v n xs (h.own i ei) ⟨b, 0, none⟩ m c ys hl hcell h1 (by unfold maxLen; omega) (by
    have := Nat.mul_le_mul hn hroom
    omega) h.bes.size
  exact ⟨v', W', hr, h.grown i ei h2 h3 h5, h4⟩
end Go.Proofs.Ytooaldglgkjjgaa
/- the choices of the drawing package: Grant -/
namespace Go.Proofs.Ytooaldglgkjjgaa
open Go.RowKit
set_option maxRecDepth 20000
set_option linter.unusedSimpArgs false
set_option linter.unusedVariables false

theorem build_lk2 (p s : Int) (W : World) : Sem.run Try.prog (Instr.build 27 #[(0, .int .i64 p), (1, .int .i64 s)]) W = .ok (.agg (lkCells ⟨p, s⟩).toArray) W := by kernel_rfl
theorem build_gr3 (t p s m : Int) (W : World) : Sem.run Try.prog (Instr.build 29 #[(0, .int .i64 t), (1, .agg (lkCells ⟨p, s⟩).toArray), (2, .int .i64 m)]) W = .ok (.agg (grCells ⟨t, p, s, m⟩).toArray) W := by kernel_rfl
/-- beside it: of whom -/
def GrantPost5 (C : Nat) (w : World) (e : Ending) (w' : World) : Prop := ∃ g : Gr, e = .returned (.agg (grCells g).toArray) ∧ GrOk g ∧ g.tx ≤ 5 ∧ Besides C w w' ∧ CodesOk w' C ∧ leftIn w' C ≤ leftIn w C - 1
set_option maxHeartbeats 4000000 in
theorem grant5_any (C : Nat) (w : World) (h : CodesOk w C) :
    Calls Try.prog 16 #[.pointer (some ⟨C, 0, none⟩)] w (GrantPost5 C w) := by
  obtain ⟨fsHUG, huHUG⟩ := under_gr
  have HUG := Lib.hid huHUG
  clear huHUG
  obtain ⟨fsHUK, huHUK⟩ := under_lk
  have HUK := Lib.hid huHUK
  clear huHUK
  obtain ⟨fsHUT, huHUT⟩ := under_tb
  have HUT := Lib.hid huHUT
  clear huHUT
  have hlt := h.lt
  have HLt := Lib.hid hlt
  have h1 := (DrH.start h).put 29 (grCells grNil)
  have HS0 : Hid (DrH w C [.ob w.heap.size 29 (grCells grNil)] (w.alloc (.cells #[.int .i64 0, .int .i64 0, .int .i64 0, .int .i64 0] 29))) := h1
  have HL0 : Hid (leftIn (w.alloc (.cells #[.int .i64 0, .int .i64 0, .int .i64 0, .int .i64 0] 29)) C = leftIn w C) := Lib.hid (leftIn_below (B := w.heap.size) ((Below.refl _ _).alloc (Nat.le_refl _) _) hlt)
  clear h h1 hlt
  go_enter Try.func16, Try.ntmps16
  go_upto_region 1 with (fail)
  generalize (w.alloc (.cells #[.int .i64 0, .int .i64 0, .int .i64 0, .int .i64 0] 29)) = w1 at *
  go_wp2_with fail
  refine (left_small C 5 _ (HS0.out).codes (by decide) (by decide)).mono ?_
  rintro e w3 ⟨n, rfl, n0, n1, hb, hc, hl⟩
  have HS2 : Hid (DrH w C [.ob (w.heap.size) 29 (grCells grNil)] w3) := (HS0.out).draws hb hc
  clear hb hc
  clear HS0
  have HL1 := Lib.hid hl
  have n2 : n < 5 := by omega
  clear hl n1
  have wna : IntKind.i64.wrap (1 + n) = 1 + n := IntWalk.i64_in _ (by omega)
  have wnb : wrap64 (1 + n) = 1 + n := IntWalk.wrap64_in _ (by omega)
  go_wp2_with fail
  refine (left_small C 2 _ (HS2.out).codes (by decide) (by decide)).mono ?_
  rintro e w4 ⟨p, rfl, p0, p1, hb, hc, hl⟩
  have HS3 : Hid (DrH w C [.ob (w.heap.size) 29 (grCells grNil)] w4) := (HS2.out).draws hb hc
  clear hb hc
  clear HS2
  have HL2 := Lib.hid hl
  have p2 : p < 2 := by omega
  clear hl p1
  go_wp2_with fail
  refine (left_small C 2 _ (HS3.out).codes (by decide) (by decide)).mono ?_
  rintro e w5 ⟨s, rfl, s0, s1, hb, hc, hl⟩
  have HS4 : Hid (DrH w C [.ob (w.heap.size) 29 (grCells grNil)] w5) := (HS3.out).draws hb hc
  clear hb hc
  clear HS3
  have HL3 := Lib.hid hl
  have s2 : s < 2 := by omega
  clear hl s1
  go_wp2_with (first | ((with_reducible refine wpList_build_v (d := some 10) 27 (.agg (lkCells (⟨p, s⟩ : Lok)).toArray) ?_ ?_); (intro W; simp only [List.map_toArray, List.map_cons, List.map_nil]; exact build_lk2 _ _ W); simp only [Act.put, List.setIfInBounds_toArray, List.set_cons_zero, List.set_cons_succ]))
  refine (left_small C 2 _ (HS4.out).codes (by decide) (by decide)).mono ?_
  rintro e w6 ⟨m, rfl, m0, m1, hb, hc, hl⟩
  have HS5 : Hid (DrH w C [.ob (w.heap.size) 29 (grCells grNil)] w6) := (HS4.out).draws hb hc
  clear hb hc
  clear HS4
  have HL4 := Lib.hid hl
  have m2 : m < 2 := by omega
  clear hl m1
  have wma : IntKind.i64.wrap (1 + m) = 1 + m := IntWalk.i64_in _ (by omega)
  have wmb : wrap64 (1 + m) = 1 + m := IntWalk.wrap64_in _ (by omega)
  go_wp2_with (first | ((with_reducible refine wpList_build_v (d := some 14) 29 (.agg (grCells (⟨1 + n, p, s, 1 + m⟩ : Gr)).toArray) ?_ ?_); (intro W; simp only [List.map_toArray, List.map_cons, List.map_nil]; exact build_gr3 _ _ _ _ W); simp only [Act.put, List.setIfInBounds_toArray, List.set_cons_zero, List.set_cons_succ]) | ((with_reducible refine wpList_store_ob 29 (.tmp 2) (w.heap.size) (grCells (⟨1 + n, p, s, 1 + m⟩ : Gr)) (grCells grNil) 29 ?_ ?_ ?_ ?_ ?_ ?_ ?_); (exact rfl); (exact rfl); (exact (HS5.out).get 0 rfl); (exact info_gr); (exact rfl); (exact (oneCell_gr _)); skip))
  have HLe : Hid (leftIn (w6.setRow (w.heap.size) (grCells (⟨1 + n, p, s, 1 + m⟩ : Gr)).toArray) C = leftIn w6 C) := Lib.hid (leftIn_of (setRow_other _ _ _ _ (Nat.ne_of_lt HLt.out)))
  have HS6 : Hid (DrH w C [.ob (w.heap.size) 29 (grCells (⟨1 + n, p, s, 1 + m⟩ : Gr))] (w6.setRow (w.heap.size) (grCells (⟨1 + n, p, s, 1 + m⟩ : Gr)).toArray)) := (HS5.out).row 0 rfl (grCells (⟨1 + n, p, s, 1 + m⟩ : Gr))
  clear HS5
  generalize (w6.setRow (w.heap.size) (grCells (⟨1 + n, p, s, 1 + m⟩ : Gr)).toArray) = w7 at *
  refine bodyPost_ret (results_ob Try.results16 _ _ (w.heap.size) (grCells ⟨1 + n, p, s, 1 + m⟩) 29 _ rfl ((HS6.out).get 0 rfl) HUG.out rfl info_gr) rfl ?_
  exact ⟨⟨1 + n, p, s, 1 + m⟩, rfl, ⟨by simp only; omega, by simp only; omega, by simp only; omega, by simp only; omega⟩, by simp only; omega, (HS6.out).bes, (HS6.out).codes, by have l0 := HL0.out; have l1 := HL1.out; have l2 := HL2.out; have l3 := HL3.out; have l4 := HL4.out; have l5 := HLe.out; omega⟩
end Go.Proofs.Ytooaldglgkjjgaa
/- the choices of the drawing package: Locks -/
namespace Go.Proofs.Ytooaldglgkjjgaa
open Go.RowKit
set_option maxRecDepth 20000
set_option linter.unusedSimpArgs false
set_option linter.unusedVariables false

theorem tb3_as {f : FuncId} {args : Array Value} {w w1 : World} {R : List Rng} {x y : Tb × Bool × Int} (h : x = y) (c : Calls Try.prog f args w (TbPost3 w1 R x)) : Calls Try.prog f args w (TbPost3 w1 R y) := h ▸ c
end Go.Proofs.Ytooaldglgkjjgaa
/- what a walk keeps of memory, beside how many choices are left at most -/
namespace Go.Proofs.Ytooaldglgkjjgaa
open Go.RowKit
set_option maxRecDepth 20000

structure HpL (w : World) (C m : Nat) (L : List Th) (W : World) : Prop where
  hp : Hp w L W
  has : .cd C ∈ L
  left : leftIn W C ≤ m
theorem HpL.cod {w W : World} {C m : Nat} {L : List Th} (h : HpL w C m L W) : CodesOk W C := (h.hp.all _ h.has).2.1
theorem HpL.old {w W : World} {C m : Nat} {L : List Th} (h : HpL w C m L W) : Below w.heap.size w W := h.hp.old
theorem HpL.nd {w W : World} {C m : Nat} {L : List Th} (h : HpL w C m L W) : L.Pairwise Th.Apart := h.hp.nd
theorem HpL.get {w W : World} {C m : Nat} {L : List Th} (h : HpL w C m L W) (i : Nat) {b : Nat} {t : TypeId} {cs : List Value} (e : L[i]? = some (.ob b t cs)) : W.heap[b]? = some (.cells cs.toArray t (0, 0)) := h.hp.get i e
theorem HpL.at {w W : World} {C m : Nat} {L : List Th} (h : HpL w C m L W) (i : Nat) {b : Nat} {t : TypeId} {cs : List Value} (e : L[i]? = some (.ob b t cs)) (k : Nat) {v : Value} (hv : cs[k]? = some v) : W.cell? ⟨b, k, none⟩ = some v := h.hp.at i e k hv
theorem HpL.frozen {w W : World} {C m : Nat} {L : List Th} (h : HpL w C m L W) (i : Nat) {b : Nat} {t : TypeId} {cs : List Value} (e : L[i]? = some (.ob b t cs)) (k : Nat) : W.frozen? ⟨b, k, none⟩ = false := h.hp.frozen i e k
theorem HpL.codes {w W : World} {C m : Nat} {L : List Th} (h : HpL w C m L W) (i : Nat) {D : Nat} (e : L[i]? = some (.cd D)) : CodesOk W D := h.hp.codes i e
theorem HpL.reads {w W : World} {C m : Nat} {L : List Th} (h : HpL w C m L W) (i : Nat) {R : List Rng} (e : L[i]? = some (.rd R)) : RdIn W R := h.hp.reads i e
theorem HpL.put {w W : World} {C m : Nat} {L : List Th} (h : HpL w C m L W) (t : TypeId) (cs : List Value) : HpL w C m (L ++ [.ob W.heap.size t cs]) (W.alloc (.cells cs.toArray t)) :=
  ⟨h.hp.put t cs, List.mem_append_left _ h.has, by rw [leftIn_below (B := W.heap.size) ((Below.refl _ _).alloc (Nat.le_refl _) _) h.cod.lt]; exact h.left⟩
theorem HpL.ne_cd {w W : World} {C m : Nat} {L : List Th} (h : HpL w C m L W) (i : Nat) {b : Nat} {t : TypeId} {cs : List Value} (e : L[i]? = some (.ob b t cs)) : C ≠ b := by
  obtain ⟨k, hk⟩ := List.mem_iff_getElem?.1 h.has
  have hki : k ≠ i := fun hki => by subst hki; rw [hk] at e; cases e
  exact h.hp.ne k i hk e hki rfl rfl
theorem HpL.row {w W : World} {C m : Nat} {L : List Th} (h : HpL w C m L W) (i : Nat) {b : Nat} {t : TypeId} {cs : List Value} (e : L[i]? = some (.ob b t cs)) (cs' : List Value) : HpL w C m (L.set i (.ob b t cs')) (W.setRow b cs'.toArray) := by
  refine ⟨h.hp.row i e cs', ?_, by rw [leftIn_of (setRow_other _ _ _ _ (h.ne_cd i e))]; exact h.left⟩
  obtain ⟨k, hk⟩ := List.mem_iff_getElem?.1 h.has
  have hki : k ≠ i := fun hki => by subst hki; rw [hk] at e; cases e
  exact List.mem_iff_getElem?.2 ⟨k, by rw [List.getElem?_set_ne (Ne.symm hki)]; exact hk⟩
theorem HpL.set {w W : World} {C m : Nat} {L : List Th} (h : HpL w C m L W) (i : Nat) {b : Nat} {t : TypeId} {cs : List Value} (e : L[i]? = some (.ob b t cs)) (k : Nat) (v : Value) : HpL w C m (L.set i (.ob b t (cs.set k v))) (W.setCell ⟨b, k, none⟩ v) := by
  refine ⟨h.hp.set i e k v, ?_, by rw [leftIn_of (Below.heap_setCell _ _ _ _ (Ne.symm (h.ne_cd i e).symm))]; exact h.left⟩
  obtain ⟨q, hq⟩ := List.mem_iff_getElem?.1 h.has
  have hki : q ≠ i := fun hki => by subst hki; rw [hq] at e; cases e
  exact List.mem_iff_getElem?.2 ⟨q, by rw [List.getElem?_set_ne (Ne.symm hki)]; exact hq⟩
theorem HpL.calls {w W W' : World} {C m : Nat} {L : List Th} (h : HpL w C m L W) (hb : Below W.heap.size W W') : HpL w C m L W' :=
  ⟨h.hp.calls hb, h.has, by rw [leftIn_below hb h.cod.lt]; exact h.left⟩
theorem HpL.addrd {w W W' : World} {C m : Nat} {L : List Th} (h : HpL w C m L W) (hb : Below W.heap.size W W') (R : List Rng) (hR : RdIn W' R) (hr : ∀ r ∈ R, W.heap.size ≤ r.1 ∨ ∃ z ∈ L, r.1 ∈ z.reads) : HpL w C m (L ++ [.rd R]) W' :=
  ⟨h.hp.addrd hb R hR hr, List.mem_append_left _ h.has, by rw [leftIn_below hb h.cod.lt]; exact h.left⟩
theorem HpL.draws {w W W' : World} {C m m' : Nat} {L : List Th} (h : HpL w C m L W) (i : Nat) (e : L[i]? = some (.cd C)) (hb : Besides C W W') (hc : CodesOk W' C) (hl : leftIn W' C ≤ m') : HpL w C m' L W' := by
  have hp := h.hp.draws i e hb hc
  have : L.set i (.cd C) = L := by
    apply List.ext_getElem?
    intro j
    rw [List.getElem?_set]
    split
    · next hij =>
      subst hij
      rw [e]
      split
      · rfl
      · next hlt => rw [List.getElem?_eq_none (by omega)] at e; cases e
    · rfl
  rw [this] at hp
  exact ⟨hp, h.has, hl⟩
theorem HpL.drew {w W : World} {C m : Nat} {L : List Th} (h : HpL w C m L W) : HpL w C m L W.drew := ⟨h.hp.drew, h.has, h.left⟩
theorem HpL.drewN {w W : World} {C m : Nat} {L : List Th} (h : HpL w C m L W) (q : Nat) : HpL w C m L (W.drewN q) := ⟨h.hp.drewN q, h.has, h.left⟩
theorem HpL.pull {w W : World} {C m : Nat} {L M : List Th} (h : HpL w C m L W) (is : List Nat) (e : is.map (fun i => L[i]?) = M.map some) (hn : M.Pairwise Th.Apart) (hc : .cd C ∈ M) : HpL w C m M W := ⟨h.hp.pull is e hn, hc, h.left⟩
theorem HpL.pick {w W : World} {C m : Nat} {L M : List Th} (h : HpL w C m L W) (is : List Nat) (e : is.map (fun i => L[i]?) = M.map some) : Hold w.heap.size M W := h.hp.pick is e
theorem HpL.mid {w W : World} {C m : Nat} {L : List Th} (h : HpL w C m L W) (i : Nat) {b : Nat} {t : TypeId} {cs : List Value} (e : L[i]? = some (.ob b t cs)) (k : Nat) (vs : List Value) (hv : ∀ j v, vs[j]? = some v → cs[k + j]? = some v) : W.rangeAt b k vs := h.hp.mid i e k vs hv
end Go.Proofs.Ytooaldglgkjjgaa
/- the law WaitsArise: for every input the call returns true -/
namespace Go.Proofs.Ytooaldglgkjjgaa
open Go.RowKit
set_option maxRecDepth 20000
set_option linter.unusedSimpArgs false
set_option linter.unusedVariables false

theorem last_in {l : List Int} (h : l ≠ []) : l[l.length - 1]? = some (l.getLastD 0) := last_at h
set_option maxHeartbeats 16000000 in
theorem arise9_any (x : Option Addr) (len cap : Nat) (zs : List Int) (w : World) (hr : IsRow .u8 w x len cap zs) :
    Calls Try.prog 5 #[.slice x len cap] w fun e w' => e = .returned (.bool true) ∧ Below w.heap.size w w' := by
  have HR := Lib.hid hr
  clear hr
  obtain ⟨fsHUG, huHUG⟩ := under_gr
  have HUG := Lib.hid huHUG
  clear huHUG
  obtain ⟨fsHUK, huHUK⟩ := under_lk
  have HUK := Lib.hid huHUK
  clear huHUK
  obtain ⟨fsHUT, huHUT⟩ := under_tb
  have HUT := Lib.hid huHUT
  clear huHUT
  have HS0 := Lib.hid (Hp.start w)
  go_enter Try.func5, Try.ntmps5
  go_wp2_with fail
  refine (awake9 _).mono ?_
  rintro e w1 ⟨rfl, hb⟩
  have HS1 := Lib.hid (HS0.out.calls hb)
  clear hb HS0
  go_wp2_with fail
  refine (new_hpl 300 (by decide) HS1.out HR.out).mono ?_
  rintro e w2 ⟨rfl, hs, hl⟩
  have hs2 : HpL w w1.heap.size 300 [.cd w1.heap.size] w2 := ⟨hs, List.mem_singleton.2 rfl, hl⟩
  have HS2 := Lib.hid hs2
  clear hs hs2 hl HS1
  generalize w1.heap.size = C at *
  go_wp2_with (first | ((with_reducible refine wpList_alloc_ob 25 (tbCells (.slice none 0 0) (.slice none 0 0)) ?_ ?_); (exact alloc_tb); simp only [Act.put, List.setIfInBounds_toArray, List.set_cons_zero, List.set_cons_succ]))
  have HS6 : Hid (HpL w C 300 [.cd C, .ob (w2.heap.size) 25 (tbCells (.slice none 0 0) (.slice none 0 0))] (w2.alloc (.cells (tbCells (.slice none 0 0) (.slice none 0 0)).toArray 25))) := (HS2.out).put 25 (tbCells (.slice none 0 0) (.slice none 0 0))
  clear HS2
  generalize (w2.alloc (.cells (tbCells (.slice none 0 0) (.slice none 0 0)).toArray 25)) = w6 at *
  generalize w2.heap.size = B6 at *
  go_loopw [] (fun wr => ∃ (t : Tb) (a b : Option Addr) (c d : Nat) (R : List Rng), TbRd (.slice a t.held.length c) (.slice b t.wait.length d) t R ∧ Calm t ∧ Hp w [.cd C, .ob B6 25 (tbCells (.slice a t.held.length c) (.slice b t.wait.length d)), .rd R] wr) (fun wr => leftIn wr C)
  case atStart => exact ⟨tbNil, none, none, 0, 0, [], TbRd.nil _, Calm.nil, HS6.out.hp.addrd (Below.refl _ _) [] (RdIn.nil _) (by simp)⟩
  case round =>
    clear HS6
    obtain ⟨t, a, b, c, d, R, hrd, hst, hs⟩ := hrel
    obtain ⟨m0, hm0⟩ : ∃ m0, leftIn wr C = m0 := ⟨_, rfl⟩
    have hs1 : HpL w C m0 [.cd C, .ob B6 25 (tbCells (.slice a t.held.length c) (.slice b t.wait.length d)), .rd R] wr := ⟨hs, by simp, Nat.le_of_eq hm0⟩
    have HY := Lib.hid hs1
    have HRd := Lib.hid hrd
    have HSt := Lib.hid hst
    have HM0 := Lib.hid hm0
    clear hs hs1 hrd hst hm0
    go_wp2_with fail
    refine (left_any C _ HY.out.cod).mono ?_
    rintro e wq ⟨q, v, rfl, hv, rfl⟩
    have HY2 := Lib.hid (HY.out.drewN q)
    have HV : Hid (0 < v → 0 < m0) := Lib.hid (fun h => by have := hv h; rw [HM0.out] at this; exact this)
    clear hv HY
    by_cases hv0 : 0 < v
    · have HMp := Lib.hid (HV.out hv0)
      have dv : decide (0 < v) = true := decide_eq_true hv0
      clear hv0
      generalize wr.drewN q = w10 at *
      go_wp2_with fail
      refine (grant5_any C _ ((HY2.out).codes 0 rfl)).mono ?_
      rintro e w21 ⟨g, rfl, hgo, hg5, hb, hc, hl⟩
      have HS21 : Hid (HpL w C (m0 - 1) [.cd C, .ob B6 25 (tbCells (.slice a t.held.length c) (.slice b t.wait.length d)), .rd R] w21) := (HY2.out).draws 0 rfl hb hc (by have h9 := (HY2.out).left; omega)
      clear hb hc hl
      clear HY2
      have HGo := Lib.hid hgo
      have HG5 : Hid (1 ≤ g.tx ∧ g.tx ≤ 5) := Lib.hid ⟨hgo.1.1, hg5⟩
      clear hgo hg5
      go_wp2_with (first | ((with_reducible refine wpList_alloc_ob 29 (grCells grNil) ?_ ?_); (exact alloc_gr); simp only [Act.put, List.setIfInBounds_toArray, List.set_cons_zero, List.set_cons_succ]) | ((with_reducible refine wpList_store_ob 29 (.tmp 5) (w21.heap.size) (grCells g) (grCells grNil) 29 ?_ ?_ ?_ ?_ ?_ ?_ ?_); (exact rfl); (exact rfl); (exact ((HS21.out).put 29 (grCells grNil)).get 3 rfl); (exact info_gr); (exact rfl); (exact (oneCell_gr _)); skip))
      refine (left_small C 7 _ ((((HS21.out).put 29 (grCells grNil)).row 3 rfl (grCells g)).codes 0 rfl) (by decide) (by decide)).mono ?_
      rintro e w22 ⟨s, rfl, s0, s1, hb, hc, hl⟩
      have HS22 : Hid (HpL w C (m0 - 1) [.cd C, .ob B6 25 (tbCells (.slice a t.held.length c) (.slice b t.wait.length d)), .rd R, .ob (w21.heap.size) 29 (grCells g)] w22) := (((HS21.out).put 29 (grCells grNil)).row 3 rfl (grCells g)).draws 0 rfl hb hc (by have h9 := (((HS21.out).put 29 (grCells grNil)).row 3 rfl (grCells g)).left; omega)
      clear hb hc hl
      clear HS21
      generalize w21.heap.size = B21 at *
      have HG := Lib.hid HGo.out.good
      have HTg := Lib.hid HSt.out.set.ok.good
      go_upto_block 2 with (fail)
      have HS23 : Hid (HpL w C (m0 - 1) [.cd C, .ob B6 25 (tbCells (.slice a t.held.length c) (.slice b t.wait.length d)), .ob B21 29 (grCells g), .rd R] w22) := HS22.out.pull [0, 1, 3, 2] rfl (pull_nd HS22.out.nd [0, 1, 3, 2] rfl (by decide)) (by simp)
      clear HS22
      go_cut [] (fun wz => ∃ (t2 : Tb) (a b : Option Addr) (c d : Nat) (R : List Rng), TbRd (.slice a t2.held.length c) (.slice b t2.wait.length d) t2 R ∧ Calm t2 ∧ HpL w C (m0 - 1) [.cd C, .ob B6 25 (tbCells (.slice a t2.held.length c) (.slice b t2.wait.length d)), .ob B21 29 (grCells g), .rd R] wz)
      case first =>
        by_cases hs5 : s = 4
        · obtain ⟨e1, n1⟩ := eq_facts hs5
          clear hs5 s0 s1
          have HOk := Lib.hid (HSt.out.cancel g.tx)
          have g0 : w22.cell? ⟨B21, 0, none⟩ = some (.int .i64 g.tx) := HS23.out.at 2 rfl 0 rfl
          have g1 : w22.cell? ⟨B21, 1, none⟩ = some (.int .i64 g.page) := HS23.out.at 2 rfl 1 rfl
          have g2 : w22.cell? ⟨B21, 2, none⟩ = some (.int .i64 g.slot) := HS23.out.at 2 rfl 2 rfl
          have g3 : w22.cell? ⟨B21, 3, none⟩ = some (.int .i64 g.mode) := HS23.out.at 2 rfl 3 rfl
          go_wp2_with (first | ((with_reducible refine wpList_load_ob 25 (.tmp 4) B6 (tbCells (.slice a t.held.length c) (.slice b t.wait.length d)) 25 HUT.out ?_ ?_ ?_ ?_ ?_); (exact rfl); (exact (HS23.out).get 1 rfl); (exact rfl); (exact info_tb); simp only [Act.put, List.setIfInBounds_toArray, List.set_cons_zero, List.set_cons_succ]))
          refine (pcancel_any g.tx _ HRd.out ((HS23.out).reads 3 rfl) HTg.out).mono ?_
          rintro e w111 ⟨h9, v9, R9, rfl, hrd2, hin2, hnew2, hb⟩
          obtain ⟨a9, c9, rfl, _, _⟩ := hrd2.1.shape
          obtain ⟨b9, d9, rfl, _, _⟩ := hrd2.2.shape
          have Hrd9 := Lib.hid hrd2
          have HS111 : Hid (HpL w C (m0 - 1) [.cd C, .ob B6 25 (tbCells (.slice a t.held.length c) (.slice b t.wait.length d)), .ob B21 29 (grCells g), .rd R, .rd R9] w111) := (HS23.out).addrd hb R9 hin2 (fun r hr => (hnew2 r hr).elim .inl (fun h => .inr ⟨.rd R, List.mem_of_getElem? (i := 3) rfl, h⟩))
          clear hb hin2 hrd2 hnew2
          clear HS23
          go_wp2_with (first | ((with_reducible refine wpList_store_ob 25 (.tmp 4) B6 (tbCells (.slice a9 (cancelR t g.tx).held.length c9) (.slice b9 (cancelR t g.tx).wait.length d9)) (tbCells (.slice a t.held.length c) (.slice b t.wait.length d)) 25 ?_ ?_ ?_ ?_ ?_ ?_ ?_); (exact rfl); (exact rfl); (exact (HS111.out).get 1 rfl); (exact info_tb); (exact rfl); (exact (oneCell_tb _ _ _ _ _ _)); skip))
          have HS112 : Hid (HpL w C (m0 - 1) [.cd C, .ob B6 25 (tbCells (.slice a9 (cancelR t g.tx).held.length c9) (.slice b9 (cancelR t g.tx).wait.length d9)), .ob B21 29 (grCells g), .rd R, .rd R9] (w111.setRow B6 (tbCells (.slice a9 (cancelR t g.tx).held.length c9) (.slice b9 (cancelR t g.tx).wait.length d9)).toArray)) := (HS111.out).row 1 rfl (tbCells (.slice a9 (cancelR t g.tx).held.length c9) (.slice b9 (cancelR t g.tx).wait.length d9))
          clear HS111
          generalize (w111.setRow B6 (tbCells (.slice a9 (cancelR t g.tx).held.length c9) (.slice b9 (cancelR t g.tx).wait.length d9)).toArray) = w112 at *
          clear g0 g1 g2 g3
          have HS113 : Hid (HpL w C (m0 - 1) [.cd C, .ob B6 25 (tbCells (.slice a9 (cancelR t g.tx).held.length c9) (.slice b9 (cancelR t g.tx).wait.length d9)), .ob B21 29 (grCells g), .rd R9] w112) := HS112.out.pull [0, 1, 2, 4] rfl (pull_nd HS112.out.nd [0, 1, 2, 4] rfl (by decide)) (by simp)
          clear HS112
          go_wp2_with fail
          go_meet
          exact ⟨_, _, _, _, _, R9, Hrd9.out, HOk.out.1, HS113.out⟩
        · obtain ⟨e1, n1⟩ := ne_facts hs5
          by_cases hs6 : s = 5
          · obtain ⟨e2, n2⟩ := eq_facts hs6
            clear hs5 hs6 s0 s1
            have HOk := Lib.hid (HSt.out.drop g.tx g.page g.slot)
            have g0 : w22.cell? ⟨B21, 0, none⟩ = some (.int .i64 g.tx) := HS23.out.at 2 rfl 0 rfl
            have g1 : w22.cell? ⟨B21, 1, none⟩ = some (.int .i64 g.page) := HS23.out.at 2 rfl 1 rfl
            have g2 : w22.cell? ⟨B21, 2, none⟩ = some (.int .i64 g.slot) := HS23.out.at 2 rfl 2 rfl
            have g3 : w22.cell? ⟨B21, 3, none⟩ = some (.int .i64 g.mode) := HS23.out.at 2 rfl 3 rfl
            go_wp2_with (first | ((with_reducible refine wpList_load_ob 25 (.tmp 4) B6 (tbCells (.slice a t.held.length c) (.slice b t.wait.length d)) 25 HUT.out ?_ ?_ ?_ ?_ ?_); (exact rfl); (exact (HS23.out).get 1 rfl); (exact rfl); (exact info_tb); simp only [Act.put, List.setIfInBounds_toArray, List.set_cons_zero, List.set_cons_succ]) | ((with_reducible refine wpList_load_at 27 (.tmp 71) B21 (1) (lkCells g.lock) HUK.out ?_ ?_ ?_ ?_ ?_); (exact rfl); (exact (HS23.out).mid 2 rfl (1) _ ((mid_lk g))); (exact rfl); (exact info_lk); simp only [Act.put, List.setIfInBounds_toArray, List.set_cons_zero, List.set_cons_succ]))
            refine (pdrop_any g.tx g.lock _ HRd.out ((HS23.out).reads 3 rfl) HTg.out HG.out.lock).mono ?_
            rintro e w141 ⟨h9, v9, R9, rfl, hrd2, hin2, hnew2, hb⟩
            obtain ⟨a9, c9, rfl, _, _⟩ := hrd2.1.shape
            obtain ⟨b9, d9, rfl, _, _⟩ := hrd2.2.shape
            have Hrd9 := Lib.hid hrd2
            have HS141 : Hid (HpL w C (m0 - 1) [.cd C, .ob B6 25 (tbCells (.slice a t.held.length c) (.slice b t.wait.length d)), .ob B21 29 (grCells g), .rd R, .rd R9] w141) := (HS23.out).addrd hb R9 hin2 (fun r hr => (hnew2 r hr).elim .inl (fun h => .inr ⟨.rd R, List.mem_of_getElem? (i := 3) rfl, h⟩))
            clear hb hin2 hrd2 hnew2
            clear HS23
            go_wp2_with (first | ((with_reducible refine wpList_store_ob 25 (.tmp 4) B6 (tbCells (.slice a9 (dropR t g.tx g.page g.slot).held.length c9) (.slice b9 (dropR t g.tx g.page g.slot).wait.length d9)) (tbCells (.slice a t.held.length c) (.slice b t.wait.length d)) 25 ?_ ?_ ?_ ?_ ?_ ?_ ?_); (exact rfl); (exact rfl); (exact (HS141.out).get 1 rfl); (exact info_tb); (exact rfl); (exact (oneCell_tb _ _ _ _ _ _)); skip))
            have HS142 : Hid (HpL w C (m0 - 1) [.cd C, .ob B6 25 (tbCells (.slice a9 (dropR t g.tx g.page g.slot).held.length c9) (.slice b9 (dropR t g.tx g.page g.slot).wait.length d9)), .ob B21 29 (grCells g), .rd R, .rd R9] (w141.setRow B6 (tbCells (.slice a9 (dropR t g.tx g.page g.slot).held.length c9) (.slice b9 (dropR t g.tx g.page g.slot).wait.length d9)).toArray)) := (HS141.out).row 1 rfl (tbCells (.slice a9 (dropR t g.tx g.page g.slot).held.length c9) (.slice b9 (dropR t g.tx g.page g.slot).wait.length d9))
            clear HS141
            generalize (w141.setRow B6 (tbCells (.slice a9 (dropR t g.tx g.page g.slot).held.length c9) (.slice b9 (dropR t g.tx g.page g.slot).wait.length d9)).toArray) = w142 at *
            clear g0 g1 g2 g3
            have HS143 : Hid (HpL w C (m0 - 1) [.cd C, .ob B6 25 (tbCells (.slice a9 (dropR t g.tx g.page g.slot).held.length c9) (.slice b9 (dropR t g.tx g.page g.slot).wait.length d9)), .ob B21 29 (grCells g), .rd R9] w142) := HS142.out.pull [0, 1, 2, 4] rfl (pull_nd HS142.out.nd [0, 1, 2, 4] rfl (by decide)) (by simp)
            clear HS142
            go_wp2_with fail
            go_meet
            exact ⟨_, _, _, _, _, R9, Hrd9.out, HOk.out.1, HS143.out⟩
          · obtain ⟨e2, n2⟩ := ne_facts hs6
            by_cases hs7 : s = 6
            · obtain ⟨e3, n3⟩ := eq_facts hs7
              clear hs5 hs6 hs7 s0 s1
              have HOk := Lib.hid (HSt.out.release g.tx)
              have g0 : w22.cell? ⟨B21, 0, none⟩ = some (.int .i64 g.tx) := HS23.out.at 2 rfl 0 rfl
              have g1 : w22.cell? ⟨B21, 1, none⟩ = some (.int .i64 g.page) := HS23.out.at 2 rfl 1 rfl
              have g2 : w22.cell? ⟨B21, 2, none⟩ = some (.int .i64 g.slot) := HS23.out.at 2 rfl 2 rfl
              have g3 : w22.cell? ⟨B21, 3, none⟩ = some (.int .i64 g.mode) := HS23.out.at 2 rfl 3 rfl
              go_wp2_with (first | ((with_reducible refine wpList_load_ob 25 (.tmp 4) B6 (tbCells (.slice a t.held.length c) (.slice b t.wait.length d)) 25 HUT.out ?_ ?_ ?_ ?_ ?_); (exact rfl); (exact (HS23.out).get 1 rfl); (exact rfl); (exact info_tb); simp only [Act.put, List.setIfInBounds_toArray, List.set_cons_zero, List.set_cons_succ]))
              refine (prelease_any g.tx _ HRd.out ((HS23.out).reads 3 rfl) HTg.out).mono ?_
              rintro e w171 ⟨h9, v9, R9, rfl, hrd2, hin2, hnew2, hb⟩
              obtain ⟨a9, c9, rfl, _, _⟩ := hrd2.1.shape
              obtain ⟨b9, d9, rfl, _, _⟩ := hrd2.2.shape
              have Hrd9 := Lib.hid hrd2
              have HS171 : Hid (HpL w C (m0 - 1) [.cd C, .ob B6 25 (tbCells (.slice a t.held.length c) (.slice b t.wait.length d)), .ob B21 29 (grCells g), .rd R, .rd R9] w171) := (HS23.out).addrd hb R9 hin2 (fun r hr => (hnew2 r hr).elim .inl (fun h => .inr ⟨.rd R, List.mem_of_getElem? (i := 3) rfl, h⟩))
              clear hb hin2 hrd2 hnew2
              clear HS23
              go_wp2_with (first | ((with_reducible refine wpList_store_ob 25 (.tmp 4) B6 (tbCells (.slice a9 (releaseR t g.tx).held.length c9) (.slice b9 (releaseR t g.tx).wait.length d9)) (tbCells (.slice a t.held.length c) (.slice b t.wait.length d)) 25 ?_ ?_ ?_ ?_ ?_ ?_ ?_); (exact rfl); (exact rfl); (exact (HS171.out).get 1 rfl); (exact info_tb); (exact rfl); (exact (oneCell_tb _ _ _ _ _ _)); skip))
              have HS172 : Hid (HpL w C (m0 - 1) [.cd C, .ob B6 25 (tbCells (.slice a9 (releaseR t g.tx).held.length c9) (.slice b9 (releaseR t g.tx).wait.length d9)), .ob B21 29 (grCells g), .rd R, .rd R9] (w171.setRow B6 (tbCells (.slice a9 (releaseR t g.tx).held.length c9) (.slice b9 (releaseR t g.tx).wait.length d9)).toArray)) := (HS171.out).row 1 rfl (tbCells (.slice a9 (releaseR t g.tx).held.length c9) (.slice b9 (releaseR t g.tx).wait.length d9))
              clear HS171
              generalize (w171.setRow B6 (tbCells (.slice a9 (releaseR t g.tx).held.length c9) (.slice b9 (releaseR t g.tx).wait.length d9)).toArray) = w172 at *
              clear g0 g1 g2 g3
              have HS173 : Hid (HpL w C (m0 - 1) [.cd C, .ob B6 25 (tbCells (.slice a9 (releaseR t g.tx).held.length c9) (.slice b9 (releaseR t g.tx).wait.length d9)), .ob B21 29 (grCells g), .rd R9] w172) := HS172.out.pull [0, 1, 2, 4] rfl (pull_nd HS172.out.nd [0, 1, 2, 4] rfl (by decide)) (by simp)
              clear HS172
              go_wp2_with fail
              go_meet
              exact ⟨_, _, _, _, _, R9, Hrd9.out, HOk.out.1, HS173.out⟩
            · obtain ⟨e3, n3⟩ := ne_facts hs7
              clear hs5 hs6 hs7 s0 s1
              obtain ⟨u, bb, cd, hu⟩ : ∃ u bb cd, requestR t g = (u, bb, cd) := ⟨_, _, _, rfl⟩
              obtain ⟨cy, hcy⟩ : ∃ cy, cycR u g.tx = cy := ⟨_, rfl⟩
              have HCl : Hid (cy.length ≤ 1000000) := Lib.hid (by rw [← hcy]; have := cycR_len u g.tx; omega)
              have HSu : Hid (cd = 0 → Settled u ∧ (cy = [] → Calm u) ∧ Calm (cancelR u g.tx)) := Lib.hid (fun hc0 => by
                have h := HSt.out.request HG5.out (by rw [hu]; exact hc0)
                rw [hu, hcy] at h
                exact ⟨h.1, h.2.2.2.1, h.2.2.2.2.1⟩)
              have HUe := Lib.hid hu
              have HWo : Hid (cd = 0 → ∀ W, RdIn W R → Calls Try.prog 17 #[.agg (tbCells (.slice a t.held.length c) (.slice b t.wait.length d)).toArray, .agg (grCells g).toArray] W (WouldPost W (cy, 0))) := Lib.hid (fun hc0 W h => by
                have h9 := pwould_any g W HRd.out h HTg.out HG.out
                have e : wouldR t g = (cy, 0) := by unfold wouldR; rw [hu, if_pos hc0, hcy]
                rwa [e] at h9)
              have HCy := Lib.hid hcy
              clear hu hcy
              go_wp2_with (first | ((with_reducible refine wpList_load_ob 25 (.tmp 4) B6 (tbCells (.slice a t.held.length c) (.slice b t.wait.length d)) 25 HUT.out ?_ ?_ ?_ ?_ ?_); (exact rfl); (exact (HS23.out).get 1 rfl); (exact rfl); (exact info_tb); simp only [Act.put, List.setIfInBounds_toArray, List.set_cons_zero, List.set_cons_succ]) | ((with_reducible refine wpList_load_ob 29 (.tmp 5) B21 (grCells g) 29 HUG.out ?_ ?_ ?_ ?_ ?_); (exact rfl); (exact (HS23.out).get 2 rfl); (exact rfl); (exact info_gr); simp only [Act.put, List.setIfInBounds_toArray, List.set_cons_zero, List.set_cons_succ]))
              refine (tb3_as HUe.out (prequest_any g _ HRd.out ((HS23.out).reads 3 rfl) HTg.out HG.out)).mono ?_
              rintro e w201 ⟨h9, v9, R9, rfl, hrd2, hin2, hnew2, hb⟩
              obtain ⟨a9, c9, rfl, _, _⟩ := hrd2.1.shape
              obtain ⟨b9, d9, rfl, _, _⟩ := hrd2.2.shape
              have Hrd9 := Lib.hid hrd2
              have HS201 : Hid (HpL w C (m0 - 1) [.cd C, .ob B6 25 (tbCells (.slice a t.held.length c) (.slice b t.wait.length d)), .ob B21 29 (grCells g), .rd R, .rd R9] w201) := (HS23.out).addrd hb R9 hin2 (fun r hr => (hnew2 r hr).elim .inl (fun h => .inr ⟨.rd R, List.mem_of_getElem? (i := 3) rfl, h⟩))
              clear hb hin2 hrd2 hnew2
              clear HS23
              go_upto_region 9 with (first | ((with_reducible refine wpList_alloc_ob 25 (tbCells (.slice none 0 0) (.slice none 0 0)) ?_ ?_); (exact alloc_tb); simp only [Act.put, List.setIfInBounds_toArray, List.set_cons_zero, List.set_cons_succ]) | ((with_reducible refine wpList_store_ob 25 (.tmp 6) (w201.heap.size) (tbCells (.slice a9 u.held.length c9) (.slice b9 u.wait.length d9)) (tbCells (.slice none 0 0) (.slice none 0 0)) 25 ?_ ?_ ?_ ?_ ?_ ?_ ?_); (exact rfl); (exact rfl); (exact ((HS201.out).put 25 (tbCells (.slice none 0 0) (.slice none 0 0))).get 5 rfl); (exact info_tb); (exact rfl); (exact (oneCell_tb _ _ _ _ _ _)); skip))
              have HS202 : Hid (HpL w C (m0 - 1) [.cd C, .ob B6 25 (tbCells (.slice a t.held.length c) (.slice b t.wait.length d)), .ob B21 29 (grCells g), .rd R, .rd R9, .ob (w201.heap.size) 25 (tbCells (.slice a9 u.held.length c9) (.slice b9 u.wait.length d9))] ((w201.alloc (.cells (tbCells (.slice none 0 0) (.slice none 0 0)).toArray 25)).setRow (w201.heap.size) (tbCells (.slice a9 u.held.length c9) (.slice b9 u.wait.length d9)).toArray)) := ((HS201.out).put 25 (tbCells (.slice none 0 0) (.slice none 0 0))).row 5 rfl (tbCells (.slice a9 u.held.length c9) (.slice b9 u.wait.length d9))
              clear HS201
              generalize ((w201.alloc (.cells (tbCells (.slice none 0 0) (.slice none 0 0)).toArray 25)).setRow (w201.heap.size) (tbCells (.slice a9 u.held.length c9) (.slice b9 u.wait.length d9)).toArray) = w202 at *
              generalize w201.heap.size = B201 at *
              by_cases hc0 : cd = 0
              · obtain ⟨e4, n4⟩ := eq_facts hc0
                obtain ⟨hsu, hcu, hca⟩ := HSu.out hc0
                have HSv := Lib.hid hsu
                have HCu := Lib.hid hcu
                have HCa := Lib.hid hca
                have HWp := Lib.hid (HWo.out hc0)
                subst hc0
                clear hsu hcu hca HSu HWo
                go_upto_region 10 with (fail)
                have g0 : w202.cell? ⟨B21, 0, none⟩ = some (.int .i64 g.tx) := HS202.out.at 2 rfl 0 rfl
                have g1 : w202.cell? ⟨B21, 1, none⟩ = some (.int .i64 g.page) := HS202.out.at 2 rfl 1 rfl
                have g2 : w202.cell? ⟨B21, 2, none⟩ = some (.int .i64 g.slot) := HS202.out.at 2 rfl 2 rfl
                have g3 : w202.cell? ⟨B21, 3, none⟩ = some (.int .i64 g.mode) := HS202.out.at 2 rfl 3 rfl
                go_wp2_with (first | ((with_reducible refine wpList_load_ob 25 (.tmp 4) B6 (tbCells (.slice a t.held.length c) (.slice b t.wait.length d)) 25 HUT.out ?_ ?_ ?_ ?_ ?_); (exact rfl); (exact (HS202.out).get 1 rfl); (exact rfl); (exact info_tb); simp only [Act.put, List.setIfInBounds_toArray, List.set_cons_zero, List.set_cons_succ]) | ((with_reducible refine wpList_load_ob 29 (.tmp 5) B21 (grCells g) 29 HUG.out ?_ ?_ ?_ ?_ ?_); (exact rfl); (exact (HS202.out).get 2 rfl); (exact rfl); (exact info_gr); simp only [Act.put, List.setIfInBounds_toArray, List.set_cons_zero, List.set_cons_succ]))
                refine (HWp.out _ ((HS202.out).reads 3 rfl)).mono ?_
                rintro e w203 ⟨v8, R8, rfl, hrd2, hin2, hnew2, hb⟩
                obtain ⟨a8, c8, rfl, hl8, hm8, hg8⟩ := hrd2.cells
                have Hrd8 := Lib.hid hrd2
                have Hnw8 := Lib.hid hnew2
                have Hgc8 := Lib.hid hg8
                clear hg8
                have HS203 : Hid (HpL w C (m0 - 1) [.cd C, .ob B6 25 (tbCells (.slice a t.held.length c) (.slice b t.wait.length d)), .ob B21 29 (grCells g), .rd R, .rd R9, .ob B201 25 (tbCells (.slice a9 u.held.length c9) (.slice b9 u.wait.length d9)), .rd R8] w203) := (HS202.out).addrd hb R8 hin2 (fun r hr => .inl (hnew2 r hr))
                clear hb hin2 hrd2 hnew2
                clear HS202
                go_upto_region 11 with fail
                have HS204 : Hid (HpL w C (m0 - 1) [.cd C, .ob B6 25 (tbCells (.slice a t.held.length c) (.slice b t.wait.length d)), .ob B21 29 (grCells g), .rd R, .rd R9, .ob B201 25 (tbCells (.slice a9 u.held.length c9) (.slice b9 u.wait.length d9)), .rd R8] w203) := HS203.out
                clear HS203
                clear g0 g1 g2 g3
                have HPc : Hid (∀ W, RdIn W R9 → Calls Try.prog 14 #[.agg (tbCells (.slice a9 u.held.length c9) (.slice b9 u.wait.length d9)).toArray, .int .i64 g.tx] W (IntsPost W cy)) := Lib.hid (fun W h => by have := pcycle_any g.tx W Hrd9.out h HSv.out.ok.good; rwa [HCy.out] at this)
                have g0 : w203.cell? ⟨B21, 0, none⟩ = some (.int .i64 g.tx) := HS204.out.at 2 rfl 0 rfl
                have g1 : w203.cell? ⟨B21, 1, none⟩ = some (.int .i64 g.page) := HS204.out.at 2 rfl 1 rfl
                have g2 : w203.cell? ⟨B21, 2, none⟩ = some (.int .i64 g.slot) := HS204.out.at 2 rfl 2 rfl
                have g3 : w203.cell? ⟨B21, 3, none⟩ = some (.int .i64 g.mode) := HS204.out.at 2 rfl 3 rfl
                go_wp2_with (first | ((with_reducible refine wpList_load_ob_w 25 (.tmp 6) B201 (tbCells (.slice a9 u.held.length c9) (.slice b9 u.wait.length d9)) 25 HUT.out ?_ ?_ ?_ ?_ ?_ ?_); (exact rfl); (exact rfl); (exact (HS204.out).get 5 rfl); (exact rfl); (exact info_tb); simp only [Act.put, List.setIfInBounds_toArray, List.set_cons_zero, List.set_cons_succ]))
                refine (HPc.out _ ((HS204.out).reads 4 rfl)).mono ?_
                rintro e w204 ⟨v7, R7, rfl, hrd2, hin2, hnew2, hb⟩
                obtain ⟨a7, c7, rfl, hl7, hm7, hg7⟩ := hrd2.cells
                have Hrd7 := Lib.hid hrd2
                have Hnw7 := Lib.hid hnew2
                have Hgc7 := Lib.hid hg7
                clear hg7
                have HS205 : Hid (HpL w C (m0 - 1) [.cd C, .ob B6 25 (tbCells (.slice a t.held.length c) (.slice b t.wait.length d)), .ob B21 29 (grCells g), .rd R, .rd R9, .ob B201 25 (tbCells (.slice a9 u.held.length c9) (.slice b9 u.wait.length d9)), .rd R8, .rd R7] w204) := (HS204.out).addrd hb R7 hin2 (fun r hr => .inl (hnew2 r hr))
                clear hb hin2 hrd2 hnew2
                clear HS204
                go_wp2_with fail
                refine (rInts_same _ Hrd8.out ((HS205.out).reads 6 rfl) Hrd7.out ((HS205.out).reads 7 rfl) HCl.out).mono ?_
                rintro e w205 ⟨rfl, hb⟩
                have HS206 : Hid (HpL w C (m0 - 1) [.cd C, .ob B6 25 (tbCells (.slice a t.held.length c) (.slice b t.wait.length d)), .ob B21 29 (grCells g), .rd R, .rd R9, .ob B201 25 (tbCells (.slice a9 u.held.length c9) (.slice b9 u.wait.length d9)), .rd R8, .rd R7] w205) := (HS205.out).calls hb
                clear hb
                clear HS205
                go_upto_region 13 with fail
                have HS207 : Hid (HpL w C (m0 - 1) [.cd C, .ob B6 25 (tbCells (.slice a t.held.length c) (.slice b t.wait.length d)), .ob B21 29 (grCells g), .rd R, .rd R9, .ob B201 25 (tbCells (.slice a9 u.held.length c9) (.slice b9 u.wait.length d9)), .rd R8, .rd R7] w205) := HS206.out
                clear HS206
                clear g0 g1 g2 g3
                clear HPc HCl HUe
                have HS208 : Hid (HpL w C (m0 - 1) [.cd C, .ob B6 25 (tbCells (.slice a t.held.length c) (.slice b t.wait.length d)), .ob B21 29 (grCells g), .ob B201 25 (tbCells (.slice a9 u.held.length c9) (.slice b9 u.wait.length d9)), .rd R9] w205) := HS207.out.pull [0, 1, 2, 5, 4] rfl (pull_nd HS207.out.nd [0, 1, 2, 5, 4] rfl (by decide)) (by simp)
                clear HS207
                go_upto_region 14 with (first | ((with_reducible refine wpList_load_ob 25 (.tmp 6) B201 (tbCells (.slice a9 u.held.length c9) (.slice b9 u.wait.length d9)) 25 HUT.out ?_ ?_ ?_ ?_ ?_); (exact rfl); (exact (HS208.out).get 3 rfl); (exact rfl); (exact info_tb); simp only [Act.put, List.setIfInBounds_toArray, List.set_cons_zero, List.set_cons_succ]) | ((with_reducible refine wpList_store_ob 25 (.tmp 4) B6 (tbCells (.slice a9 u.held.length c9) (.slice b9 u.wait.length d9)) (tbCells (.slice a t.held.length c) (.slice b t.wait.length d)) 25 ?_ ?_ ?_ ?_ ?_ ?_ ?_); (exact rfl); (exact rfl); (exact (HS208.out).get 1 rfl); (exact info_tb); (exact rfl); (exact (oneCell_tb _ _ _ _ _ _)); skip))
                have HS209 : Hid (HpL w C (m0 - 1) [.cd C, .ob B6 25 (tbCells (.slice a9 u.held.length c9) (.slice b9 u.wait.length d9)), .ob B21 29 (grCells g), .ob B201 25 (tbCells (.slice a9 u.held.length c9) (.slice b9 u.wait.length d9)), .rd R9] (w205.setRow B6 (tbCells (.slice a9 u.held.length c9) (.slice b9 u.wait.length d9)).toArray)) := (HS208.out).row 1 rfl (tbCells (.slice a9 u.held.length c9) (.slice b9 u.wait.length d9))
                clear HS208
                generalize (w205.setRow B6 (tbCells (.slice a9 u.held.length c9) (.slice b9 u.wait.length d9)).toArray) = w206 at *
                by_cases hcn : cy = []
                · have hl9 : ((cy.length : Nat) : Int) = 0 := by rw [hcn]; rfl
                  have hl8 : cy.length = 0 := by rw [hcn]; rfl
                  have HCal := Lib.hid (HCu.out hcn)
                  clear hcn
                  have HS210 : Hid (HpL w C (m0 - 1) [.cd C, .ob B6 25 (tbCells (.slice a9 u.held.length c9) (.slice b9 u.wait.length d9)), .ob B21 29 (grCells g), .rd R9] w206) := HS209.out.pull [0, 1, 2, 4] rfl (pull_nd HS209.out.nd [0, 1, 2, 4] rfl (by decide)) (by simp)
                  clear HS209
                  go_wp2_with fail
                  go_meet
                  exact ⟨u, _, _, _, _, R9, Hrd9.out, HCal.out, HS210.out⟩
                · have hlp : 0 < cy.length := List.length_pos_iff.2 hcn
                  have dl : decide ((0 : Int) < (cy.length : Int)) = true := decide_eq_true (by omega)
                  clear hcn
                  have HS221 : Hid (HpL w C (m0 - 1) [.cd C, .ob B6 25 (tbCells (.slice a9 u.held.length c9) (.slice b9 u.wait.length d9)), .ob B21 29 (grCells g), .rd R9] w206) := HS209.out.pull [0, 1, 2, 4] rfl (pull_nd HS209.out.nd [0, 1, 2, 4] rfl (by decide)) (by simp)
                  clear HS209
                  go_upto_region 15 with (fail)
                  clear dl
                  have g0 : w206.cell? ⟨B21, 0, none⟩ = some (.int .i64 g.tx) := HS221.out.at 2 rfl 0 rfl
                  have g1 : w206.cell? ⟨B21, 1, none⟩ = some (.int .i64 g.page) := HS221.out.at 2 rfl 1 rfl
                  have g2 : w206.cell? ⟨B21, 2, none⟩ = some (.int .i64 g.slot) := HS221.out.at 2 rfl 2 rfl
                  have g3 : w206.cell? ⟨B21, 3, none⟩ = some (.int .i64 g.mode) := HS221.out.at 2 rfl 3 rfl
                  go_wp2_with (first | ((with_reducible refine wpList_load_ob 25 (.tmp 4) B6 (tbCells (.slice a9 u.held.length c9) (.slice b9 u.wait.length d9)) 25 HUT.out ?_ ?_ ?_ ?_ ?_); (exact rfl); (exact (HS221.out).get 1 rfl); (exact rfl); (exact info_tb); simp only [Act.put, List.setIfInBounds_toArray, List.set_cons_zero, List.set_cons_succ]))
                  refine (pcancel_any g.tx _ Hrd9.out ((HS221.out).reads 3 rfl) HSv.out.ok.good).mono ?_
                  rintro e w217 ⟨h9, v9, R6, rfl, hrd2, hin2, hnew2, hb⟩
                  obtain ⟨a6, c6, rfl, _, _⟩ := hrd2.1.shape
                  obtain ⟨b6, d6, rfl, _, _⟩ := hrd2.2.shape
                  have Hrd6 := Lib.hid hrd2
                  have HS222 : Hid (HpL w C (m0 - 1) [.cd C, .ob B6 25 (tbCells (.slice a9 u.held.length c9) (.slice b9 u.wait.length d9)), .ob B21 29 (grCells g), .rd R9, .rd R6] w217) := (HS221.out).addrd hb R6 hin2 (fun r hr => (hnew2 r hr).elim .inl (fun h => .inr ⟨.rd R9, List.mem_of_getElem? (i := 3) rfl, h⟩))
                  clear hb hin2 hrd2 hnew2
                  clear HS221
                  go_wp2_with (first | ((with_reducible refine wpList_store_ob 25 (.tmp 4) B6 (tbCells (.slice a6 (cancelR u g.tx).held.length c6) (.slice b6 (cancelR u g.tx).wait.length d6)) (tbCells (.slice a9 u.held.length c9) (.slice b9 u.wait.length d9)) 25 ?_ ?_ ?_ ?_ ?_ ?_ ?_); (exact rfl); (exact rfl); (exact (HS222.out).get 1 rfl); (exact info_tb); (exact rfl); (exact (oneCell_tb _ _ _ _ _ _)); skip))
                  have HS223 : Hid (HpL w C (m0 - 1) [.cd C, .ob B6 25 (tbCells (.slice a6 (cancelR u g.tx).held.length c6) (.slice b6 (cancelR u g.tx).wait.length d6)), .ob B21 29 (grCells g), .rd R9, .rd R6] (w217.setRow B6 (tbCells (.slice a6 (cancelR u g.tx).held.length c6) (.slice b6 (cancelR u g.tx).wait.length d6)).toArray)) := (HS222.out).row 1 rfl (tbCells (.slice a6 (cancelR u g.tx).held.length c6) (.slice b6 (cancelR u g.tx).wait.length d6))
                  clear HS222
                  generalize (w217.setRow B6 (tbCells (.slice a6 (cancelR u g.tx).held.length c6) (.slice b6 (cancelR u g.tx).wait.length d6)).toArray) = w218 at *
                  clear g0 g1 g2 g3
                  have HS224 : Hid (HpL w C (m0 - 1) [.cd C, .ob B6 25 (tbCells (.slice a6 (cancelR u g.tx).held.length c6) (.slice b6 (cancelR u g.tx).wait.length d6)), .ob B21 29 (grCells g), .rd R6] w218) := HS223.out.pull [0, 1, 2, 4] rfl (pull_nd HS223.out.nd [0, 1, 2, 4] rfl (by decide)) (by simp)
                  clear HS223
                  go_wp2_with fail
                  go_meet
                  exact ⟨_, _, _, _, _, R6, Hrd6.out, HCa.out, HS224.out⟩
              · obtain ⟨e4, n4⟩ := ne_facts hc0
                clear hc0 HSu HWo HUe HCl HCy
                have HS235 : Hid (HpL w C (m0 - 1) [.cd C, .ob B6 25 (tbCells (.slice a t.held.length c) (.slice b t.wait.length d)), .rd R] w202) := HS202.out.pull [0, 1, 3] rfl (pull_nd HS202.out.nd [0, 1, 3] rfl (by decide)) (by simp)
                clear HS202
                go_wp2_with fail
                go_roundw
                case rel => exact ⟨t, _, _, _, _, R, HRd.out, HSt.out, (HS235.out).hp⟩
                case measure => have h1 := (HS235.out).left; have h4 := HMp.out; rw [HM0.out]; omega
      case rest =>
        obtain ⟨t2, a, b, c, d, R, hrd, hst, hs⟩ := hcut
        have HYc : Hid (HpL w C (m0 - 1) [.cd C, .ob B6 25 (tbCells (.slice a t2.held.length c) (.slice b t2.wait.length d)), .ob B21 29 (grCells g), .rd R] wc) := hs
        have HR2 := Lib.hid hrd
        have HS2 := Lib.hid hst
        clear hs hrd hst HS23 HRd HSt HTg HG5 s0 s1
        generalize wc = w100 at *
        have HVr : Hid (∀ W, RdIn W R → Calls Try.prog 25 #[.agg (tbCells (.slice a t2.held.length c) (.slice b t2.wait.length d)).toArray] W fun e w' => e = .returned (.bool true) ∧ Below W.heap.size W w') := Lib.hid (fun W h => by have := rlkvalid_any W HR2.out h HS2.out.set.ok.good; rwa [tbOkB_iff.2 HS2.out.set.ok] at this)
        obtain ⟨e0, he0⟩ : ∃ e0 : List Int, e0 = [] := ⟨_, rfl⟩
        have HCyc : Hid (∀ (y : Int) (W : World), RdIn W R → Calls Try.prog 14 #[.agg (tbCells (.slice a t2.held.length c) (.slice b t2.wait.length d)).toArray, .int .i64 y] W (IntsPost W e0)) := Lib.hid (fun y W h => by have := pcycle_any y W HR2.out h HS2.out.set.ok.good; rw [HS2.out.cyc y] at this; rw [he0]; exact this)
        have HFor : Hid (∀ (y : Int) (W : World), RdIn W R → Calls Try.prog 12 #[.agg (tbCells (.slice a t2.held.length c) (.slice b t2.wait.length d)).toArray, .int .i64 y] W (IntsPost W (forR t2 y))) := Lib.hid (fun y W h => pfor_any y W HR2.out h HS2.out.set.ok.good)
        have HZ9 : Hid (((e0.length : Nat) : Int) = 0 ∧ e0.length = 0) := Lib.hid ⟨by rw [he0]; rfl, by rw [he0]; rfl⟩
        clear he0
        have hp := HYc.out.pull [0, 1, 3] (M := [.cd C, .ob B6 25 (tbCells (.slice a t2.held.length c) (.slice b t2.wait.length d)), .rd R]) rfl (pull_nd HYc.out.nd [0, 1, 3] rfl (by decide)) (by simp)
        have HP : Hid (HpL w C (m0 - 1) [.cd C, .ob B6 25 (tbCells (.slice a t2.held.length c) (.slice b t2.wait.length d)), .rd R] w100) := hp
        clear hp HYc
        have b0 := HP.out.at 1 rfl 0 rfl
        have b1 := HP.out.at 1 rfl 1 rfl
        go_wp2_with fail
        refine (HVr.out _ (HP.out.reads 2 rfl)).mono ?_
        rintro e w102 ⟨rfl, hb⟩
        have HP2 := Lib.hid (HP.out.calls hb)
        clear hb b0 b1 HP HVr
        go_wp2_with fail
        go_loopw [11] (fun iv wr => ∃ i : Nat, iv = .int .i64 i ∧ 1 ≤ i ∧ i ≤ 6 ∧ HpL w C (m0 - 1) [.cd C, .ob B6 25 (tbCells (.slice a t2.held.length c) (.slice b t2.wait.length d)), .rd R] wr) (fun iv _ => 6 - (intOf iv).toNat)
        case atStart => exact ⟨1, rfl, Nat.le_refl _, by decide, HP2.out⟩
        case round =>
          clear HP2
          obtain ⟨i, rfl, hi1, hi, hs⟩ := hrel
          have HY := Lib.hid hs
          clear hs
          by_cases hlt : i ≤ 5
          · have HLi := Lib.hid hlt
            have hii : (i : Int) ≤ 5 := by omega
            have hi0 : (0 : Int) ≤ (i : Int) := by omega
            clear hi1 hi hlt
            go_wp2_with (first | ((with_reducible refine wpList_load_ob 25 (.tmp 4) B6 (tbCells (.slice a t2.held.length c) (.slice b t2.wait.length d)) 25 HUT.out ?_ ?_ ?_ ?_ ?_); (exact rfl); (exact (HY.out).get 1 rfl); (exact rfl); (exact info_tb); simp only [Act.put, List.setIfInBounds_toArray, List.set_cons_zero, List.set_cons_succ]))
            refine (HCyc.out (i : Int) _ ((HY.out).reads 2 rfl)).mono ?_
            rintro e w401 ⟨v9, R9, rfl, hrd2, hin2, hnew2, hb⟩
            obtain ⟨a9, c9, rfl, hl9, hm9, hg9⟩ := hrd2.cells
            have Hrd9 := Lib.hid hrd2
            have Hnw9 := Lib.hid hnew2
            have Hgc9 := Lib.hid hg9
            clear hg9
            have HS401 : Hid (HpL w C (m0 - 1) [.cd C, .ob B6 25 (tbCells (.slice a t2.held.length c) (.slice b t2.wait.length d)), .rd R, .rd R9] w401) := (HY.out).addrd hb R9 hin2 (fun r hr => .inl (hnew2 r hr))
            clear hb hin2 hrd2 hnew2
            clear HY
            have HS402 : Hid (HpL w C (m0 - 1) [.cd C, .ob B6 25 (tbCells (.slice a t2.held.length c) (.slice b t2.wait.length d)), .rd R] w401) := HS401.out.pull [0, 1, 2] rfl (pull_nd HS401.out.nd [0, 1, 2] rfl (by decide)) (by simp)
            clear HS401
            have hz9 := HZ9.out.1
            have hz8 := HZ9.out.2
            go_wp2_with fail
            go_loopw [12, 13] (fun av nv wr => ∃ (k : Nat) (p : Int), av = .int .i64 p ∧ nv = .int .i64 k ∧ p = atW t2 i k ∧ k ≤ 5 ∧ (∀ q, q < k → forR t2 (atW t2 i q) ≠ []) ∧ HpL w C (m0 - 1) [.cd C, .ob B6 25 (tbCells (.slice a t2.held.length c) (.slice b t2.wait.length d)), .rd R] wr) (fun _ nv _ => 6 - (intOf nv).toNat)
            case atStart => exact ⟨0, i, rfl, rfl, rfl, by decide, fun q hq => absurd hq (Nat.not_lt_zero _), HS402.out⟩
            case round =>
              clear HS402 hz9 hz8
              obtain ⟨k, p, rfl, rfl, hp, hk, hne, hs⟩ := hrel
              have HY := Lib.hid hs
              have HK := Lib.hid hk
              have HNe := Lib.hid hne
              have HPp := Lib.hid hp
              obtain ⟨l, hl⟩ : ∃ l, forR t2 p = l := ⟨_, rfl⟩
              have HPf : Hid (∀ W, RdIn W R → Calls Try.prog 12 #[.agg (tbCells (.slice a t2.held.length c) (.slice b t2.wait.length d)).toArray, .int .i64 p] W (IntsPost W l)) := Lib.hid (fun W h => by have := HFor.out p W h; rwa [hl] at this)
              have HL := Lib.hid hl
              have hk6 : (k : Int) < 6 := by omega
              have hk0 : (0 : Int) ≤ (k : Int) := by omega
              clear hs hp hne hl hk
              go_wp2_with (first | ((with_reducible refine wpList_load_ob 25 (.tmp 4) B6 (tbCells (.slice a t2.held.length c) (.slice b t2.wait.length d)) 25 HUT.out ?_ ?_ ?_ ?_ ?_); (exact rfl); (exact (HY.out).get 1 rfl); (exact rfl); (exact info_tb); simp only [Act.put, List.setIfInBounds_toArray, List.set_cons_zero, List.set_cons_succ]))
              refine (HPf.out _ ((HY.out).reads 2 rfl)).mono ?_
              rintro e w501 ⟨v9, R9, rfl, hrd2, hin2, hnew2, hb⟩
              obtain ⟨a9, c9, rfl, hl9, hm9, hg9⟩ := hrd2.cells
              have Hrd9 := Lib.hid hrd2
              have Hnw9 := Lib.hid hnew2
              have Hgc9 := Lib.hid hg9
              clear hg9
              have HS501 : Hid (HpL w C (m0 - 1) [.cd C, .ob B6 25 (tbCells (.slice a t2.held.length c) (.slice b t2.wait.length d)), .rd R, .rd R9] w501) := (HY.out).addrd hb R9 hin2 (fun r hr => .inl (hnew2 r hr))
              clear hb hin2 hrd2 hnew2
              clear HY
              have HS502 : Hid (HpL w C (m0 - 1) [.cd C, .ob B6 25 (tbCells (.slice a t2.held.length c) (.slice b t2.wait.length d)), .rd R, .rd R9] w501) := HS501.out
              clear HS501
              by_cases hln : l = []
              · have hl9 : ((l.length : Nat) : Int) = 0 := by rw [hln]; rfl
                have hl8 : l.length = 0 := by rw [hln]; rfl
                have hz := HS502.out.pull [0, 1, 2] (M := [.cd C, .ob B6 25 (tbCells (.slice a t2.held.length c) (.slice b t2.wait.length d)), .rd R]) rfl (pull_nd HS502.out.nd [0, 1, 2] rfl (by decide)) (by simp)
                have HZ := Lib.hid hz
                clear hln hz
                go_wp2_with fail
                go_roundw
                case rel => exact ⟨i + 1, by go_num, by omega, by have := HLi.out; omega, HZ.out⟩
                case measure => simp [intOf]; try (have := HLi.out; omega)
              · have hk5 : k ≠ 5 := by
                  intro e5
                  subst e5
                  refine hln ?_
                  rw [← HL.out, HPp.out]
                  exact HS2.out.ends i HNe.out
                obtain ⟨q, hq⟩ : ∃ q, l.length = q + 1 := ⟨l.length - 1, by have := List.length_pos_iff.2 hln; omega⟩
                obtain ⟨g0, off0, rfl, hc0⟩ := Hgc9.out (by omega)
                obtain ⟨z, hzz⟩ : ∃ z, l.getLastD 0 = z := ⟨_, rfl⟩
                have HZz := Lib.hid hzz
                have c0 : w501.cell? ⟨g0, off0 + q, none⟩ = some (.int .i64 z) := hc0 _ (HS502.out.reads 3 rfl) q _ (by have := last_in hln; rwa [show l.length - 1 = q by omega, hzz] at this)
                have el : ((l.length : Int) == 0) = false := by simp; omega
                have el2 : (l.length == 0) = false := by simp; omega
                have ek : ((k : Int) == 5) = false := by simp; omega
                have hlm : l.length ≤ 1024 := by have := forA_len t2 p; rw [HL.out] at this; exact this
                have w1 : IntKind.i64.wrap ((l.length : Int) - 1) = (q : Int) := by rw [show (l.length : Int) - 1 = (q : Int) by omega]; exact IntWalk.i64_in _ (by omega)
                have w2 : wrap64 ((l.length : Int) - 1) = (q : Int) := by rw [show (l.length : Int) - 1 = (q : Int) by omega]; exact IntWalk.wrap64_in _ (by omega)
                have hql : (q : Int) < (l.length : Int) := by omega
                have hql2 : q < l.length := by omega
                have hq0 : (0 : Int) ≤ (q : Int) := by omega
                have HK5 : Hid (k + 1 ≤ 5) := Lib.hid (by have := HK.out; omega)
                have HLn := Lib.hid hln
                have hz := HS502.out.pull [0, 1, 2] (M := [.cd C, .ob B6 25 (tbCells (.slice a t2.held.length c) (.slice b t2.wait.length d)), .rd R]) rfl (pull_nd HS502.out.nd [0, 1, 2] rfl (by decide)) (by simp)
                have HZ := Lib.hid hz
                clear hz hc0 hq hln hk5 hlm hzz
                go_wp2_with fail
                go_roundw
                case rel =>
                  refine ⟨k + 1, z, rfl, by go_num, ?_, HK5.out, ?_, HZ.out⟩
                  · show _ = nextW t2 (atW t2 i k)
                    rw [← HPp.out]; unfold nextW; rw [HL.out, HZz.out]
                  · intro q hq
                    by_cases hqk : q = k
                    · subst hqk; rw [← HPp.out, HL.out]; exact HLn.out
                    · exact HNe.out q (by omega)
                case measure => simp [intOf]; try (have := HK5.out; omega)
          · have hii : ¬ (i : Int) ≤ 5 := by omega
            have dii : decide ((i : Int) ≤ 5) = false := decide_eq_false hii
            clear hi1 hi hlt
            go_wp2_with fail
            go_roundw
            case rel => exact ⟨t2, a, b, c, d, R, HR2.out, HS2.out, HY.out.hp⟩
            case measure => have h1 := HY.out.left; have h4 := HMp.out; rw [HM0.out]; omega
    · have dv : decide (0 < v) = false := decide_eq_false hv0
      clear hv0 HV
      go_wp2_with fail
      go_ret
      exact ⟨rfl, HY2.out.old⟩
end Go.Proofs.Ytooaldglgkjjgaa
