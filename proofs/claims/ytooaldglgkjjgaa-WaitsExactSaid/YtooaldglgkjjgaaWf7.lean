/- texts of a claim, one after the other: the sanity check of the laws of chapter 9, the choices of the drawing package: Data, the choices of the drawing package: Bytes, the walks of the reference's blanks and New, the choices of a law's walk, as a thing, the choices of the drawing package: how many are left, the choices of the drawing package, with how many are left: Int, Fault, within a drawing function: things in new memory beside choices that were there before, the choices of the drawing package: Grant, the choices of the drawing package: Locks, choices are drawn, and what comes of them is read, who waits is one of five: what the functions of chapter 8 do to that, pairs of numbers are compared; two tables, two grants in a row, the law WaitsExact: for every input the call returns true, a slice that came in, opened: its elements are values of a kind, and its cells read, a table of locks and a grant that came in by value, opened -/
import Derived.Test.YtooaldglgkjjgaaWf6
import Derived.Test.YtooaldglgkjjgaaWf1
import Derived.WalkKit
import Derived.Deep.RegionWith
import Derived.Test.YtooaldglgkjjgaaWf4
import Derived.Deep.CutBlock
import Derived.Test.YtooaldglgkjjgaaWf5
import Derived.Test.YtooaldglgkjjgaaWf2
import Derived.Test.YtooaldglgkjjgaaWf3
import Derived.Deep.Slices
import Derived.ChangeArms
/- the sanity check of the laws of chapter 9 -/
namespace Go.Proofs.Ytooaldglgkjjgaa
open Go.RowKit
open Go.Act renaming put → z0
open List renaming setIfInBounds_toArray → z1, set_cons_zero → z2, set_cons_succ → z3
set_option maxRecDepth 20000
set_option linter.unusedSimpArgs false
set_option linter.unusedVariables false

theorem build_kz (tx m : Int) (W : World) : Sem.run Try.prog (Instr.build 29 #[(0, .int .i64 tx), (2, .int .i64 m)]) W = .ok (.agg (grCells (kz tx m)).toArray) W:=by kernel_rfl
theorem build_tbx (a b : Option Addr) (n c m d : Nat) (W : World) : Sem.run Try.prog (Instr.build 25 #[(0, .slice a n c), (1, .slice b m d)]) W = .ok (.agg (tbCells (.slice a n c) (.slice b m d)).toArray) W:=by kernel_rfl
theorem ex_rd (b6 b8 : Nat) : TbRd (.slice (some ⟨b6, 0, none⟩) 2 2) (.slice (some ⟨b8, 0, none⟩) 1 1) exT [(b6, 0, grRow [kz 1 1, kz 2 1]), (b8, 0, grRow [kz 1 2])] :=
  ⟨⟨some ⟨b6, 0, none⟩, 2, rfl, rfl, Nat.le_refl _, by decide, fun _=>⟨b6, 0, rfl, List.mem_cons_self ..⟩, fun h=>by cases h⟩,
   ⟨some ⟨b8, 0, none⟩, 1, rfl, rfl, Nat.le_refl _, by decide, fun _=>⟨b8, 0, rfl, List.mem_cons_of_mem _ (List.mem_cons_self ..)⟩, fun h=>by cases h⟩⟩
set_option maxHeartbeats 8000000 in
theorem awake9 (w : World) : Calls Try.prog 6 #[] w fun e w'=>e = .returned (.bool true) ∧ Below w.heap.size w w':=by
  have HUX:=Lib.hid under_grs
  have HKz : Hid (∀ tx m, (tx = 1 ∨ tx = 2) → (m = 1 ∨ m = 2) → GoodGr (kz tx m)):=Lib.hid (fun tx m h1 h2=>(kz_ok h1 h2).good)
  have HW:=Lib.hid would_ex
  have HG:=Lib.hid exT_ok.good
  obtain ⟨fsHUG, huHUG⟩:=under_gr
  have HUG:=Lib.hid huHUG
  clear huHUG
  obtain ⟨fsHUK, huHUK⟩:=under_lk
  have HUK:=Lib.hid huHUK
  clear huHUK
  obtain ⟨fsHUT, huHUT⟩:=under_tb
  have HUT:=Lib.hid huHUT
  clear huHUT
  have HS0:=Lib.hid (Hp.start w)
  go_enter Try.func6, Try.ntmps6
  go_upto_region 1 with (fail)
  go_upto_region 2 with (first | ((with_reducible refine wpList_build_v (d:=some 4) 29 (.agg (grCells (kz 1 1)).toArray) ?_ ?_);(intro W;simp only [List.map_toArray, List.map_cons, List.map_nil];exact build_kz _ _ W);simp only [z0, z1, z2, z3]) | ((with_reducible refine wpList_build_v (d:=some 5) 29 (.agg (grCells (kz 2 1)).toArray) ?_ ?_);(intro W;simp only [List.map_toArray, List.map_cons, List.map_nil];exact build_kz _ _ W);simp only [z0, z1, z2, z3]) | ((with_reducible refine wpList_build_obs 23 2 elem_gr HUX.out [grCells (kz 1 1), grCells (kz 2 1)] ?_ ?_ ?_ ?_ ?_ ?_);(exact (List.forall_mem_cons.2 ⟨rfl, (List.forall_mem_cons.2 ⟨rfl, (fun _ h=>absurd h List.not_mem_nil)⟩)⟩));(exact Nat.succ_pos _);(simp only [List.length_cons, List.length_nil];omega);(exact rfl);(simp only [List.map_toArray, List.map_cons, List.map_nil, List.zipIdx_cons, List.zipIdx_nil];exact rfl);simp only [z0, z1, z2, z3]) | ((with_reducible refine wpList_build_v (d:=some 7) 29 (.agg (grCells (kz 1 2)).toArray) ?_ ?_);(intro W;simp only [List.map_toArray, List.map_cons, List.map_nil];exact build_kz _ _ W);simp only [z0, z1, z2, z3]) | ((with_reducible refine wpList_build_obs 23 1 elem_gr HUX.out [grCells (kz 1 2)] ?_ ?_ ?_ ?_ ?_ ?_);(exact (List.forall_mem_cons.2 ⟨rfl, (fun _ h=>absurd h List.not_mem_nil)⟩));(exact Nat.succ_pos _);(simp only [List.length_cons, List.length_nil];omega);(exact rfl);(simp only [List.map_toArray, List.map_cons, List.map_nil, List.zipIdx_cons, List.zipIdx_nil];exact rfl);simp only [z0, z1, z2, z3]) | ((with_reducible refine wpList_build_v (d:=some 9) 25 (.agg (tbCells (.slice (some ⟨w.heap.size, 0, none⟩) 2 2) (.slice (some ⟨(w.alloc (.cells (([grCells (kz 1 1), grCells (kz 2 1)] : List (List Value)).flatMap id).toArray 29)).heap.size, 0, none⟩) 1 1)).toArray) ?_ ?_);(intro W;simp only [List.map_toArray, List.map_cons, List.map_nil];exact build_tbx _ _ _ _ _ _ W);simp only [z0, z1, z2, z3]) | ((with_reducible refine wpList_alloc_ob 25 (tbCells (.slice none 0 0) (.slice none 0 0)) ?_ ?_);(exact alloc_tb);simp only [z0, z1, z2, z3]) | ((with_reducible refine wpList_store_ob 25 (.tmp 1) (((w.alloc (.cells (([grCells (kz 1 1), grCells (kz 2 1)] : List (List Value)).flatMap id).toArray 29)).alloc (.cells (([grCells (kz 1 2)] : List (List Value)).flatMap id).toArray 29)).heap.size) (tbCells (.slice (some ⟨w.heap.size, 0, none⟩) 2 2) (.slice (some ⟨(w.alloc (.cells (([grCells (kz 1 1), grCells (kz 2 1)] : List (List Value)).flatMap id).toArray 29)).heap.size, 0, none⟩) 1 1)) (tbCells (.slice none 0 0) (.slice none 0 0)) 25 ?_ ?_ ?_ ?_ ?_ ?_ ?_);(exact rfl);(exact rfl);(exact ((((HS0.out).put 29 (([grCells (kz 1 1), grCells (kz 2 1)] : List (List Value)).flatMap id)).put 29 (([grCells (kz 1 2)] : List (List Value)).flatMap id)).put 25 (tbCells (.slice none 0 0) (.slice none 0 0))).get 2 rfl);(exact info_tb);(exact rfl);(exact (oneCell_tb _ _ _ _ _ _));skip))
  have HS1 : Hid (Hp w [.ob (w.heap.size) 29 (([grCells (kz 1 1), grCells (kz 2 1)] : List (List Value)).flatMap id), .ob ((w.alloc (.cells (([grCells (kz 1 1), grCells (kz 2 1)] : List (List Value)).flatMap id).toArray 29)).heap.size) 29 (([grCells (kz 1 2)] : List (List Value)).flatMap id), .ob (((w.alloc (.cells (([grCells (kz 1 1), grCells (kz 2 1)] : List (List Value)).flatMap id).toArray 29)).alloc (.cells (([grCells (kz 1 2)] : List (List Value)).flatMap id).toArray 29)).heap.size) 25 (tbCells (.slice (some ⟨w.heap.size, 0, none⟩) 2 2) (.slice (some ⟨(w.alloc (.cells (([grCells (kz 1 1), grCells (kz 2 1)] : List (List Value)).flatMap id).toArray 29)).heap.size, 0, none⟩) 1 1))] ((((w.alloc (.cells (([grCells (kz 1 1), grCells (kz 2 1)] : List (List Value)).flatMap id).toArray 29)).alloc (.cells (([grCells (kz 1 2)] : List (List Value)).flatMap id).toArray 29)).alloc (.cells (tbCells (.slice none 0 0) (.slice none 0 0)).toArray 25)).setRow (((w.alloc (.cells (([grCells (kz 1 1), grCells (kz 2 1)] : List (List Value)).flatMap id).toArray 29)).alloc (.cells (([grCells (kz 1 2)] : List (List Value)).flatMap id).toArray 29)).heap.size) (tbCells (.slice (some ⟨w.heap.size, 0, none⟩) 2 2) (.slice (some ⟨(w.alloc (.cells (([grCells (kz 1 1), grCells (kz 2 1)] : List (List Value)).flatMap id).toArray 29)).heap.size, 0, none⟩) 1 1)).toArray)):=((((HS0.out).put 29 (([grCells (kz 1 1), grCells (kz 2 1)] : List (List Value)).flatMap id)).put 29 (([grCells (kz 1 2)] : List (List Value)).flatMap id)).put 25 (tbCells (.slice none 0 0) (.slice none 0 0))).row 2 rfl (tbCells (.slice (some ⟨w.heap.size, 0, none⟩) 2 2) (.slice (some ⟨(w.alloc (.cells (([grCells (kz 1 1), grCells (kz 2 1)] : List (List Value)).flatMap id).toArray 29)).heap.size, 0, none⟩) 1 1))
  clear HS0
  generalize ((((w.alloc (.cells (([grCells (kz 1 1), grCells (kz 2 1)] : List (List Value)).flatMap id).toArray 29)).alloc (.cells (([grCells (kz 1 2)] : List (List Value)).flatMap id).toArray 29)).alloc (.cells (tbCells (.slice none 0 0) (.slice none 0 0)).toArray 25)).setRow (((w.alloc (.cells (([grCells (kz 1 1), grCells (kz 2 1)] : List (List Value)).flatMap id).toArray 29)).alloc (.cells (([grCells (kz 1 2)] : List (List Value)).flatMap id).toArray 29)).heap.size) (tbCells (.slice (some ⟨w.heap.size, 0, none⟩) 2 2) (.slice (some ⟨(w.alloc (.cells (([grCells (kz 1 1), grCells (kz 2 1)] : List (List Value)).flatMap id).toArray 29)).heap.size, 0, none⟩) 1 1)).toArray) = w1 at *
  generalize ((w.alloc (.cells (([grCells (kz 1 1), grCells (kz 2 1)] : List (List Value)).flatMap id).toArray 29)).alloc (.cells (([grCells (kz 1 2)] : List (List Value)).flatMap id).toArray 29)).heap.size = B1 at *
  generalize (w.alloc (.cells (([grCells (kz 1 1), grCells (kz 2 1)] : List (List Value)).flatMap id).toArray 29)).heap.size = B2 at *
  have HS2 : Hid (Hp w [.ob B1 25 (tbCells (.slice (some ⟨w.heap.size, 0, none⟩) 2 2) (.slice (some ⟨B2, 0, none⟩) 1 1)), .ob (w.heap.size) 29 (([grCells (kz 1 1), grCells (kz 2 1)] : List (List Value)).flatMap id), .ob B2 29 (([grCells (kz 1 2)] : List (List Value)).flatMap id)] w1):=HS1.out.pull [2, 0, 1] rfl (pull_nd HS1.out.nd [2, 0, 1] rfl (by decide))
  clear HS1
  obtain ⟨_, hs7⟩:=Hp.obrd (A:=[.ob B1 25 (tbCells (.slice (some ⟨w.heap.size, 0, none⟩) 2 2) (.slice (some ⟨B2, 0, none⟩) 1 1)), .ob (w.heap.size) 29 (([grCells (kz 1 1), grCells (kz 2 1)] : List (List Value)).flatMap id)]) HS2.out
  obtain ⟨_, hs8⟩:=Hp.obrd (A:=[.ob B1 25 (tbCells (.slice (some ⟨w.heap.size, 0, none⟩) 2 2) (.slice (some ⟨B2, 0, none⟩) 1 1)), .rd [(B2, 0, _)]]) (hs7.pull [0, 2, 1] rfl (pull_nd hs7.nd [0, 2, 1] rfl (by decide)))
  have HS9:=Lib.hid hs8
  have HR9 : Hid (RdIn _ [(w.heap.size, 0, grRow [kz 1 1, kz 2 1]), (B2, 0, grRow [kz 1 2])]):=Lib.hid (by
    have h1:=hs8.reads 1 rfl
    have h2:=hs8.reads 2 rfl
    intro r hr
    rcases List.mem_cons.1 hr with rfl | hr
    · exact h2 _ (List.mem_cons_self ..)
    · rcases List.mem_cons.1 hr with rfl | hr
      · exact h1 _ (List.mem_cons_self ..)
      · cases hr)
  clear hs7 hs8
  have q0:=HS9.out.at 0 rfl 0 rfl
  have q1:=HS9.out.at 0 rfl 1 rfl
  clear q0 q1
  go_wp2_with (first | ((with_reducible refine wpList_build_v (d:=some 12) 29 (.agg (grCells (kz 2 2)).toArray) ?_ ?_);(intro W;simp only [List.map_toArray, List.map_cons, List.map_nil];exact build_kz _ _ W);simp only [z0, z1, z2, z3]) | ((with_reducible refine wpList_load_ob 25 (.tmp 1) B1 (tbCells (.slice (some ⟨w.heap.size, 0, none⟩) 2 2) (.slice (some ⟨B2, 0, none⟩) 1 1)) 25 HUT.out ?_ ?_ ?_ ?_ ?_);(exact rfl);(exact HS9.out.get 0 rfl);(exact rfl);(exact info_tb);simp only [z0, z1, z2, z3]))
  refine (pwould_any (kz 2 2) _ (ex_rd _ _) HR9.out HG.out (HKz.out _ _ (by decide) (by decide))).mono ?_
  rintro e w90 ⟨v8, R8, rfl, hrd2, hin2, hnew2, hb⟩
  rw [HW.out] at hrd2 ⊢
  obtain ⟨a8, c8, rfl, hl8, hm8, hg8⟩:=hrd2.cells
  obtain ⟨g8, o8, rfl, hc8⟩:=hg8 (by decide)
  have l0 : w90.cell? ⟨g8, o8, none⟩ = some (.int .i64 2):=hc8 _ hin2 0 2 rfl
  have l1 : w90.cell? ⟨g8, o8 + 1, none⟩ = some (.int .i64 1):=hc8 _ hin2 1 1 rfl
  have HSz:=Lib.hid (HS9.out.old.trans (hb.mono HS9.out.old.size))
  clear hc8 hg8 hrd2 hin2 hnew2 hb
  go_wp2_with fail
  go_ret
  exact ⟨rfl, HSz.out⟩
end Go.Proofs.Ytooaldglgkjjgaa
/- the choices of the drawing package: Data -/
namespace Go.Proofs.Ytooaldglgkjjgaa
open Go.RowKit
set_option maxRecDepth 20000

theorem Besides.grown {C : Nat} {a w w' : World} {row : Option Nat} (h : Besides C a w) (hg : w.grownBy w' row) (hr : ∀ k, row = some k → a.heap.size ≤ k) : Besides C a w' :=
  ⟨hg.os.trans h.os, hg.tape.trans h.tape, hg.output.trans h.output, Nat.le_trans h.size hg.size, fun k hk hC=>(hg.block k (Nat.lt_of_lt_of_le hk h.size) (fun e=>by have:=hr k e.symm;omega)).trans (h.block k hk hC),
    fun hC=>(World.cell?_of_block (a:=⟨C, 0, none⟩) (hg.block C (Nat.lt_of_lt_of_le hC h.size) (fun e=>by have:=hr C e.symm;omega))).trans (h.head hC)⟩
end Go.Proofs.Ytooaldglgkjjgaa
/- the choices of the drawing package: Bytes -/
namespace Go.Proofs.Ytooaldglgkjjgaa
open Go.RowKit
set_option maxRecDepth 20000

/-- a row of bytes is block B -/
def RowIn (w : World) (B : Nat) (l : List UInt8) : Prop:=w.heap[B]? = some (.cells (l.map (fun b=>Value.int .u8 (b.toNat : Int))).toArray 5 (0, 0))
theorem RowIn.lt {w : World} {B : Nat} {l : List UInt8} (h : RowIn w B l) : B < w.heap.size:=(Array.getElem?_eq_some_iff.1 h).1
theorem RowIn.besides {w w' : World} {B C : Nat} {l : List UInt8} (h : RowIn w B l) (hb : Besides C w w') (hC : B ≠ C) : RowIn w' B l:=(hb.block B h.lt hC).trans h
theorem RowIn.cell {w : World} {B : Nat} {l : List UInt8} (h : RowIn w B l) (i : Nat) (hi : i < l.length) : w.cell? ⟨B, i, none⟩ = some (.int .u8 (l[i].toNat : Int)):=by
  unfold RowIn at h
  simp [World.cell?, h, List.getElem?_eq_getElem hi]
theorem RowIn.frozen {w : World} {B : Nat} {l : List UInt8} (h : RowIn w B l) (i : Nat) : w.frozen? ⟨B, i, none⟩ = false:=by
  unfold RowIn at h
  simp [World.frozen?, h]
theorem RowIn.set {w : World} {B : Nat} {l : List UInt8} (h : RowIn w B l) (k : Nat) (x : Int) (x0 : 0 ≤ x) (x1 : x ≤ 255) : RowIn (w.setCell ⟨B, k, none⟩ (.int .u8 x)) B (l.set k (UInt8.ofNat x.toNat)):=by
  refine (heap_setCell_same w B k _ _ _ h).trans ?_
  rw [List.setIfInBounds_toArray, List.map_set, UInt8.toNat_ofNat', show ((x.toNat % 2 ^ 8 : Nat) : Int) = x from by omega]
theorem RowIn.conv {w : World} {B : Nat} {l : List UInt8} (h : RowIn w B l) (n c : Nat) (hn : n = l.length) : Sem.run Try.prog (convert 22 9 (.slice (some ⟨B, 0, none⟩) n c)) w = .ok (.string ⟨l.toArray⟩) w:=by
  subst hn
  refine run_convert_bytes_back (P:=Try.prog) w 22 9 5 ⟨B, 0, none⟩ c l Try.underlying22 Try.underlying5 Try.underlying9 (fun j hj=>?_)
  have ea : (⟨B, 0, none⟩ : Addr).add j = ⟨B, j, none⟩:=by
    simp only [Addr.add];split
    · next h=>rw [h]
    · simp
  rw [ea]
  exact h.cell j hj

end Go.Proofs.Ytooaldglgkjjgaa
/- the walks of the reference's blanks and New -/
namespace Go.Proofs.Ytooaldglgkjjgaa
open Go.RowKit
set_option maxRecDepth 20000

/-- how a function that gives a device and an error ends: it reads as x says, in memory that is new or was read before -/
def DvPost (w : World) (R0 : List Rng) (x : Dv × Int) (e : Ending) (w' : World) : Prop :=
  ∃ p u f R, e = .returned (.tuple #[.agg (dvCells p x.1 u f).toArray, .int .i64 x.2]) ∧ DvRd p u f x.1 R ∧ RdIn w' R ∧ (∀ r ∈ R, w.heap.size ≤ r.1 ∨ r ∈ R0) ∧ Below w.heap.size w w'
theorem DvPost.none {w w' : World} {R0 : List Rng} {x : Dv × Int} {n : Int} (hx : x = (dvNil, n)) (hb : Below w.heap.size w w') : DvPost w R0 x (.returned (.tuple #[.agg (dvCells nilS dvNil nilS nilS).toArray, .int .i64 n])) w':=by
  subst hx
  exact ⟨_, _, _, [], rfl, ⟨SlRd.nil _ _, SlRd.nil _ _, SlRd.nil _ _⟩, RdIn.nil _, by simp, hb⟩
end Go.Proofs.Ytooaldglgkjjgaa
/- the choices of a law's walk, as a thing -/
namespace Go.Proofs.Ytooaldglgkjjgaa
open Go.RowKit
set_option maxRecDepth 20000

theorem row_lo {w : World} {x : Option Addr} {len cap : Nat} {zs : List Int} (hr : IsRow .u8 w x len cap zs) (h0 : 0 < len) : ∀ b off, x = some ⟨b, off, none⟩ → b < w.heap.size:=by
  intro b off hx
  rcases hr with ⟨_, h, _, _⟩ | ⟨y, hy, _, _, hz, hc, _⟩
  · omega
  · have:=World.block_lt_of_cell? w _ (hc 0 (by omega))
    rw [hx] at hy
    cases hy
    simpa [Addr.add] using this
theorem new_hp (m : Nat) (hm : m ≤ 1000) {w0 w : World} {L : List Th} {x : Option Addr} {len cap : Nat} {zs : List Int} (h : Hp w0 L w) (hr : IsRow .u8 w0 x len cap zs) :
    Calls Try.prog 7 #[.slice x len cap, .int .i64 m] w fun e w'=>e = .returned (.pointer (some ⟨w.heap.size, 0, none⟩)) ∧ Hp w0 (L ++ [.cd w.heap.size]) w' :=
  (new_at m hm x len cap zs w (row_below hr h.old)).mono fun _ _ ⟨h1, h2, h3, l, c, h4, h5⟩=>⟨h1, h.begin h2 h3 ⟨x, l, c, h4, fun hl=>row_lo hr (h5 hl)⟩⟩
end Go.Proofs.Ytooaldglgkjjgaa
/- the choices of the drawing package: how many are left -/
namespace Go.Proofs.Ytooaldglgkjjgaa
open Go.RowKit
set_option maxRecDepth 20000

/-- how many choices are left at block C -/
def leftIn (w : World) (C : Nat) : Nat:=match w.cell? ⟨C, 0, none⟩, w.cell? ⟨C, 1, none⟩ with
  | some (.slice _ len _), some (.int _ i)=>((len : Int) - i).toNat
  | _, _=>0
theorem CodesAt.left {w : World} {C len cap : Nat} {a : Option Addr} {i : Int} (h : CodesAt w C a len cap i) : leftIn w C = ((len : Int) - i).toNat:=by
  unfold leftIn
  rw [h.2.1, h.2.2.1]
theorem leftIn_of {w w' : World} {C : Nat} (h : w'.heap[C]? = w.heap[C]?) : leftIn w' C = leftIn w C:=by
  unfold leftIn
  rw [World.cell?_of_block (a:=⟨C, 0, none⟩) h, World.cell?_of_block (a:=⟨C, 1, none⟩) h]
theorem leftIn_below {w w' : World} {C B : Nat} (hb : Below B w w') (hC : C < B) : leftIn w' C = leftIn w C:=leftIn_of (hb.block C hC)
theorem leftIn_drewN (w : World) (q C : Nat) : leftIn (w.drewN q) C = leftIn w C:=rfl
theorem leftIn_next {w : World} {C len cap : Nat} {a : Option Addr} {i : Int} (h : CodesAt w C a len cap i) : leftIn (w.setCell ⟨C, 1, none⟩ (.int .i64 (i + 1))) C ≤ leftIn w C - 1:=by
  rw [h.left]
  unfold leftIn
  rw [World.cell?_setCell_other w _ _ _ (by intro h;cases h), h.2.1, World.cell?_setCell_same w _ _ h.2.2.1]
  show ((len : Int) - (i + 1)).toNat ≤ _
  omega
def NextL (C : Nat) (n : Int) (w : World) (e : Ending) (w' : World) : Prop :=
  ∃ x : Int, e = .returned (.int .i64 x) ∧ 0 ≤ x ∧ (x < n ∨ x = 0) ∧ Besides C w w' ∧ CodesOk w' C ∧ leftIn w' C ≤ leftIn w C - 1
set_option maxHeartbeats 400000 in
theorem left_end (C : Nat) (a : Option Addr) (len cap : Nat) (i n : Int) (w : World) (h : CodesAt w C a len cap i) (hl : (len : Int) ≤ i) :
    Calls Try.prog 20 #[.pointer (some ⟨C, 0, none⟩), .int .i64 n] w (NextL C n w):=by
  have HK : Hid (CodesOk w C):=⟨a, len, cap, i, h⟩
  have HZ : Hid (leftIn w C = 0):=by show _ = _;rw [h.left];omega
  have h1:=h.2.1
  have h2:=h.2.2.1
  clear h
  have d1 : decide ((len : Int) ≤ i) = true:=by simpa using hl
  go_enter Try.func20, Try.ntmps20
  go_wp2
  go_quiet (fail)
  go_wp2
  go_ret
  exact ⟨0, rfl, Int.le_refl _, Or.inr rfl, (Besides.refl _ _).drewN _, HK.out.drewN _, by rw [leftIn_drewN, HZ.out];exact Nat.le_refl _⟩
set_option maxHeartbeats 400000 in
theorem left_small (C : Nat) (n : Int) (w : World) (h : CodesOk w C) (h1n : 1 ≤ n) (hn : n ≤ 256) :
    Calls Try.prog 20 #[.pointer (some ⟨C, 0, none⟩), .int .i64 n] w (NextL C n w):=by
  obtain ⟨a, len, cap, i, h⟩:=h
  by_cases hz : (len : Int) ≤ i
  · exact left_end C a len cap i n w h hz
  have hi : i < len:=by omega
  have HK : Hid (∀ q : Nat, CodesOk ((w.drewN q).setCell ⟨C, 1, none⟩ (.int .i64 (i + 1))) C):=fun q=>(h.keep (w':=w.drewN q) (Nat.le_refl _) (fun _ _=>rfl)).next hi
  have HLf : Hid (∀ q : Nat, leftIn ((w.drewN q).setCell ⟨C, 1, none⟩ (.int .i64 (i + 1))) C ≤ leftIn w C - 1):=fun q=>leftIn_next (w:=w.drewN q) (h.keep (w':=w.drewN q) (Nat.le_refl _) (fun _ _=>rfl))
  obtain ⟨h0, h1, h2, h3, h4, h5, h6, h7⟩:=h
  obtain ⟨b, off, rfl, hbC, hcell⟩:=h7 (by omega)
  obtain ⟨k, rfl⟩:=Int.eq_ofNat_of_zero_le h4
  obtain ⟨z, hzc, z0, z1⟩:=hcell k (by omega)
  clear hcell h7 hz
  have d1 : decide (len ≤ k) = false:=by simp;omega
  have d2 : decide (n < 1) = false:=by simp;omega
  have hk : (k : Int) < (len : Int):=by omega
  have hk0 : (0 : Int) ≤ (k : Int):=by omega
  have hg : ¬ 256 < n:=by omega
  have dz:=Int.emod_nonneg z (show n ≠ 0 by omega)
  have dz2:=Int.emod_lt_of_pos z (show 0 < n by omega)
  go_enter Try.func20, Try.ntmps20
  go_wp2
  go_quiet (fail)
  go_wp2
  go_quiet (fail)
  go_wp2
  go_ret
  exact ⟨z % n, rfl, dz, Or.inl dz2, ((Besides.refl _ _).drewN _).set _ _ (by decide), HK.out _, HLf.out _⟩
end Go.Proofs.Ytooaldglgkjjgaa
/- the choices of the drawing package, with how many are left: Int, Fault -/
namespace Go.Proofs.Ytooaldglgkjjgaa
open Go.RowKit
set_option maxRecDepth 20000
set_option linter.unusedSimpArgs false
set_option linter.unusedVariables false

/-- choices, of which at most so many are left -/
def CodesM (m : Nat) (w : World) (C : Nat) : Prop:=CodesOk w C ∧ leftIn w C ≤ m
theorem CodesM.lt {m : Nat} {w : World} {C : Nat} (h : CodesM m w C) : C < w.heap.size:=h.1.lt
theorem CodesM.below {m : Nat} {w w' : World} {C B : Nat} (h : CodesM m w C) (hb : Below B w w') (hC : C < B) : CodesM m w' C:=⟨h.1.below hb hC, by rw [leftIn_below hb hC];exact h.2⟩
structure DrM (m : Nat) (w : World) (C : Nat) (L : List Ob) (W : World) : Prop where
  dr : Dr w C L W
  left : leftIn W C ≤ m
theorem DrM.start {m : Nat} {w : World} {C : Nat} (h : CodesM m w C) : DrM m w C [] w:=⟨Dr.start h.1, h.2⟩
theorem DrM.codes {m : Nat} {w W : World} {C : Nat} {L : List Ob} (h : DrM m w C L W) : CodesM m W C:=⟨h.dr.codes, h.left⟩
theorem DrM.draws {m : Nat} {w W W' : World} {C : Nat} {L : List Ob} (h : DrM m w C L W) (hb : Besides C W W') (hc : CodesM m W' C) : DrM m w C L W':=⟨h.dr.draws hb hc.1, hc.2⟩
theorem DrM.put {m : Nat} {w W : World} {C : Nat} {L : List Ob} (h : DrM m w C L W) (t : TypeId) (cs : List Value) : DrM m w C (L ++ [⟨W.heap.size, t, cs⟩]) (W.alloc (.cells cs.toArray t)) :=
  ⟨h.dr.put t cs, by rw [leftIn_below ((Below.refl _ _).alloc (Nat.le_refl _) _) h.dr.codes.lt];exact h.left⟩
theorem DrM.ne {m : Nat} {w W : World} {C : Nat} {L : List Ob} (h : DrM m w C L W) (i : Nat) {o : Ob} (e : L[i]? = some o) : C ≠ o.b:=by
  have h1:=h.dr.new _ (List.mem_of_getElem? e)
  have h2:=h.dr.lt
  omega
theorem DrM.set {m : Nat} {w W : World} {C : Nat} {L : List Ob} (h : DrM m w C L W) (i : Nat) {o : Ob} (e : L[i]? = some o) (k : Nat) (v : Value) : DrM m w C (L.set i ⟨o.b, o.t, o.cs.set k v⟩) (W.setCell ⟨o.b, k, none⟩ v) :=
  ⟨h.dr.set i e k v, by rw [leftIn_of (Below.heap_setCell _ _ _ _ (h.ne i e))];exact h.left⟩
theorem DrM.row {m : Nat} {w W : World} {C : Nat} {L : List Ob} (h : DrM m w C L W) (i : Nat) {o : Ob} (e : L[i]? = some o) (cs : List Value) : DrM m w C (L.set i ⟨o.b, o.t, cs⟩) (W.setRow o.b cs.toArray) :=
  ⟨h.dr.row i e cs, by rw [leftIn_of (setRow_other _ _ _ _ (h.ne i e))];exact h.left⟩
theorem DrM.get {m : Nat} {w W : World} {C : Nat} {L : List Ob} (h : DrM m w C L W) (i : Nat) {b : Nat} {t : TypeId} {cs : List Value} (e : L[i]? = some ⟨b, t, cs⟩) : W.heap[b]? = some (.cells cs.toArray t (0, 0)):=h.dr.get i e
theorem DrM.cell {m : Nat} {w W : World} {C : Nat} {L : List Ob} (h : DrM m w C L W) (i : Nat) {b : Nat} {t : TypeId} {cs : List Value} (e : L[i]? = some ⟨b, t, cs⟩) (k : Nat) {v : Value} (hv : cs[k]? = some v) : W.cell? ⟨b, k, none⟩ = some v:=by
  rw [cell_of_row W b k _ _ _ (h.get i e), List.getElem?_toArray];exact hv
theorem DrM.frozen {m : Nat} {w W : World} {C : Nat} {L : List Ob} (h : DrM m w C L W) (i : Nat) {b : Nat} {t : TypeId} {cs : List Value} (e : L[i]? = some ⟨b, t, cs⟩) (k : Nat) : W.frozen? ⟨b, k, none⟩ = false:=frozen_of_row _ _ _ _ _ (h.get i e)
theorem wfm_of {n : Int} (h : -9223372036854775808 ≤ n ∧ n ≤ 9223372036854775807) : (Lit.int .i64 n).wf = true:=by
  simp [Lit.wf, IntKind.min, IntKind.max, IntKind.bits, IntKind.signed];omega
theorem GoodFlt.pg {f : Flt} (h : GoodFlt f) {x : Int} (hx : -9223372036854775808 ≤ x ∧ x ≤ 9223372036854775807) : GoodFlt ⟨f.kind, f.at_, x, f.target, f.byte, f.mask⟩:=⟨h.kind, h.at_, wfm_of hx, h.target, h.byte, h.mask⟩
end Go.Proofs.Ytooaldglgkjjgaa
/- within a drawing function: things in new memory beside choices that were there before -/
namespace Go.Proofs.Ytooaldglgkjjgaa
open Go.RowKit
set_option maxRecDepth 20000
set_option linter.unusedSimpArgs false
set_option linter.unusedVariables false

/-- things in memory that is new since w, while only the choices C of the elder memory change -/
structure DrH (w : World) (C : Nat) (L : List Th) (W : World) : Prop where
 bes : Besides C w W
 codes : CodesOk W C
 lt : C < w.heap.size
 off : ∀ x ∈ L, ∀ b ∈ x.reads, w.heap.size ≤ b
 nocd : ∀ x ∈ L, ∀ c, x ≠ .cd c
 hp : ∃ w', w'.heap.size = w.heap.size ∧ Hp w' L W
theorem DrH.start {w : World} {C : Nat} (h : CodesOk w C) : DrH w C [] w:=⟨Besides.refl _ _, h, h.lt, by simp, by simp, w, rfl, Hp.start w⟩
theorem DrH.step {w W W' : World} {C : Nat} {L L' : List Th} (h : DrH w C L W) (hs : W.heap.size ≤ W'.heap.size) (H : ∀ w', w'.heap.size = w.heap.size → Hp w' L W → Hp w' L' W') (hr : ∀ x ∈ L', ∀ b ∈ x.reads, w.heap.size ≤ b) (hc : ∀ x ∈ L', ∀ c, x ≠ .cd c) : DrH w C L' W':=by
 obtain ⟨bes, cod, lt, _, _, w', e, hp⟩:=h
 have hp':=H w' e hp
 have hk : ∀ k, k < w.heap.size → W'.heap[k]? = W.heap[k]?:=fun k hk=>(hp'.old.block k (by omega)).trans (hp.old.block k (by omega)).symm
 have hb : Below w.heap.size W W':=⟨hp'.old.os.trans hp.old.os.symm, hp'.old.tape.trans hp.old.tape.symm, hp'.old.output.trans hp.old.output.symm, hs, hk⟩
 have hw : w.heap.size ≤ W'.heap.size:=Nat.le_trans bes.size hs
 exact ⟨⟨hb.os.trans bes.os, hb.tape.trans bes.tape, hb.output.trans bes.output, hw, fun k h1 h2=>(hk k h1).trans (bes.block k h1 h2), fun hC=>(World.cell?_of_block (a:=⟨C, 0, none⟩) (hk C lt)).trans (bes.head hC)⟩, cod.below hb lt, lt, hr, hc, w', e, hp'⟩
theorem DrH.all {w W : World} {C : Nat} {L : List Th} (h : DrH w C L W) : ∀ x ∈ L, x.In w.heap.size W:=by
 obtain ⟨_, _, _, _, _, w', e, hp⟩:=h
 intro x hx
 rw [← e]
 exact hp.all x hx
theorem DrH.nd {w W : World} {C : Nat} {L : List Th} (h : DrH w C L W) : L.Pairwise Th.Apart:=by
 obtain ⟨_, _, _, _, _, w', e, hp⟩:=h
 exact hp.nd
theorem DrH.in {w W : World} {C : Nat} {L : List Th} (h : DrH w C L W) (i : Nat) {x : Th} (e : L[i]? = some x) : x.In w.heap.size W:=h.all _ (List.mem_of_getElem? e)
theorem DrH.get {w W : World} {C : Nat} {L : List Th} (h : DrH w C L W) (i : Nat) {b : Nat} {t : TypeId} {cs : List Value} (e : L[i]? = some (.ob b t cs)) : W.heap[b]? = some (.cells cs.toArray t (0, 0)):=(h.in i e).2
theorem DrH.at {w W : World} {C : Nat} {L : List Th} (h : DrH w C L W) (i : Nat) {b : Nat} {t : TypeId} {cs : List Value} (e : L[i]? = some (.ob b t cs)) (k : Nat) {v : Value} (hv : cs[k]? = some v) : W.cell? ⟨b, k, none⟩ = some v:=by
 rw [cell_of_row W b k _ _ _ (h.get i e), List.getElem?_toArray];exact hv
theorem DrH.frozen {w W : World} {C : Nat} {L : List Th} (h : DrH w C L W) (i : Nat) {b : Nat} {t : TypeId} {cs : List Value} (e : L[i]? = some (.ob b t cs)) (k : Nat) : W.frozen? ⟨b, k, none⟩ = false:=frozen_of_row _ _ _ _ _ (h.get i e)
theorem DrH.reads {w W : World} {C : Nat} {L : List Th} (h : DrH w C L W) (i : Nat) {R : List Rng} (e : L[i]? = some (.rd R)) : RdIn W R:=h.in i e
theorem DrH.pick {w W : World} {C : Nat} {L M : List Th} (h : DrH w C L W) (is : List Nat) (e : is.map (fun i=>L[i]?) = M.map some) : Hold w.heap.size M W:=fun x hx=>by
 have : some x ∈ M.map some:=List.mem_map.2 ⟨x, hx, rfl⟩
 rw [← e, List.mem_map] at this
 obtain ⟨i, _, hi⟩:=this
 exact h.in i hi
theorem pull_mem {L M : List Th} (is : List Nat) (e : is.map (fun i=>L[i]?) = M.map some) {x : Th} (hx : x ∈ M) : x ∈ L:=by
 have : some x ∈ M.map some:=List.mem_map.2 ⟨x, hx, rfl⟩
 rw [← e, List.mem_map] at this
 obtain ⟨i, _, hi⟩:=this
 exact List.mem_of_getElem? hi
theorem DrH.pull {w W : World} {C : Nat} {L M : List Th} (h : DrH w C L W) (is : List Nat) (e : is.map (fun i=>L[i]?) = M.map some) (hn : M.Pairwise Th.Apart) : DrH w C M W :=
 h.step (Nat.le_refl _) (fun _ _ hp=>hp.pull is e hn) (fun x hx=>h.off x (pull_mem is e hx)) (fun x hx=>h.nocd x (pull_mem is e hx))
theorem DrH.drew {w W : World} {C : Nat} {L : List Th} (h : DrH w C L W) : DrH w C L W.drew:=h.step (Nat.le_refl _) (fun _ _ hp=>hp.drew) h.off h.nocd
theorem DrH.calls {w W W' : World} {C : Nat} {L : List Th} (h : DrH w C L W) (hb : Below W.heap.size W W') : DrH w C L W':=h.step hb.size (fun _ _ hp=>hp.calls hb) h.off h.nocd
theorem DrH.put {w W : World} {C : Nat} {L : List Th} (h : DrH w C L W) (t : TypeId) (cs : List Value) : DrH w C (L ++ [.ob W.heap.size t cs]) (W.alloc (.cells cs.toArray t)) :=
 h.step ((Below.refl W.heap.size W).alloc (Nat.le_refl _) _).size (fun _ _ hp=>hp.put t cs) (fun x hx=>by
  rcases List.mem_append.1 hx with hx | hx
  ·exact h.off x hx
  ·obtain rfl:=List.mem_singleton.1 hx
   exact fun b hb=>absurd hb List.not_mem_nil) (fun x hx=>by
  rcases List.mem_append.1 hx with hx | hx
  ·exact h.nocd x hx
  ·obtain rfl:=List.mem_singleton.1 hx
   intro c hc
   cases hc)
theorem DrH.row {w W : World} {C : Nat} {L : List Th} (h : DrH w C L W) (i : Nat) {b : Nat} {t : TypeId} {cs : List Value} (e : L[i]? = some (.ob b t cs)) (cs' : List Value) : DrH w C (L.set i (.ob b t cs')) (W.setRow b cs'.toArray) :=
 h.step (by simp [World.setRow]) (fun _ _ hp=>hp.row i e cs') (fun x hx=>by
  rcases List.mem_or_eq_of_mem_set hx with hx | rfl
  ·exact h.off x hx
  ·exact fun b hb=>absurd hb List.not_mem_nil) (fun x hx=>by
  rcases List.mem_or_eq_of_mem_set hx with hx | rfl
  ·exact h.nocd x hx
  ·intro c hc
   cases hc)
theorem DrH.set {w W : World} {C : Nat} {L : List Th} (h : DrH w C L W) (i : Nat) {b : Nat} {t : TypeId} {cs : List Value} (e : L[i]? = some (.ob b t cs)) (k : Nat) (v : Value) : DrH w C (L.set i (.ob b t (cs.set k v))) (W.setCell ⟨b, k, none⟩ v) :=
 h.step (by simp [World.setCell]) (fun _ _ hp=>hp.set i e k v) (fun x hx=>by
  rcases List.mem_or_eq_of_mem_set hx with hx | rfl
  ·exact h.off x hx
  ·exact fun b hb=>absurd hb List.not_mem_nil) (fun x hx=>by
  rcases List.mem_or_eq_of_mem_set hx with hx | rfl
  ·exact h.nocd x hx
  ·intro c hc
   cases hc)
theorem DrH.addrd {w W W' : World} {C : Nat} {L : List Th} (h : DrH w C L W) (hb : Below W.heap.size W W') (R : List Rng) (hR : RdIn W' R) (hr : ∀ r ∈ R, W.heap.size ≤ r.1 ∨ ∃ z ∈ L, r.1 ∈ z.reads) : DrH w C (L ++ [.rd R]) W' :=
 h.step hb.size (fun _ _ hp=>hp.addrd hb R hR hr) (fun x hx=>by
  rcases List.mem_append.1 hx with hx | hx
  ·exact h.off x hx
  ·obtain rfl:=List.mem_singleton.1 hx
   intro b hb
   obtain ⟨r, hr', rfl⟩:=List.mem_map.1 hb
   rcases hr r hr' with h1 | ⟨z, hz, h1⟩
   ·have:=h.bes.size
    omega
   ·exact h.off z hz _ h1) (fun x hx=>by
  rcases List.mem_append.1 hx with hx | hx
  ·exact h.nocd x hx
  ·obtain rfl:=List.mem_singleton.1 hx
   intro c hc
   cases hc)
theorem keep_nocd {B : Nat} {W W' : World} {x : Th} (h : x.In B W) (hc : ∀ c, x ≠ .cd c) (hs : W.heap.size ≤ W'.heap.size) (hx : ∀ b, x.blk = some b → W'.heap[b]? = W.heap[b]?) (hr : ∀ b ∈ x.reads, W'.heap[b]? = W.heap[b]?) : x.In B W':=by
 cases x with
 | ob c t cs=>exact ⟨h.1, (hx c rfl).trans h.2⟩
 | sl v e z n xs =>
  refine ⟨h.1, ?_⟩
  rcases h.2 with h0 | ⟨g, cap, cur, hv, hB, hg, hr⟩
  ·exact .inl h0
  ·exact .inr ⟨g, cap, cur, hv, hB, (hx g (by rw [hv];rfl)).trans hg, hr⟩
 | cd C=>exact absurd rfl (hc C)
 | rd R=>exact RdIn.keep h hs hr
theorem DrH.draws {w W W' : World} {C : Nat} {L : List Th} (h : DrH w C L W) (hb : Besides C W W') (hc : CodesOk W' C) : DrH w C L W':=by
 obtain ⟨bes, cod, lt, off, nocd, w', e, hp⟩:=h
 have hsz : w.heap.size ≤ W'.heap.size:=Nat.le_trans bes.size hb.size
 have e2 : (W'.heap.extract 0 w.heap.size).size = w.heap.size:=by rw [Array.size_extract];omega
 refine ⟨bes.trans hb, hc, lt, off, nocd, { W' with heap:=W'.heap.extract 0 w.heap.size }, e2, ⟨rfl, rfl, rfl, ?_, fun k hk=>?_⟩, fun x hx=>?_, hp.nd⟩
 ·show (W'.heap.extract 0 w.heap.size).size ≤ W'.heap.size
  omega
 ·have hk' : k < (W'.heap.extract 0 w.heap.size).size:=hk
  show W'.heap[k]? = (W'.heap.extract 0 w.heap.size)[k]?
  rw [Array.getElem?_extract]
  rw [if_pos (by omega)]
  simp
 ·show x.In (W'.heap.extract 0 w.heap.size).size W'
  rw [e2, ← e]
  exact keep_nocd (hp.all x hx) (nocd x hx) hb.size (fun b h1=>hb.block b ((hp.all x hx).from h1).2 (by have:=((hp.all x hx).from h1).1;omega)) (fun b h1=>hb.block b ((hp.all x hx).reads_lt h1) (by have:=off x hx b h1;omega))
theorem set_off {P : Th → Prop} {L : List Th} (h : ∀ x ∈ L, P x) (i : Nat) {y : Th} (hy : P y) : ∀ x ∈ L.set i y, P x:=fun x hx=>by
 rcases List.mem_or_eq_of_mem_set hx with hx | rfl
 ·exact h x hx
 ·exact hy
theorem DrH.own {w W : World} {C : Nat} {L : List Th} (h : DrH w C L W) (i : Nat) {v : Value} {t : TypeId} {z n : Nat} {xs : List Value} (e : L[i]? = some (.sl v t z n xs)) : W.ownsRow w.heap.size t z v n xs:=h.in i e
theorem DrH.ne {w W : World} {C : Nat} {L : List Th} (h : DrH w C L W) (i j : Nat) {x y : Th} {b c : Nat} (ei : L[i]? = some x) (ej : L[j]? = some y) (hij : i ≠ j) (hb : x.blk = some b) (hc : y.blk = some c) : b ≠ c:=fun e=>by
 subst e
 exact (apart_at h.nd i j x y ei ej hij).1 b hb |>.1 hc
theorem DrH.grown {w W W' : World} {C : Nat} {L : List Th} (h : DrH w C L W) (i : Nat) {v v' : Value} {t : TypeId} {z n m : Nat} {xs ys : List Value} (e : L[i]? = some (.sl v t z n xs)) (ho : W'.ownsRow w.heap.size t z v' m ys) (hg : W.grownBy W' v.ownBlock) (hb : v'.ownBlock = v.ownBlock ∨ v'.ownBlock = some W.heap.size) : DrH w C (L.set i (.sl v' t z m ys)) W' :=
 h.step hg.size (fun w' ew hp=>hp.grown i e (by rw [ew];exact ho) hg hb) (set_off h.off i (fun b hb=>absurd hb List.not_mem_nil)) (set_off h.nocd i (fun c hc=>by cases hc))
theorem DrH.append {w W : World} {C : Nat} {L : List Th} (h : DrH w C L W) (i : Nat) {v : Value} {e : TypeId} {z n : Nat} {xs : List Value} (ei : L[i]? = some (.sl v e z n xs)) (j : Nat) {b : Nat} {t' : TypeId} {ys : List Value} (ej : L[j]? = some (.ob b t' ys))
  (ts : TypeId) (ty : TypeId) {bytes : Nat} (ht : Try.prog.underlying ts = some (.slice e)) (he : ElemIs e z bytes) (m c : Nat) (hl : ys.length = m * z) (h1 : ∀ u ∈ ys, u.oneCell' = true) (hn : n + m ≤ 1048576) :
  ∃ v' W', (Builtin.append_ #[ts, ts] ty #[v, .slice (some ⟨b, 0, none⟩) m c]).run Try.prog W = .ok v' W' ∧ DrH w C (L.set i (.sl v' e z (n + m) (xs ++ ys))) W' ∧ (v' = .slice none 0 0 ↔ v = .slice none 0 0 ∧ m = 0):=by
 obtain ⟨inf, zv, hi, hz, hsize, hby, hzs⟩:=he.is
 have hroom:=he.room
 have hcell : ∀ q u, ys[q]? = some u → W.cell? ((⟨b, 0, none⟩ : Addr).add q) = some u:=fun q u hu=>by
  rw [Addr.add_mid, Nat.zero_add]
  exact h.at j ej q hu
 obtain ⟨v', W', hr, h2, h3, h4, h5⟩:=run_append_own_at (P:=Try.prog) W w.heap.size ts ty e inf zv z bytes ht hi hz hsize hby hzs he.pos v n xs (h.own i ei) ⟨b, 0, none⟩ m c ys hl hcell h1 (by unfold maxLen;omega) (by
  have:=Nat.mul_le_mul hn hroom
  omega) h.bes.size
 exact ⟨v', W', hr, h.grown i ei h2 h3 h5, h4⟩
end Go.Proofs.Ytooaldglgkjjgaa
/- the choices of the drawing package: Grant -/
namespace Go.Proofs.Ytooaldglgkjjgaa
open Go.RowKit
set_option maxRecDepth 20000
set_option linter.unusedSimpArgs false
set_option linter.unusedVariables false

theorem build_lk2 (p s : Int) (W : World) : Sem.run Try.prog (Instr.build 27 #[(0, .int .i64 p), (1, .int .i64 s)]) W = .ok (.agg (lkCells ⟨p, s⟩).toArray) W:=by kernel_rfl
theorem build_gr3 (t p s m : Int) (W : World) : Sem.run Try.prog (Instr.build 29 #[(0, .int .i64 t), (1, .agg (lkCells ⟨p, s⟩).toArray), (2, .int .i64 m)]) W = .ok (.agg (grCells ⟨t, p, s, m⟩).toArray) W:=by kernel_rfl
def GrantPost (C : Nat) (w : World) (e : Ending) (w' : World) : Prop:=∃ g : Gr, e = .returned (.agg (grCells g).toArray) ∧ GrOk g ∧ Besides C w w' ∧ CodesOk w' C ∧ leftIn w' C ≤ leftIn w C - 1
/-- beside it: of whom -/
def GrantPost5 (C : Nat) (w : World) (e : Ending) (w' : World) : Prop:=∃ g : Gr, e = .returned (.agg (grCells g).toArray) ∧ GrOk g ∧ g.tx ≤ 5 ∧ Besides C w w' ∧ CodesOk w' C ∧ leftIn w' C ≤ leftIn w C - 1
set_option maxHeartbeats 4000000 in
theorem grant5_any (C : Nat) (w : World) (h : CodesOk w C) :
    Calls Try.prog 16 #[.pointer (some ⟨C, 0, none⟩)] w (GrantPost5 C w):=by
  obtain ⟨fsHUG, huHUG⟩:=under_gr
  have HUG:=Lib.hid huHUG
  clear huHUG
  obtain ⟨fsHUK, huHUK⟩:=under_lk
  have HUK:=Lib.hid huHUK
  clear huHUK
  obtain ⟨fsHUT, huHUT⟩:=under_tb
  have HUT:=Lib.hid huHUT
  clear huHUT
  have hlt:=h.lt
  have HLt:=Lib.hid hlt
  have h1:=(DrH.start h).put 29 (grCells grNil)
  have HS0 : Hid (DrH w C [.ob w.heap.size 29 (grCells grNil)] (w.alloc (.cells #[.int .i64 0, .int .i64 0, .int .i64 0, .int .i64 0] 29))):=h1
  have HL0 : Hid (leftIn (w.alloc (.cells #[.int .i64 0, .int .i64 0, .int .i64 0, .int .i64 0] 29)) C = leftIn w C):=Lib.hid (leftIn_below (B:=w.heap.size) ((Below.refl _ _).alloc (Nat.le_refl _) _) hlt)
  clear h h1 hlt
  go_enter Try.func16, Try.ntmps16
  go_upto_region 1 with (fail)
  generalize (w.alloc (.cells #[.int .i64 0, .int .i64 0, .int .i64 0, .int .i64 0] 29)) = w1 at *
  go_wp2_with fail
  refine (left_small C 5 _ (HS0.out).codes (by decide) (by decide)).mono ?_
  rintro e w3 ⟨n, rfl, n0, n1, hb, hc, hl⟩
  have HS2 : Hid (DrH w C [.ob (w.heap.size) 29 (grCells grNil)] w3):=(HS0.out).draws hb hc
  clear hb hc
  clear HS0
  have HL1:=Lib.hid hl
  have n2 : n < 5:=by omega
  clear hl n1
  have wna : IntKind.i64.wrap (1 + n) = 1 + n:=IntWalk.i64_in _ (by omega)
  have wnb : wrap64 (1 + n) = 1 + n:=IntWalk.wrap64_in _ (by omega)
  go_wp2_with fail
  refine (left_small C 2 _ (HS2.out).codes (by decide) (by decide)).mono ?_
  rintro e w4 ⟨p, rfl, p0, p1, hb, hc, hl⟩
  have HS3 : Hid (DrH w C [.ob (w.heap.size) 29 (grCells grNil)] w4):=(HS2.out).draws hb hc
  clear hb hc
  clear HS2
  have HL2:=Lib.hid hl
  have p2 : p < 2:=by omega
  clear hl p1
  go_wp2_with fail
  refine (left_small C 2 _ (HS3.out).codes (by decide) (by decide)).mono ?_
  rintro e w5 ⟨s, rfl, s0, s1, hb, hc, hl⟩
  have HS4 : Hid (DrH w C [.ob (w.heap.size) 29 (grCells grNil)] w5):=(HS3.out).draws hb hc
  clear hb hc
  clear HS3
  have HL3:=Lib.hid hl
  have s2 : s < 2:=by omega
  clear hl s1
  go_wp2_with (first | ((with_reducible refine wpList_build_v (d:=some 10) 27 (.agg (lkCells (⟨p, s⟩ : Lok)).toArray) ?_ ?_);(intro W;simp only [List.map_toArray, List.map_cons, List.map_nil];exact build_lk2 _ _ W);simp only [Act.put, List.setIfInBounds_toArray, List.set_cons_zero, List.set_cons_succ]))
  refine (left_small C 2 _ (HS4.out).codes (by decide) (by decide)).mono ?_
  rintro e w6 ⟨m, rfl, m0, m1, hb, hc, hl⟩
  have HS5 : Hid (DrH w C [.ob (w.heap.size) 29 (grCells grNil)] w6):=(HS4.out).draws hb hc
  clear hb hc
  clear HS4
  have HL4:=Lib.hid hl
  have m2 : m < 2:=by omega
  clear hl m1
  have wma : IntKind.i64.wrap (1 + m) = 1 + m:=IntWalk.i64_in _ (by omega)
  have wmb : wrap64 (1 + m) = 1 + m:=IntWalk.wrap64_in _ (by omega)
  go_wp2_with (first | ((with_reducible refine wpList_build_v (d:=some 14) 29 (.agg (grCells (⟨1 + n, p, s, 1 + m⟩ : Gr)).toArray) ?_ ?_);(intro W;simp only [List.map_toArray, List.map_cons, List.map_nil];exact build_gr3 _ _ _ _ W);simp only [Act.put, List.setIfInBounds_toArray, List.set_cons_zero, List.set_cons_succ]) | ((with_reducible refine wpList_store_ob 29 (.tmp 2) (w.heap.size) (grCells (⟨1 + n, p, s, 1 + m⟩ : Gr)) (grCells grNil) 29 ?_ ?_ ?_ ?_ ?_ ?_ ?_);(exact rfl);(exact rfl);(exact (HS5.out).get 0 rfl);(exact info_gr);(exact rfl);(exact (oneCell_gr _));skip))
  have HLe : Hid (leftIn (w6.setRow (w.heap.size) (grCells (⟨1 + n, p, s, 1 + m⟩ : Gr)).toArray) C = leftIn w6 C):=Lib.hid (leftIn_of (setRow_other _ _ _ _ (Nat.ne_of_lt HLt.out)))
  have HS6 : Hid (DrH w C [.ob (w.heap.size) 29 (grCells (⟨1 + n, p, s, 1 + m⟩ : Gr))] (w6.setRow (w.heap.size) (grCells (⟨1 + n, p, s, 1 + m⟩ : Gr)).toArray)):=(HS5.out).row 0 rfl (grCells (⟨1 + n, p, s, 1 + m⟩ : Gr))
  clear HS5
  generalize (w6.setRow (w.heap.size) (grCells (⟨1 + n, p, s, 1 + m⟩ : Gr)).toArray) = w7 at *
  refine bodyPost_ret (results_ob Try.results16 _ _ (w.heap.size) (grCells ⟨1 + n, p, s, 1 + m⟩) 29 _ rfl ((HS6.out).get 0 rfl) HUG.out rfl info_gr) rfl ?_
  exact ⟨⟨1 + n, p, s, 1 + m⟩, rfl, ⟨by simp only;omega, by simp only;omega, by simp only;omega, by simp only;omega⟩, by simp only;omega, (HS6.out).bes, (HS6.out).codes, by have l0:=HL0.out;have l1:=HL1.out;have l2:=HL2.out;have l3:=HL3.out;have l4:=HL4.out;have l5:=HLe.out;omega⟩
theorem grant_any (C : Nat) (w : World) (h : CodesOk w C) :
    Calls Try.prog 16 #[.pointer (some ⟨C, 0, none⟩)] w (GrantPost C w):=by
  refine (grant5_any C w h).mono ?_
  rintro e w' ⟨g, h1, h2, _, h3⟩
  exact ⟨g, h1, h2, h3⟩
end Go.Proofs.Ytooaldglgkjjgaa
/- the choices of the drawing package: Locks -/
namespace Go.Proofs.Ytooaldglgkjjgaa
open Go.RowKit
open Go.Act renaming put → z0
open List renaming setIfInBounds_toArray → z1, set_cons_zero → z2, set_cons_succ → z3
set_option maxRecDepth 20000
set_option linter.unusedSimpArgs false
set_option linter.unusedVariables false

theorem tb_as {f : FuncId} {args : Array Value} {w w1 : World} {R : List Rng} {x y : Tb} (h : x = y) (c : Calls Try.prog f args w (TbPost w1 R x)) : Calls Try.prog f args w (TbPost w1 R y):=h ▸ c
theorem tb3_as {f : FuncId} {args : Array Value} {w w1 : World} {R : List Rng} {x y : Tb × Bool × Int} (h : x = y) (c : Calls Try.prog f args w (TbPost3 w1 R x)) : Calls Try.prog f args w (TbPost3 w1 R y):=h ▸ c
def LocksPost (C : Nat) (w : World) (e : Ending) (w' : World) : Prop:=∃ (t : Tb) (h v : Value) (R : List Rng), e = .returned (.agg (tbCells h v).toArray) ∧ Settled t ∧ tbLen t ≤ 13 ∧ TbRd h v t R ∧ RdIn w' R ∧ (∀ r ∈ R, w.heap.size ≤ r.1) ∧ Besides C w w' ∧ CodesOk w' C
abbrev qDrLk_0 : Oper:={ dst:=some 30, op:=Op.move (Operand.tmp 0), type:=31, pos := "draw.go:248", after:=#[], guard:=none }
abbrev qDrLk_1 : Oper:={ dst:=some 29, op:=Op.load 25 (Operand.tmp 3), type:=25, pos := "draw.go:248", after:=#[], guard:=none }
abbrev qDrLk_2 : Oper:={ dst:=some 31, op:=Op.call { callee:=Callee.value (Operand.func 20), args:=#[Operand.tmp 30, Operand.const (Value.int IntKind.i64 5)], argTypes:=#[31, 3] }, type:=3, pos := "draw.go:248", after:=#[{ on:=1, ground:=Ground.data }], guard:=none }
abbrev qDrLk_3 : Oper:={ dst:=some 32, op:=Op.binOp BinOp.add 3 (Operand.const (Value.int IntKind.i64 1)) (Operand.tmp 31) 3, type:=3, pos := "draw.go:248", after:=#[{ on:=2, ground:=Ground.data }], guard:=none }
abbrev qDrLk_4 : Oper:={ dst:=some 33, op:=Op.call { callee:=Callee.value (Operand.func 26), args:=#[Operand.tmp 29, Operand.tmp 32], argTypes:=#[25, 3] }, type:=25, pos := "draw.go:248", after:=#[{ on:=0, ground:=Ground.data }, { on:=3, ground:=Ground.data }, { on:=2, ground:=Ground.chain }], guard:=none }
abbrev qDrLk_5 : Oper:={ dst:=none, op:=Op.store 25 (Operand.tmp 3) (Operand.tmp 33), type:=0, pos := "draw.go:248", after:=#[{ on:=4, ground:=Ground.data }, { on:=4, ground:=Ground.chain }, { on:=0, ground:=Ground.phase }, { on:=1, ground:=Ground.phase }, { on:=2, ground:=Ground.phase }, { on:=3, ground:=Ground.phase }, { on:=4, ground:=Ground.phase }], guard:=none }
abbrev qDrLk_6 : Oper:={ dst:=some 37, op:=Op.move (Operand.tmp 0), type:=31, pos := "draw.go:250", after:=#[], guard:=none }
abbrev qDrLk_7 : Oper:={ dst:=some 36, op:=Op.load 25 (Operand.tmp 3), type:=25, pos := "draw.go:250", after:=#[], guard:=none }
abbrev qDrLk_8 : Oper:={ dst:=some 38, op:=Op.call { callee:=Callee.value (Operand.func 20), args:=#[Operand.tmp 37, Operand.const (Value.int IntKind.i64 5)], argTypes:=#[31, 3] }, type:=3, pos := "draw.go:250", after:=#[{ on:=1, ground:=Ground.data }], guard:=none }
abbrev qDrLk_9 : Oper:={ dst:=some 39, op:=Op.binOp BinOp.add 3 (Operand.const (Value.int IntKind.i64 1)) (Operand.tmp 38) 3, type:=3, pos := "draw.go:250", after:=#[{ on:=2, ground:=Ground.data }], guard:=none }
abbrev qDrLk_10 : Oper:={ dst:=some 40, op:=Op.call { callee:=Callee.value (Operand.func 27), args:=#[Operand.tmp 36, Operand.tmp 39], argTypes:=#[25, 3] }, type:=25, pos := "draw.go:250", after:=#[{ on:=0, ground:=Ground.data }, { on:=3, ground:=Ground.data }, { on:=2, ground:=Ground.chain }], guard:=none }
abbrev qDrLk_11 : Oper:={ dst:=none, op:=Op.store 25 (Operand.tmp 3) (Operand.tmp 40), type:=0, pos := "draw.go:250", after:=#[{ on:=4, ground:=Ground.data }, { on:=4, ground:=Ground.chain }, { on:=0, ground:=Ground.phase }, { on:=1, ground:=Ground.phase }, { on:=2, ground:=Ground.phase }, { on:=3, ground:=Ground.phase }, { on:=4, ground:=Ground.phase }], guard:=none }
abbrev qDrLk_12 : Oper:={ dst:=some 18, op:=Op.move (Operand.tmp 0), type:=31, pos := "draw.go:252", after:=#[], guard:=none }
abbrev qDrLk_13 : Oper:={ dst:=some 17, op:=Op.load 25 (Operand.tmp 3), type:=25, pos := "draw.go:252", after:=#[], guard:=none }
abbrev qDrLk_14 : Oper:={ dst:=some 19, op:=Op.call { callee:=Callee.value (Operand.func 16), args:=#[Operand.tmp 18], argTypes:=#[31] }, type:=29, pos := "draw.go:252", after:=#[{ on:=1, ground:=Ground.data }], guard:=none }
abbrev qDrLk_15 : Oper:={ dst:=some 5, op:=Op.alloc 25, type:=0, pos := "draw.go:252", after:=#[], guard:=none }
abbrev qDrLk_16 : Oper:={ dst:=some 20, op:=Op.call { callee:=Callee.value (Operand.func 28), args:=#[Operand.tmp 17, Operand.tmp 19], argTypes:=#[25, 29] }, type:=51, pos := "draw.go:252", after:=#[{ on:=0, ground:=Ground.data }, { on:=2, ground:=Ground.data }, { on:=2, ground:=Ground.chain }], guard:=none }
abbrev qDrLk_17 : Oper:={ dst:=some 16, op:=Op.move (Operand.tmp 20), type:=51, pos := "draw.go:252", after:=#[{ on:=3, ground:=Ground.data }], guard:=none }
abbrev qDrLk_18 : Oper:={ dst:=some 21, op:=Op.extract (Operand.tmp 16) 0, type:=25, pos := "draw.go:252", after:=#[{ on:=4, ground:=Ground.data }], guard:=none }
abbrev qDrLk_19 : Oper:={ dst:=some 22, op:=Op.extract (Operand.tmp 16) 1, type:=4, pos := "draw.go:252", after:=#[{ on:=4, ground:=Ground.data }, { on:=9, ground:=Ground.gcOnly Departure.lateStores }], guard:=none }
abbrev qDrLk_20 : Oper:={ dst:=some 23, op:=Op.extract (Operand.tmp 16) 2, type:=42, pos := "draw.go:252", after:=#[{ on:=4, ground:=Ground.data }, { on:=10, ground:=Ground.gcOnly Departure.lateStores }], guard:=none }
abbrev qDrLk_21 : Oper:={ dst:=none, op:=Op.store 25 (Operand.tmp 5) (Operand.tmp 21), type:=0, pos := "draw.go:252", after:=#[{ on:=8, ground:=Ground.data }, { on:=5, ground:=Ground.data }, { on:=3, ground:=Ground.chain }, { on:=0, ground:=Ground.phase }, { on:=1, ground:=Ground.phase }, { on:=2, ground:=Ground.phase }, { on:=3, ground:=Ground.phase }, { on:=4, ground:=Ground.phase }, { on:=5, ground:=Ground.phase }, { on:=6, ground:=Ground.textOnly Departure.lateStores }, { on:=7, ground:=Ground.textOnly Departure.lateStores }, { on:=8, ground:=Ground.phase }], guard:=none }
abbrev qDrLk_22 : Oper:={ dst:=some 6, op:=Op.assign (Operand.tmp 22), type:=4, pos := "draw.go:252", after:=#[{ on:=6, ground:=Ground.data }, { on:=9, ground:=Ground.chain }, { on:=0, ground:=Ground.phase }, { on:=1, ground:=Ground.phase }, { on:=2, ground:=Ground.phase }, { on:=3, ground:=Ground.phase }, { on:=4, ground:=Ground.phase }, { on:=5, ground:=Ground.phase }, { on:=6, ground:=Ground.phase }, { on:=7, ground:=Ground.textOnly Departure.lateStores }, { on:=8, ground:=Ground.phase }, { on:=9, ground:=Ground.phase }], guard:=none }
abbrev qDrLk_23 : Oper:={ dst:=some 7, op:=Op.assign (Operand.tmp 23), type:=42, pos := "draw.go:252", after:=#[{ on:=7, ground:=Ground.data }, { on:=10, ground:=Ground.chain }, { on:=0, ground:=Ground.phase }, { on:=1, ground:=Ground.phase }, { on:=2, ground:=Ground.phase }, { on:=3, ground:=Ground.phase }, { on:=4, ground:=Ground.phase }, { on:=5, ground:=Ground.phase }, { on:=6, ground:=Ground.phase }, { on:=7, ground:=Ground.phase }, { on:=8, ground:=Ground.phase }, { on:=9, ground:=Ground.phase }, { on:=10, ground:=Ground.phase }], guard:=none }
set_option maxHeartbeats 16000000 in
theorem locks_any (C : Nat) (w : World) (h : CodesOk w C) :
  Calls Try.prog 8 #[.pointer (some ⟨C, 0, none⟩)] w (LocksPost C w):=by
 obtain ⟨fsHUG, huHUG⟩:=under_gr
 have HUG:=Lib.hid huHUG
 clear huHUG
 obtain ⟨fsHUK, huHUK⟩:=under_lk
 have HUK:=Lib.hid huHUK
 clear huHUK
 obtain ⟨fsHUT, huHUT⟩:=under_tb
 have HUT:=Lib.hid huHUT
 clear huHUT
 have h1:=(((DrH.start h).put 25 (tbCells (.slice none 0 0) (.slice none 0 0))).put 25 (tbCells (.slice none 0 0) (.slice none 0 0))).addrd (Below.refl _ _) [] (RdIn.nil _) (by simp)
 simp only [World.size_alloc, List.nil_append, List.cons_append] at h1
 have HS0 : Hid (DrH w C [.ob w.heap.size 25 (tbCells (.slice none 0 0) (.slice none 0 0)), .ob (w.heap.size + 1) 25 (tbCells (.slice none 0 0) (.slice none 0 0)), .rd []] ((w.alloc (.cells #[.slice none 0 0, .slice none 0 0] 25)).alloc (.cells #[.slice none 0 0, .slice none 0 0] 25))):=h1
 clear h h1
 go_enter Try.func8, Try.ntmps8
 go_upto_region 2 with (fail)
 generalize ((w.alloc (.cells #[.slice none 0 0, .slice none 0 0] 25)).alloc (.cells #[.slice none 0 0, .slice none 0 0] 25)) = w1 at *
 generalize w.heap.size = b2 at HS0 ⊢
 generalize b2 + 1 = b3 at *
 go_wp2_with fail
 refine (next_any C 14 _ HS0.out.codes (by omega)).mono ?_
 rintro e w2 ⟨kn, rfl, k0, k1, hb, hc⟩
 have HS1:=Lib.hid (HS0.out.draws hb hc)
 clear hb hc HS0
 have hk5 : kn ≤ 13:=by omega
 go_wp2_with fail
 go_loopw [4] (fun si wr=>∃ (t : Tb) (a a2 : Option Addr) (cap cap2 : Nat) (R : List Rng) (i : Int), si = .int .i64 i ∧ 0 ≤ i ∧ (tbLen t : Int) + i ≤ 13 ∧ Settled t ∧ TbRd (.slice a t.held.length cap) (.slice a2 t.wait.length cap2) t R ∧ DrH w C [.ob b2 25 (tbCells (.slice none 0 0) (.slice none 0 0)), .ob b3 25 (tbCells (.slice a t.held.length cap) (.slice a2 t.wait.length cap2)), .rd R] wr) (fun si _=>(intOf si).toNat)
 case atStart=>exact ⟨tbNil, none, none, 0, 0, [], kn, rfl, k0, by show ((0 : Nat) : Int) + kn ≤ 13;omega, tbNil_settled, TbRd.nil _, HS1.out⟩
 case round =>
  clear HS1 k0 k1 hk5
  obtain ⟨t, a, a2, cap, cap2, R, i, rfl, hi0, hi13, hst, hrd, hs⟩:=hrel
  have HSt:=Lib.hid hst
  have HRd:=Lib.hid hrd
  have HY:=Lib.hid hs
  have HI:=Lib.hid (And.intro hi0 hi13)
  clear hst hrd hs
  by_cases hi : 0 < i
  ·have hiw : IntKind.i64.wrap (i - 1) = i - 1:=IntWalk.i64_in _ (by omega)
   have hiw2 : wrap64 (i - 1) = i - 1:=IntWalk.wrap64_in _ (by omega)
   have hid0 : decide (0 < i) = true:=decide_eq_true hi
   have HP:=Lib.hid hi
   clear hi0 hi13 hi
   go_wp2_with fail
   refine (next_any C 6 _ HY.out.codes (by omega)).mono ?_
   rintro e w3 ⟨s, rfl, s0, s1, hb, hc⟩
   have HY2:=Lib.hid (HY.out.draws hb hc)
   clear hb hc HY
   by_cases hs4 : s = 4
   ·obtain ⟨e1, n1⟩:=eq_facts hs4
    clear hs4 s0 s1
    have HU : Hid (∀ n, ∃ u, releaseR t (1 + n) = u ∧ Settled u ∧ tbLen u ≤ tbLen t):=Lib.hid (fun n=>⟨_, rfl, release_ok HSt.out.ok (1 + n)⟩)
    go_upto_region 10 with (fail)
    refine wp_region_held_drew (S:=fun w'=>True) (by kernel_rfl) (trivial) (fun hHeld=>?_)
    refine tk 1 qDrLk_0 (some 30) (v:=?q1v) (Or.inl ⟨by rfl, ?q1h⟩) hHeld ?q1r
    case q1h=>(intro _ h;clear h;go_simp;try with_reducible rfl)
    try simp only [z0, z1, z2, z3]
    refine wpAnyH_ready (rs:=[0, 2]) (by kernel_rfl) (by simp) ?_
    refine AllReadyH.cons (o:=qDrLk_1) rfl (fun K hK=>?_) (AllReadyH.cons (o:=qDrLk_2) rfl (fun K hK=>?_) (AllReadyH.nil))
    ·rw [if_pos (by rfl)]
     refine wp_load_whole 25 (.tmp 3) b3 (tbCells (.slice a t.held.length cap) (.slice a2 t.wait.length cap2)) 25 HUT.out rfl rfl (((HY2.out).drew).get 1 rfl) rfl (info_tb) ?_
     have HS41 : Hid (DrH w C [.ob b2 25 (tbCells (.slice none 0 0) (.slice none 0 0)), .ob b3 25 (tbCells (.slice a t.held.length cap) (.slice a2 t.wait.length cap2)), .rd R] (w3.drew)):=(HY2.out).drew
     refine hK.out _ _ (trivial) (fun hHeld=>?_)
     clear hK K
     generalize w3.drew = w41 at *
     try simp only [z0, z1, z2, z3]
     refine tn 2 qDrLk_2 (fun K hK=>?_)
     go_simp
     go_wp2_with (go_at_call 20;refine (next_any C 5 _ (HS41.out).codes (by omega)).mono ?_;rintro e w42 ⟨n, rfl, n0, n1, hb, hc⟩)
     have HS42 : Hid (DrH w C [.ob b2 25 (tbCells (.slice none 0 0) (.slice none 0 0)), .ob b3 25 (tbCells (.slice a t.held.length cap) (.slice a2 t.wait.length cap2)), .rd R] w42):=(HS41.out).draws hb hc
     refine hK.out _ _ (trivial) (fun hHeld=>?_)
     clear hK K hb hc
     have hw : IntKind.i64.wrap (1 + n) = 1 + n:=IntWalk.i64_in _ (by omega)
     obtain ⟨u, hu, hsu, hlu⟩:=HU.out n
     have HUe:=Lib.hid hu
     have HSu:=Lib.hid hsu
     have HLu:=Lib.hid hlu
     clear hu hsu hlu n0 n1
     try simp only [z0, z1, z2, z3]
     refine tk 3 qDrLk_3 (some 32) (v:=?q2v) (Or.inl ⟨by rfl, ?q2h⟩) hHeld ?q2r
     case q2h=>(intro _ h;clear h;go_simp;try with_reducible rfl)
     try simp only [z0, z1, z2, z3]
     refine tn 4 qDrLk_4 (fun K hK=>?_)
     go_simp
     go_wp2_with (go_at_call 26;refine (tb_as HUe.out (rrelease_any (1 + n) _ HRd.out ((HS42.out).reads 2 rfl) HSt.out.ok.good)).mono ?_;rintro e w43 ⟨h9, v9, R9, rfl, hrd2, hin2, hnew2, hb⟩)
     have hnew3 : ∀ r ∈ R9, w.heap.size ≤ r.1:=fun r hr=>by
      rcases hnew2 r hr with h | h
      ·exact Nat.le_trans (HS42.out).bes.size h
      ·exact (HS42.out).off (.rd R) (List.mem_of_getElem? (i:=2) rfl) r.1 h
     obtain ⟨a9, c9, rfl, _, _⟩:=hrd2.1.shape
     obtain ⟨d9, e9, rfl, _, _⟩:=hrd2.2.shape
     have H9:=Lib.hid hrd2
     have HS43 : Hid (DrH w C [.ob b2 25 (tbCells (.slice none 0 0) (.slice none 0 0)), .ob b3 25 (tbCells (.slice a t.held.length cap) (.slice a2 t.wait.length cap2)), .rd R, .rd R9] w43):=(HS42.out).addrd hb R9 hin2 (fun r hr=>(hnew2 r hr).elim .inl (fun h=>.inr ⟨.rd R, List.mem_of_getElem? (i:=2) rfl, h⟩))
     refine hK.out _ _ (trivial) (fun hHeld=>?_)
     clear hK K hb hin2 hrd2 hnew2 hnew3
     try simp only [z0, z1, z2, z3]
     refine tn 5 qDrLk_5 (fun K hK=>?_)
     rw [if_pos (by rfl)]
     refine wp_store_ob 25 (.tmp 3) (.tmp 33) b3 (tbCells (.slice a9 u.held.length c9) (.slice d9 u.wait.length e9)) (tbCells (.slice a t.held.length cap) (.slice a2 t.wait.length cap2)) 25 rfl rfl rfl rfl ((HS43.out).get 1 rfl) (info_tb) (rfl) ((oneCell_tb _ _ _ _ _ _)) ?_
     have HS44 : Hid (DrH w C [.ob b2 25 (tbCells (.slice none 0 0) (.slice none 0 0)), .ob b3 25 (tbCells (.slice a9 u.held.length c9) (.slice d9 u.wait.length e9)), .rd R, .rd R9] (w43.setRow b3 (tbCells (.slice a9 u.held.length c9) (.slice d9 u.wait.length e9)).toArray)):=(HS43.out).row 1 rfl (tbCells (.slice a9 u.held.length c9) (.slice d9 u.wait.length e9))
     refine hK.out _ _ (trivial) (fun hHeld=>?_)
     clear hK K
     generalize (w43.setRow b3 (tbCells (.slice a9 u.held.length c9) (.slice d9 u.wait.length e9)).toArray) = w44 at *
     try simp only [z0, z1, z2, z3]
     refine wpAnyH_done (by kernel_rfl) ?_ _
     clear hHeld
     have HS45 : Hid (DrH w C [.ob b2 25 (tbCells (.slice none 0 0) (.slice none 0 0)), .ob b3 25 (tbCells (.slice a9 u.held.length c9) (.slice d9 u.wait.length e9)), .rd R9] w44):=HS44.out.pull [0, 1, 3] rfl (pull_nd HS44.out.nd [0, 1, 3] rfl (by decide))
     clear HS44
     go_wp2_with fail
     go_roundw
     case rel=>exact ⟨u, a9, d9, c9, e9, R9, i - 1, rfl, by have:=HP.out;omega, by have:=HI.out;have:=HLu.out;omega, HSu.out, H9.out, HS45.out⟩
     case measure=>simp [intOf];have:=HP.out;omega
    ·go_simp
     go_wp2_with (go_at_call 20;refine (next_any C 5 _ ((HY2.out).drew).codes (by omega)).mono ?_;rintro e w41 ⟨n, rfl, n0, n1, hb, hc⟩)
     have HS41 : Hid (DrH w C [.ob b2 25 (tbCells (.slice none 0 0) (.slice none 0 0)), .ob b3 25 (tbCells (.slice a t.held.length cap) (.slice a2 t.wait.length cap2)), .rd R] w41):=((HY2.out).drew).draws hb hc
     refine hK.out _ _ (trivial) (fun hHeld=>?_)
     clear hK K hb hc
     have hw : IntKind.i64.wrap (1 + n) = 1 + n:=IntWalk.i64_in _ (by omega)
     obtain ⟨u, hu, hsu, hlu⟩:=HU.out n
     have HUe:=Lib.hid hu
     have HSu:=Lib.hid hsu
     have HLu:=Lib.hid hlu
     clear hu hsu hlu n0 n1
     try simp only [z0, z1, z2, z3]
     refine tk 3 qDrLk_3 (some 32) (v:=?q3v) (Or.inl ⟨by rfl, ?q3h⟩) hHeld ?q3r
     case q3h=>(intro _ h;clear h;go_simp;try with_reducible rfl)
     try simp only [z0, z1, z2, z3]
     refine tn 0 qDrLk_1 (fun K hK=>?_)
     rw [if_pos (by rfl)]
     refine wp_load_whole 25 (.tmp 3) b3 (tbCells (.slice a t.held.length cap) (.slice a2 t.wait.length cap2)) 25 HUT.out rfl rfl ((HS41.out).get 1 rfl) rfl (info_tb) ?_
     have HS42 : Hid (DrH w C [.ob b2 25 (tbCells (.slice none 0 0) (.slice none 0 0)), .ob b3 25 (tbCells (.slice a t.held.length cap) (.slice a2 t.wait.length cap2)), .rd R] w41):=HS41.out
     refine hK.out _ _ (trivial) (fun hHeld=>?_)
     clear hK K
     try simp only [z0, z1, z2, z3]
     refine tn 4 qDrLk_4 (fun K hK=>?_)
     go_simp
     go_wp2_with (go_at_call 26;refine (tb_as HUe.out (rrelease_any (1 + n) _ HRd.out ((HS42.out).reads 2 rfl) HSt.out.ok.good)).mono ?_;rintro e w42 ⟨h9, v9, R9, rfl, hrd2, hin2, hnew2, hb⟩)
     have hnew3 : ∀ r ∈ R9, w.heap.size ≤ r.1:=fun r hr=>by
      rcases hnew2 r hr with h | h
      ·exact Nat.le_trans (HS42.out).bes.size h
      ·exact (HS42.out).off (.rd R) (List.mem_of_getElem? (i:=2) rfl) r.1 h
     obtain ⟨a9, c9, rfl, _, _⟩:=hrd2.1.shape
     obtain ⟨d9, e9, rfl, _, _⟩:=hrd2.2.shape
     have H9:=Lib.hid hrd2
     have HS43 : Hid (DrH w C [.ob b2 25 (tbCells (.slice none 0 0) (.slice none 0 0)), .ob b3 25 (tbCells (.slice a t.held.length cap) (.slice a2 t.wait.length cap2)), .rd R, .rd R9] w42):=(HS42.out).addrd hb R9 hin2 (fun r hr=>(hnew2 r hr).elim .inl (fun h=>.inr ⟨.rd R, List.mem_of_getElem? (i:=2) rfl, h⟩))
     refine hK.out _ _ (trivial) (fun hHeld=>?_)
     clear hK K hb hin2 hrd2 hnew2 hnew3
     try simp only [z0, z1, z2, z3]
     refine tn 5 qDrLk_5 (fun K hK=>?_)
     rw [if_pos (by rfl)]
     refine wp_store_ob 25 (.tmp 3) (.tmp 33) b3 (tbCells (.slice a9 u.held.length c9) (.slice d9 u.wait.length e9)) (tbCells (.slice a t.held.length cap) (.slice a2 t.wait.length cap2)) 25 rfl rfl rfl rfl ((HS43.out).get 1 rfl) (info_tb) (rfl) ((oneCell_tb _ _ _ _ _ _)) ?_
     have HS44 : Hid (DrH w C [.ob b2 25 (tbCells (.slice none 0 0) (.slice none 0 0)), .ob b3 25 (tbCells (.slice a9 u.held.length c9) (.slice d9 u.wait.length e9)), .rd R, .rd R9] (w42.setRow b3 (tbCells (.slice a9 u.held.length c9) (.slice d9 u.wait.length e9)).toArray)):=(HS43.out).row 1 rfl (tbCells (.slice a9 u.held.length c9) (.slice d9 u.wait.length e9))
     refine hK.out _ _ (trivial) (fun hHeld=>?_)
     clear hK K
     generalize (w42.setRow b3 (tbCells (.slice a9 u.held.length c9) (.slice d9 u.wait.length e9)).toArray) = w43 at *
     try simp only [z0, z1, z2, z3]
     refine wpAnyH_done (by kernel_rfl) ?_ _
     clear hHeld
     have HS45 : Hid (DrH w C [.ob b2 25 (tbCells (.slice none 0 0) (.slice none 0 0)), .ob b3 25 (tbCells (.slice a9 u.held.length c9) (.slice d9 u.wait.length e9)), .rd R9] w43):=HS44.out.pull [0, 1, 3] rfl (pull_nd HS44.out.nd [0, 1, 3] rfl (by decide))
     clear HS44
     go_wp2_with fail
     go_roundw
     case rel=>exact ⟨u, a9, d9, c9, e9, R9, i - 1, rfl, by have:=HP.out;omega, by have:=HI.out;have:=HLu.out;omega, HSu.out, H9.out, HS45.out⟩
     case measure=>simp [intOf];have:=HP.out;omega
   ·obtain ⟨e1, n1⟩:=ne_facts hs4
    by_cases hs5 : s = 5
    ·obtain ⟨e2, n2⟩:=eq_facts hs5
     clear hs4 hs5 s0 s1
     have HU : Hid (∀ n, ∃ u, cancelR t (1 + n) = u ∧ Settled u ∧ tbLen u ≤ tbLen t):=Lib.hid (fun n=>⟨_, rfl, cancel_ok HSt.out.ok (1 + n)⟩)
     go_upto_region 12 with (fail)
     refine wp_region_held_drew (S:=fun w'=>True) (by kernel_rfl) (trivial) (fun hHeld=>?_)
     refine tk 1 qDrLk_6 (some 37) (v:=?q101v) (Or.inl ⟨by rfl, ?q101h⟩) hHeld ?q101r
     case q101h=>(intro _ h;clear h;go_simp;try with_reducible rfl)
     try simp only [z0, z1, z2, z3]
     refine wpAnyH_ready (rs:=[0, 2]) (by kernel_rfl) (by simp) ?_
     refine AllReadyH.cons (o:=qDrLk_7) rfl (fun K hK=>?_) (AllReadyH.cons (o:=qDrLk_8) rfl (fun K hK=>?_) (AllReadyH.nil))
     ·rw [if_pos (by rfl)]
      refine wp_load_whole 25 (.tmp 3) b3 (tbCells (.slice a t.held.length cap) (.slice a2 t.wait.length cap2)) 25 HUT.out rfl rfl (((HY2.out).drew).get 1 rfl) rfl (info_tb) ?_
      have HS141 : Hid (DrH w C [.ob b2 25 (tbCells (.slice none 0 0) (.slice none 0 0)), .ob b3 25 (tbCells (.slice a t.held.length cap) (.slice a2 t.wait.length cap2)), .rd R] (w3.drew)):=(HY2.out).drew
      refine hK.out _ _ (trivial) (fun hHeld=>?_)
      clear hK K
      generalize w3.drew = w141 at *
      try simp only [z0, z1, z2, z3]
      refine tn 2 qDrLk_8 (fun K hK=>?_)
      go_simp
      go_wp2_with (go_at_call 20;refine (next_any C 5 _ (HS141.out).codes (by omega)).mono ?_;rintro e w142 ⟨n, rfl, n0, n1, hb, hc⟩)
      have HS142 : Hid (DrH w C [.ob b2 25 (tbCells (.slice none 0 0) (.slice none 0 0)), .ob b3 25 (tbCells (.slice a t.held.length cap) (.slice a2 t.wait.length cap2)), .rd R] w142):=(HS141.out).draws hb hc
      refine hK.out _ _ (trivial) (fun hHeld=>?_)
      clear hK K hb hc
      have hw : IntKind.i64.wrap (1 + n) = 1 + n:=IntWalk.i64_in _ (by omega)
      obtain ⟨u, hu, hsu, hlu⟩:=HU.out n
      have HUe:=Lib.hid hu
      have HSu:=Lib.hid hsu
      have HLu:=Lib.hid hlu
      clear hu hsu hlu n0 n1
      try simp only [z0, z1, z2, z3]
      refine tk 3 qDrLk_9 (some 39) (v:=?q102v) (Or.inl ⟨by rfl, ?q102h⟩) hHeld ?q102r
      case q102h=>(intro _ h;clear h;go_simp;try with_reducible rfl)
      try simp only [z0, z1, z2, z3]
      refine tn 4 qDrLk_10 (fun K hK=>?_)
      go_simp
      go_wp2_with (go_at_call 27;refine (tb_as HUe.out (rcancel_any (1 + n) _ HRd.out ((HS142.out).reads 2 rfl) HSt.out.ok.good)).mono ?_;rintro e w143 ⟨h9, v9, R9, rfl, hrd2, hin2, hnew2, hb⟩)
      have hnew3 : ∀ r ∈ R9, w.heap.size ≤ r.1:=fun r hr=>by
       rcases hnew2 r hr with h | h
       ·exact Nat.le_trans (HS142.out).bes.size h
       ·exact (HS142.out).off (.rd R) (List.mem_of_getElem? (i:=2) rfl) r.1 h
      obtain ⟨a9, c9, rfl, _, _⟩:=hrd2.1.shape
      obtain ⟨d9, e9, rfl, _, _⟩:=hrd2.2.shape
      have H9:=Lib.hid hrd2
      have HS143 : Hid (DrH w C [.ob b2 25 (tbCells (.slice none 0 0) (.slice none 0 0)), .ob b3 25 (tbCells (.slice a t.held.length cap) (.slice a2 t.wait.length cap2)), .rd R, .rd R9] w143):=(HS142.out).addrd hb R9 hin2 (fun r hr=>(hnew2 r hr).elim .inl (fun h=>.inr ⟨.rd R, List.mem_of_getElem? (i:=2) rfl, h⟩))
      refine hK.out _ _ (trivial) (fun hHeld=>?_)
      clear hK K hb hin2 hrd2 hnew2 hnew3
      try simp only [z0, z1, z2, z3]
      refine tn 5 qDrLk_11 (fun K hK=>?_)
      rw [if_pos (by rfl)]
      refine wp_store_ob 25 (.tmp 3) (.tmp 40) b3 (tbCells (.slice a9 u.held.length c9) (.slice d9 u.wait.length e9)) (tbCells (.slice a t.held.length cap) (.slice a2 t.wait.length cap2)) 25 rfl rfl rfl rfl ((HS143.out).get 1 rfl) (info_tb) (rfl) ((oneCell_tb _ _ _ _ _ _)) ?_
      have HS144 : Hid (DrH w C [.ob b2 25 (tbCells (.slice none 0 0) (.slice none 0 0)), .ob b3 25 (tbCells (.slice a9 u.held.length c9) (.slice d9 u.wait.length e9)), .rd R, .rd R9] (w143.setRow b3 (tbCells (.slice a9 u.held.length c9) (.slice d9 u.wait.length e9)).toArray)):=(HS143.out).row 1 rfl (tbCells (.slice a9 u.held.length c9) (.slice d9 u.wait.length e9))
      refine hK.out _ _ (trivial) (fun hHeld=>?_)
      clear hK K
      generalize (w143.setRow b3 (tbCells (.slice a9 u.held.length c9) (.slice d9 u.wait.length e9)).toArray) = w144 at *
      try simp only [z0, z1, z2, z3]
      refine wpAnyH_done (by kernel_rfl) ?_ _
      clear hHeld
      have HS145 : Hid (DrH w C [.ob b2 25 (tbCells (.slice none 0 0) (.slice none 0 0)), .ob b3 25 (tbCells (.slice a9 u.held.length c9) (.slice d9 u.wait.length e9)), .rd R9] w144):=HS144.out.pull [0, 1, 3] rfl (pull_nd HS144.out.nd [0, 1, 3] rfl (by decide))
      clear HS144
      go_wp2_with fail
      go_roundw
      case rel=>exact ⟨u, a9, d9, c9, e9, R9, i - 1, rfl, by have:=HP.out;omega, by have:=HI.out;have:=HLu.out;omega, HSu.out, H9.out, HS145.out⟩
      case measure=>simp [intOf];have:=HP.out;omega
     ·go_simp
      go_wp2_with (go_at_call 20;refine (next_any C 5 _ ((HY2.out).drew).codes (by omega)).mono ?_;rintro e w141 ⟨n, rfl, n0, n1, hb, hc⟩)
      have HS141 : Hid (DrH w C [.ob b2 25 (tbCells (.slice none 0 0) (.slice none 0 0)), .ob b3 25 (tbCells (.slice a t.held.length cap) (.slice a2 t.wait.length cap2)), .rd R] w141):=((HY2.out).drew).draws hb hc
      refine hK.out _ _ (trivial) (fun hHeld=>?_)
      clear hK K hb hc
      have hw : IntKind.i64.wrap (1 + n) = 1 + n:=IntWalk.i64_in _ (by omega)
      obtain ⟨u, hu, hsu, hlu⟩:=HU.out n
      have HUe:=Lib.hid hu
      have HSu:=Lib.hid hsu
      have HLu:=Lib.hid hlu
      clear hu hsu hlu n0 n1
      try simp only [z0, z1, z2, z3]
      refine tk 3 qDrLk_9 (some 39) (v:=?q103v) (Or.inl ⟨by rfl, ?q103h⟩) hHeld ?q103r
      case q103h=>(intro _ h;clear h;go_simp;try with_reducible rfl)
      try simp only [z0, z1, z2, z3]
      refine tn 0 qDrLk_7 (fun K hK=>?_)
      rw [if_pos (by rfl)]
      refine wp_load_whole 25 (.tmp 3) b3 (tbCells (.slice a t.held.length cap) (.slice a2 t.wait.length cap2)) 25 HUT.out rfl rfl ((HS141.out).get 1 rfl) rfl (info_tb) ?_
      have HS142 : Hid (DrH w C [.ob b2 25 (tbCells (.slice none 0 0) (.slice none 0 0)), .ob b3 25 (tbCells (.slice a t.held.length cap) (.slice a2 t.wait.length cap2)), .rd R] w141):=HS141.out
      refine hK.out _ _ (trivial) (fun hHeld=>?_)
      clear hK K
      try simp only [z0, z1, z2, z3]
      refine tn 4 qDrLk_10 (fun K hK=>?_)
      go_simp
      go_wp2_with (go_at_call 27;refine (tb_as HUe.out (rcancel_any (1 + n) _ HRd.out ((HS142.out).reads 2 rfl) HSt.out.ok.good)).mono ?_;rintro e w142 ⟨h9, v9, R9, rfl, hrd2, hin2, hnew2, hb⟩)
      have hnew3 : ∀ r ∈ R9, w.heap.size ≤ r.1:=fun r hr=>by
       rcases hnew2 r hr with h | h
       ·exact Nat.le_trans (HS142.out).bes.size h
       ·exact (HS142.out).off (.rd R) (List.mem_of_getElem? (i:=2) rfl) r.1 h
      obtain ⟨a9, c9, rfl, _, _⟩:=hrd2.1.shape
      obtain ⟨d9, e9, rfl, _, _⟩:=hrd2.2.shape
      have H9:=Lib.hid hrd2
      have HS143 : Hid (DrH w C [.ob b2 25 (tbCells (.slice none 0 0) (.slice none 0 0)), .ob b3 25 (tbCells (.slice a t.held.length cap) (.slice a2 t.wait.length cap2)), .rd R, .rd R9] w142):=(HS142.out).addrd hb R9 hin2 (fun r hr=>(hnew2 r hr).elim .inl (fun h=>.inr ⟨.rd R, List.mem_of_getElem? (i:=2) rfl, h⟩))
      refine hK.out _ _ (trivial) (fun hHeld=>?_)
      clear hK K hb hin2 hrd2 hnew2 hnew3
      try simp only [z0, z1, z2, z3]
      refine tn 5 qDrLk_11 (fun K hK=>?_)
      rw [if_pos (by rfl)]
      refine wp_store_ob 25 (.tmp 3) (.tmp 40) b3 (tbCells (.slice a9 u.held.length c9) (.slice d9 u.wait.length e9)) (tbCells (.slice a t.held.length cap) (.slice a2 t.wait.length cap2)) 25 rfl rfl rfl rfl ((HS143.out).get 1 rfl) (info_tb) (rfl) ((oneCell_tb _ _ _ _ _ _)) ?_
      have HS144 : Hid (DrH w C [.ob b2 25 (tbCells (.slice none 0 0) (.slice none 0 0)), .ob b3 25 (tbCells (.slice a9 u.held.length c9) (.slice d9 u.wait.length e9)), .rd R, .rd R9] (w142.setRow b3 (tbCells (.slice a9 u.held.length c9) (.slice d9 u.wait.length e9)).toArray)):=(HS143.out).row 1 rfl (tbCells (.slice a9 u.held.length c9) (.slice d9 u.wait.length e9))
      refine hK.out _ _ (trivial) (fun hHeld=>?_)
      clear hK K
      generalize (w142.setRow b3 (tbCells (.slice a9 u.held.length c9) (.slice d9 u.wait.length e9)).toArray) = w143 at *
      try simp only [z0, z1, z2, z3]
      refine wpAnyH_done (by kernel_rfl) ?_ _
      clear hHeld
      have HS145 : Hid (DrH w C [.ob b2 25 (tbCells (.slice none 0 0) (.slice none 0 0)), .ob b3 25 (tbCells (.slice a9 u.held.length c9) (.slice d9 u.wait.length e9)), .rd R9] w143):=HS144.out.pull [0, 1, 3] rfl (pull_nd HS144.out.nd [0, 1, 3] rfl (by decide))
      clear HS144
      go_wp2_with fail
      go_roundw
      case rel=>exact ⟨u, a9, d9, c9, e9, R9, i - 1, rfl, by have:=HP.out;omega, by have:=HI.out;have:=HLu.out;omega, HSu.out, H9.out, HS145.out⟩
      case measure=>simp [intOf];have:=HP.out;omega
    ·obtain ⟨e2, n2⟩:=ne_facts hs5
     clear hs4 hs5 s0 s1
     go_upto_region 6 with (fail)
     refine wp_region_held_drew (S:=fun w'=>True) (by kernel_rfl) (trivial) (fun hHeld=>?_)
     refine tk 1 qDrLk_12 (some 18) (v:=?q201v) (Or.inl ⟨by rfl, ?q201h⟩) hHeld ?q201r
     case q201h=>(intro _ h;clear h;go_simp;try with_reducible rfl)
     try simp only [z0, z1, z2, z3]
     refine wpAnyH_ready (rs:=[0, 2, 8]) (by kernel_rfl) (by simp) ?_
     refine AllReadyH.cons (o:=qDrLk_13) rfl (fun K hK=>?_) (AllReadyH.cons (o:=qDrLk_14) rfl (fun K hK=>?_) (AllReadyH.cons (o:=qDrLk_15) rfl (fun K hK=>?_) (AllReadyH.nil)))
     ·rw [if_pos (by rfl)]
      refine wp_load_whole 25 (.tmp 3) b3 (tbCells (.slice a t.held.length cap) (.slice a2 t.wait.length cap2)) 25 HUT.out rfl rfl (((HY2.out).drew).get 1 rfl) rfl (info_tb) ?_
      have HS241 : Hid (DrH w C [.ob b2 25 (tbCells (.slice none 0 0) (.slice none 0 0)), .ob b3 25 (tbCells (.slice a t.held.length cap) (.slice a2 t.wait.length cap2)), .rd R] (w3.drew)):=(HY2.out).drew
      refine hK.out _ _ (trivial) (fun hHeld=>?_)
      clear hK K
      generalize w3.drew = w241 at *
      try simp only [z0, z1, z2, z3]
      refine wpAnyH_ready (rs:=[2, 8]) (by kernel_rfl) (by simp) ?_
      refine AllReadyH.cons (o:=qDrLk_14) rfl (fun K hK=>?_) (AllReadyH.cons (o:=qDrLk_15) rfl (fun K hK=>?_) (AllReadyH.nil))
      ·go_simp
       go_wp2_with (go_at_call 16;refine (grant_any C _ (HS241.out).codes).mono ?_;rintro e w242 ⟨g, rfl, hgo, hb, hc, _⟩)
       have HS242 : Hid (DrH w C [.ob b2 25 (tbCells (.slice none 0 0) (.slice none 0 0)), .ob b3 25 (tbCells (.slice a t.held.length cap) (.slice a2 t.wait.length cap2)), .rd R] w242):=(HS241.out).draws hb hc
       refine hK.out _ _ (trivial) (fun hHeld=>?_)
       clear hK K hb hc
       obtain ⟨u, b, c, hu⟩ : ∃ u b c, requestR t g = (u, b, c):=⟨_, _, _, rfl⟩
       have HUe:=Lib.hid hu
       have HSu : Hid (c = 0 → Settled u ∧ tbLen u ≤ tbLen t + 1):=Lib.hid (fun hc0=>by have h:=request_ok HSt.out.ok (g:=g) (by rw [hu];exact hc0);rw [hu] at h;exact ⟨⟨h.1, h.2.1 HSt.out.stuck⟩, h.2.2.2⟩)
       have HGo:=Lib.hid hgo
       clear hu hgo
       try simp only [z0, z1, z2, z3]
       refine wpAnyH_ready (rs:=[3, 8]) (by kernel_rfl) (by simp) ?_
       refine AllReadyH.cons (o:=qDrLk_16) rfl (fun K hK=>?_) (AllReadyH.cons (o:=qDrLk_15) rfl (fun K hK=>?_) (AllReadyH.nil))
       ·go_simp
        go_wp2_with (go_at_call 28;refine (tb3_as HUe.out (rrequest_any g _ HRd.out ((HS242.out).reads 2 rfl) HSt.out.ok.good HGo.out.good)).mono ?_;rintro e w243 ⟨h9, v9, R9, rfl, hrd2, hin2, hnew2, hb⟩)
        have hnew3 : ∀ r ∈ R9, w.heap.size ≤ r.1:=fun r hr=>by
         rcases hnew2 r hr with h | h
         ·exact Nat.le_trans (HS242.out).bes.size h
         ·exact (HS242.out).off (.rd R) (List.mem_of_getElem? (i:=2) rfl) r.1 h
        obtain ⟨a9, c9, rfl, _, _⟩:=hrd2.1.shape
        obtain ⟨d9, e9, rfl, _, _⟩:=hrd2.2.shape
        have H9:=Lib.hid hrd2
        have HS243 : Hid (DrH w C [.ob b2 25 (tbCells (.slice none 0 0) (.slice none 0 0)), .ob b3 25 (tbCells (.slice a t.held.length cap) (.slice a2 t.wait.length cap2)), .rd R, .rd R9] w243):=(HS242.out).addrd hb R9 hin2 (fun r hr=>(hnew2 r hr).elim .inl (fun h=>.inr ⟨.rd R, List.mem_of_getElem? (i:=2) rfl, h⟩))
        refine hK.out _ _ (trivial) (fun hHeld=>?_)
        clear hK K hb hin2 hrd2 hnew2 hnew3
        try simp only [z0, z1, z2, z3]
        refine tk 4 qDrLk_17 (some 16) (v:=?q202v) (Or.inl ⟨by rfl, ?q202h⟩) hHeld ?q202r
        case q202h=>(intro _ h;clear h;go_simp;try with_reducible rfl)
        try simp only [z0, z1, z2, z3]
        refine tk 5 qDrLk_18 (some 21) (v:=.agg (tbCells (.slice a9 u.held.length c9) (.slice d9 u.wait.length e9)).toArray) (Or.inl ⟨by rfl, ?q203h⟩) hHeld ?q203r
        case q203h=>(intro _ h;clear h;go_simp;try with_reducible rfl)
        try simp only [z0, z1, z2, z3]
        refine tk 6 qDrLk_19 (some 22) (v:=.bool b) (Or.inl ⟨by rfl, ?q204h⟩) hHeld ?q204r
        case q204h=>(intro _ h;clear h;go_simp;try with_reducible rfl)
        try simp only [z0, z1, z2, z3]
        refine tk 7 qDrLk_20 (some 23) (v:=.int .i64 c) (Or.inl ⟨by rfl, ?q205h⟩) hHeld ?q205r
        case q205h=>(intro _ h;clear h;go_simp;try with_reducible rfl)
        try simp only [z0, z1, z2, z3]
        refine tn 8 qDrLk_15 (fun K hK=>?_)
        rw [if_pos (by rfl)]
        refine wp_alloc_ob 25 (tbCells (.slice none 0 0) (.slice none 0 0)) rfl alloc_tb ?_
        have HS244 : Hid (DrH w C [.ob b2 25 (tbCells (.slice none 0 0) (.slice none 0 0)), .ob b3 25 (tbCells (.slice a t.held.length cap) (.slice a2 t.wait.length cap2)), .rd R, .rd R9, .ob (w243.heap.size) 25 (tbCells (.slice none 0 0) (.slice none 0 0))] (w243.alloc (.cells (tbCells (.slice none 0 0) (.slice none 0 0)).toArray 25))):=(HS243.out).put 25 (tbCells (.slice none 0 0) (.slice none 0 0))
        refine hK.out _ _ (trivial) (fun hHeld=>?_)
        clear hK K
        generalize (w243.alloc (.cells (tbCells (.slice none 0 0) (.slice none 0 0)).toArray 25)) = w244 at *
        generalize w243.heap.size = B241 at *
        try simp only [z0, z1, z2, z3]
        refine tn 9 qDrLk_21 (fun K hK=>?_)
        rw [if_pos (by rfl)]
        refine wp_store_ob 25 (.tmp 5) (.tmp 21) B241 (tbCells (.slice a9 u.held.length c9) (.slice d9 u.wait.length e9)) (tbCells (.slice none 0 0) (.slice none 0 0)) 25 rfl rfl rfl rfl ((HS244.out).get 4 rfl) (info_tb) (rfl) ((oneCell_tb _ _ _ _ _ _)) ?_
        have HS245 : Hid (DrH w C [.ob b2 25 (tbCells (.slice none 0 0) (.slice none 0 0)), .ob b3 25 (tbCells (.slice a t.held.length cap) (.slice a2 t.wait.length cap2)), .rd R, .rd R9, .ob B241 25 (tbCells (.slice a9 u.held.length c9) (.slice d9 u.wait.length e9))] (w244.setRow B241 (tbCells (.slice a9 u.held.length c9) (.slice d9 u.wait.length e9)).toArray)):=(HS244.out).row 4 rfl (tbCells (.slice a9 u.held.length c9) (.slice d9 u.wait.length e9))
        refine hK.out _ _ (trivial) (fun hHeld=>?_)
        clear hK K
        generalize (w244.setRow B241 (tbCells (.slice a9 u.held.length c9) (.slice d9 u.wait.length e9)).toArray) = w245 at *
        try simp only [z0, z1, z2, z3]
        refine tk 10 qDrLk_22 (some 6) (v:=?q206v) (Or.inl ⟨by rfl, ?q206h⟩) hHeld ?q206r
        case q206h=>(intro _ h;clear h;go_simp;try with_reducible rfl)
        try simp only [z0, z1, z2, z3]
        refine tk 11 qDrLk_23 (some 7) (v:=?q207v) (Or.inl ⟨by rfl, ?q207h⟩) hHeld ?q207r
        case q207h=>(intro _ h;clear h;go_simp;try with_reducible rfl)
        try simp only [z0, z1, z2, z3]
        refine wpAnyH_done (by kernel_rfl) ?_ _
        clear hHeld
        by_cases hc0 : c = 0
        ·obtain ⟨e3, n3⟩:=eq_facts hc0
         obtain ⟨hsu, hlu⟩:=HSu.out hc0
         have HSv:=Lib.hid hsu
         have HLu:=Lib.hid hlu
         clear hc0 hsu hlu HSu
         go_upto_region 8 with (fail)
         go_wp2_with (first | ((with_reducible refine wpList_load_ob 25 (.tmp 5) B241 (tbCells (.slice a9 u.held.length c9) (.slice d9 u.wait.length e9)) 25 HUT.out ?_ ?_ ?_ ?_ ?_);(exact rfl);(exact (HS245.out).get 4 rfl);(exact rfl);(exact info_tb);simp only [z0, z1, z2, z3]) | ((with_reducible refine wpList_store_ob 25 (.tmp 3) b3 (tbCells (.slice a9 u.held.length c9) (.slice d9 u.wait.length e9)) (tbCells (.slice a t.held.length cap) (.slice a2 t.wait.length cap2)) 25 ?_ ?_ ?_ ?_ ?_ ?_ ?_);(exact rfl);(exact rfl);(exact (HS245.out).get 1 rfl);(exact info_tb);(exact rfl);(exact (oneCell_tb _ _ _ _ _ _));skip))
         have HS246 : Hid (DrH w C [.ob b2 25 (tbCells (.slice none 0 0) (.slice none 0 0)), .ob b3 25 (tbCells (.slice a9 u.held.length c9) (.slice d9 u.wait.length e9)), .rd R, .rd R9, .ob B241 25 (tbCells (.slice a9 u.held.length c9) (.slice d9 u.wait.length e9))] (w245.setRow b3 (tbCells (.slice a9 u.held.length c9) (.slice d9 u.wait.length e9)).toArray)):=(HS245.out).row 1 rfl (tbCells (.slice a9 u.held.length c9) (.slice d9 u.wait.length e9))
         clear HS245
         generalize (w245.setRow b3 (tbCells (.slice a9 u.held.length c9) (.slice d9 u.wait.length e9)).toArray) = w246 at *
         have HS247 : Hid (DrH w C [.ob b2 25 (tbCells (.slice none 0 0) (.slice none 0 0)), .ob b3 25 (tbCells (.slice a9 u.held.length c9) (.slice d9 u.wait.length e9)), .rd R9] w246):=HS246.out.pull [0, 1, 3] rfl (pull_nd HS246.out.nd [0, 1, 3] rfl (by decide))
         clear HS246
         go_wp2_with fail
         go_roundw
         case rel=>exact ⟨u, a9, d9, c9, e9, R9, i - 1, rfl, by have:=HP.out;omega, by have:=HI.out;have:=HLu.out;omega, HSv.out, H9.out, HS247.out⟩
         case measure=>simp [intOf];have:=HP.out;omega
        ·obtain ⟨e3, n3⟩:=ne_facts hc0
         clear hc0 HSu
         have HS253 : Hid (DrH w C [.ob b2 25 (tbCells (.slice none 0 0) (.slice none 0 0)), .ob b3 25 (tbCells (.slice a t.held.length cap) (.slice a2 t.wait.length cap2)), .rd R] w245):=HS245.out.pull [0, 1, 2] rfl (pull_nd HS245.out.nd [0, 1, 2] rfl (by decide))
         clear HS245
         go_wp2_with fail
         go_roundw
         case rel=>exact ⟨t, a, a2, cap, cap2, R, i - 1, rfl, by have:=HP.out;omega, by have:=HI.out;omega, HSt.out, HRd.out, HS253.out⟩
         case measure=>simp [intOf];have:=HP.out;omega
       ·rw [if_pos (by rfl)]
        refine wp_alloc_ob 25 (tbCells (.slice none 0 0) (.slice none 0 0)) rfl alloc_tb ?_
        have HS243 : Hid (DrH w C [.ob b2 25 (tbCells (.slice none 0 0) (.slice none 0 0)), .ob b3 25 (tbCells (.slice a t.held.length cap) (.slice a2 t.wait.length cap2)), .rd R, .ob (w242.heap.size) 25 (tbCells (.slice none 0 0) (.slice none 0 0))] (w242.alloc (.cells (tbCells (.slice none 0 0) (.slice none 0 0)).toArray 25))):=(HS242.out).put 25 (tbCells (.slice none 0 0) (.slice none 0 0))
        refine hK.out _ _ (trivial) (fun hHeld=>?_)
        clear hK K
        generalize (w242.alloc (.cells (tbCells (.slice none 0 0) (.slice none 0 0)).toArray 25)) = w243 at *
        generalize w242.heap.size = B241 at *
        try simp only [z0, z1, z2, z3]
        refine tn 3 qDrLk_16 (fun K hK=>?_)
        go_simp
        go_wp2_with (go_at_call 28;refine (tb3_as HUe.out (rrequest_any g _ HRd.out ((HS243.out).reads 2 rfl) HSt.out.ok.good HGo.out.good)).mono ?_;rintro e w244 ⟨h9, v9, R9, rfl, hrd2, hin2, hnew2, hb⟩)
        have hnew3 : ∀ r ∈ R9, w.heap.size ≤ r.1:=fun r hr=>by
         rcases hnew2 r hr with h | h
         ·exact Nat.le_trans (HS243.out).bes.size h
         ·exact (HS243.out).off (.rd R) (List.mem_of_getElem? (i:=2) rfl) r.1 h
        obtain ⟨a9, c9, rfl, _, _⟩:=hrd2.1.shape
        obtain ⟨d9, e9, rfl, _, _⟩:=hrd2.2.shape
        have H9:=Lib.hid hrd2
        have HS244 : Hid (DrH w C [.ob b2 25 (tbCells (.slice none 0 0) (.slice none 0 0)), .ob b3 25 (tbCells (.slice a t.held.length cap) (.slice a2 t.wait.length cap2)), .rd R, .ob B241 25 (tbCells (.slice none 0 0) (.slice none 0 0)), .rd R9] w244):=(HS243.out).addrd hb R9 hin2 (fun r hr=>(hnew2 r hr).elim .inl (fun h=>.inr ⟨.rd R, List.mem_of_getElem? (i:=2) rfl, h⟩))
        refine hK.out _ _ (trivial) (fun hHeld=>?_)
        clear hK K hb hin2 hrd2 hnew2 hnew3
        try simp only [z0, z1, z2, z3]
        refine tk 4 qDrLk_17 (some 16) (v:=?q213v) (Or.inl ⟨by rfl, ?q213h⟩) hHeld ?q213r
        case q213h=>(intro _ h;clear h;go_simp;try with_reducible rfl)
        try simp only [z0, z1, z2, z3]
        refine tk 5 qDrLk_18 (some 21) (v:=.agg (tbCells (.slice a9 u.held.length c9) (.slice d9 u.wait.length e9)).toArray) (Or.inl ⟨by rfl, ?q214h⟩) hHeld ?q214r
        case q214h=>(intro _ h;clear h;go_simp;try with_reducible rfl)
        try simp only [z0, z1, z2, z3]
        refine tk 6 qDrLk_19 (some 22) (v:=.bool b) (Or.inl ⟨by rfl, ?q215h⟩) hHeld ?q215r
        case q215h=>(intro _ h;clear h;go_simp;try with_reducible rfl)
        try simp only [z0, z1, z2, z3]
        refine tk 7 qDrLk_20 (some 23) (v:=.int .i64 c) (Or.inl ⟨by rfl, ?q216h⟩) hHeld ?q216r
        case q216h=>(intro _ h;clear h;go_simp;try with_reducible rfl)
        try simp only [z0, z1, z2, z3]
        refine tn 9 qDrLk_21 (fun K hK=>?_)
        rw [if_pos (by rfl)]
        refine wp_store_ob 25 (.tmp 5) (.tmp 21) B241 (tbCells (.slice a9 u.held.length c9) (.slice d9 u.wait.length e9)) (tbCells (.slice none 0 0) (.slice none 0 0)) 25 rfl rfl rfl rfl ((HS244.out).get 3 rfl) (info_tb) (rfl) ((oneCell_tb _ _ _ _ _ _)) ?_
        have HS245 : Hid (DrH w C [.ob b2 25 (tbCells (.slice none 0 0) (.slice none 0 0)), .ob b3 25 (tbCells (.slice a t.held.length cap) (.slice a2 t.wait.length cap2)), .rd R, .ob B241 25 (tbCells (.slice a9 u.held.length c9) (.slice d9 u.wait.length e9)), .rd R9] (w244.setRow B241 (tbCells (.slice a9 u.held.length c9) (.slice d9 u.wait.length e9)).toArray)):=(HS244.out).row 3 rfl (tbCells (.slice a9 u.held.length c9) (.slice d9 u.wait.length e9))
        refine hK.out _ _ (trivial) (fun hHeld=>?_)
        clear hK K
        generalize (w244.setRow B241 (tbCells (.slice a9 u.held.length c9) (.slice d9 u.wait.length e9)).toArray) = w245 at *
        try simp only [z0, z1, z2, z3]
        refine tk 10 qDrLk_22 (some 6) (v:=?q217v) (Or.inl ⟨by rfl, ?q217h⟩) hHeld ?q217r
        case q217h=>(intro _ h;clear h;go_simp;try with_reducible rfl)
        try simp only [z0, z1, z2, z3]
        refine tk 11 qDrLk_23 (some 7) (v:=?q218v) (Or.inl ⟨by rfl, ?q218h⟩) hHeld ?q218r
        case q218h=>(intro _ h;clear h;go_simp;try with_reducible rfl)
        try simp only [z0, z1, z2, z3]
        refine wpAnyH_done (by kernel_rfl) ?_ _
        clear hHeld
        by_cases hc0 : c = 0
        ·obtain ⟨e3, n3⟩:=eq_facts hc0
         obtain ⟨hsu, hlu⟩:=HSu.out hc0
         have HSv:=Lib.hid hsu
         have HLu:=Lib.hid hlu
         clear hc0 hsu hlu HSu
         go_upto_region 8 with (fail)
         go_wp2_with (first | ((with_reducible refine wpList_load_ob 25 (.tmp 5) B241 (tbCells (.slice a9 u.held.length c9) (.slice d9 u.wait.length e9)) 25 HUT.out ?_ ?_ ?_ ?_ ?_);(exact rfl);(exact (HS245.out).get 3 rfl);(exact rfl);(exact info_tb);simp only [z0, z1, z2, z3]) | ((with_reducible refine wpList_store_ob 25 (.tmp 3) b3 (tbCells (.slice a9 u.held.length c9) (.slice d9 u.wait.length e9)) (tbCells (.slice a t.held.length cap) (.slice a2 t.wait.length cap2)) 25 ?_ ?_ ?_ ?_ ?_ ?_ ?_);(exact rfl);(exact rfl);(exact (HS245.out).get 1 rfl);(exact info_tb);(exact rfl);(exact (oneCell_tb _ _ _ _ _ _));skip))
         have HS246 : Hid (DrH w C [.ob b2 25 (tbCells (.slice none 0 0) (.slice none 0 0)), .ob b3 25 (tbCells (.slice a9 u.held.length c9) (.slice d9 u.wait.length e9)), .rd R, .ob B241 25 (tbCells (.slice a9 u.held.length c9) (.slice d9 u.wait.length e9)), .rd R9] (w245.setRow b3 (tbCells (.slice a9 u.held.length c9) (.slice d9 u.wait.length e9)).toArray)):=(HS245.out).row 1 rfl (tbCells (.slice a9 u.held.length c9) (.slice d9 u.wait.length e9))
         clear HS245
         generalize (w245.setRow b3 (tbCells (.slice a9 u.held.length c9) (.slice d9 u.wait.length e9)).toArray) = w246 at *
         have HS247 : Hid (DrH w C [.ob b2 25 (tbCells (.slice none 0 0) (.slice none 0 0)), .ob b3 25 (tbCells (.slice a9 u.held.length c9) (.slice d9 u.wait.length e9)), .rd R9] w246):=HS246.out.pull [0, 1, 4] rfl (pull_nd HS246.out.nd [0, 1, 4] rfl (by decide))
         clear HS246
         go_wp2_with fail
         go_roundw
         case rel=>exact ⟨u, a9, d9, c9, e9, R9, i - 1, rfl, by have:=HP.out;omega, by have:=HI.out;have:=HLu.out;omega, HSv.out, H9.out, HS247.out⟩
         case measure=>simp [intOf];have:=HP.out;omega
        ·obtain ⟨e3, n3⟩:=ne_facts hc0
         clear hc0 HSu
         have HS253 : Hid (DrH w C [.ob b2 25 (tbCells (.slice none 0 0) (.slice none 0 0)), .ob b3 25 (tbCells (.slice a t.held.length cap) (.slice a2 t.wait.length cap2)), .rd R] w245):=HS245.out.pull [0, 1, 2] rfl (pull_nd HS245.out.nd [0, 1, 2] rfl (by decide))
         clear HS245
         go_wp2_with fail
         go_roundw
         case rel=>exact ⟨t, a, a2, cap, cap2, R, i - 1, rfl, by have:=HP.out;omega, by have:=HI.out;omega, HSt.out, HRd.out, HS253.out⟩
         case measure=>simp [intOf];have:=HP.out;omega
      ·rw [if_pos (by rfl)]
       refine wp_alloc_ob 25 (tbCells (.slice none 0 0) (.slice none 0 0)) rfl alloc_tb ?_
       have HS242 : Hid (DrH w C [.ob b2 25 (tbCells (.slice none 0 0) (.slice none 0 0)), .ob b3 25 (tbCells (.slice a t.held.length cap) (.slice a2 t.wait.length cap2)), .rd R, .ob (w241.heap.size) 25 (tbCells (.slice none 0 0) (.slice none 0 0))] (w241.alloc (.cells (tbCells (.slice none 0 0) (.slice none 0 0)).toArray 25))):=(HS241.out).put 25 (tbCells (.slice none 0 0) (.slice none 0 0))
       refine hK.out _ _ (trivial) (fun hHeld=>?_)
       clear hK K
       generalize (w241.alloc (.cells (tbCells (.slice none 0 0) (.slice none 0 0)).toArray 25)) = w242 at *
       generalize w241.heap.size = B241 at *
       try simp only [z0, z1, z2, z3]
       refine tn 2 qDrLk_14 (fun K hK=>?_)
       go_simp
       go_wp2_with (go_at_call 16;refine (grant_any C _ (HS242.out).codes).mono ?_;rintro e w243 ⟨g, rfl, hgo, hb, hc, _⟩)
       have HS243 : Hid (DrH w C [.ob b2 25 (tbCells (.slice none 0 0) (.slice none 0 0)), .ob b3 25 (tbCells (.slice a t.held.length cap) (.slice a2 t.wait.length cap2)), .rd R, .ob B241 25 (tbCells (.slice none 0 0) (.slice none 0 0))] w243):=(HS242.out).draws hb hc
       refine hK.out _ _ (trivial) (fun hHeld=>?_)
       clear hK K hb hc
       obtain ⟨u, b, c, hu⟩ : ∃ u b c, requestR t g = (u, b, c):=⟨_, _, _, rfl⟩
       have HUe:=Lib.hid hu
       have HSu : Hid (c = 0 → Settled u ∧ tbLen u ≤ tbLen t + 1):=Lib.hid (fun hc0=>by have h:=request_ok HSt.out.ok (g:=g) (by rw [hu];exact hc0);rw [hu] at h;exact ⟨⟨h.1, h.2.1 HSt.out.stuck⟩, h.2.2.2⟩)
       have HGo:=Lib.hid hgo
       clear hu hgo
       try simp only [z0, z1, z2, z3]
       refine tn 3 qDrLk_16 (fun K hK=>?_)
       go_simp
       go_wp2_with (go_at_call 28;refine (tb3_as HUe.out (rrequest_any g _ HRd.out ((HS243.out).reads 2 rfl) HSt.out.ok.good HGo.out.good)).mono ?_;rintro e w244 ⟨h9, v9, R9, rfl, hrd2, hin2, hnew2, hb⟩)
       have hnew3 : ∀ r ∈ R9, w.heap.size ≤ r.1:=fun r hr=>by
        rcases hnew2 r hr with h | h
        ·exact Nat.le_trans (HS243.out).bes.size h
        ·exact (HS243.out).off (.rd R) (List.mem_of_getElem? (i:=2) rfl) r.1 h
       obtain ⟨a9, c9, rfl, _, _⟩:=hrd2.1.shape
       obtain ⟨d9, e9, rfl, _, _⟩:=hrd2.2.shape
       have H9:=Lib.hid hrd2
       have HS244 : Hid (DrH w C [.ob b2 25 (tbCells (.slice none 0 0) (.slice none 0 0)), .ob b3 25 (tbCells (.slice a t.held.length cap) (.slice a2 t.wait.length cap2)), .rd R, .ob B241 25 (tbCells (.slice none 0 0) (.slice none 0 0)), .rd R9] w244):=(HS243.out).addrd hb R9 hin2 (fun r hr=>(hnew2 r hr).elim .inl (fun h=>.inr ⟨.rd R, List.mem_of_getElem? (i:=2) rfl, h⟩))
       refine hK.out _ _ (trivial) (fun hHeld=>?_)
       clear hK K hb hin2 hrd2 hnew2 hnew3
       try simp only [z0, z1, z2, z3]
       refine tk 4 qDrLk_17 (some 16) (v:=?q224v) (Or.inl ⟨by rfl, ?q224h⟩) hHeld ?q224r
       case q224h=>(intro _ h;clear h;go_simp;try with_reducible rfl)
       try simp only [z0, z1, z2, z3]
       refine tk 5 qDrLk_18 (some 21) (v:=.agg (tbCells (.slice a9 u.held.length c9) (.slice d9 u.wait.length e9)).toArray) (Or.inl ⟨by rfl, ?q225h⟩) hHeld ?q225r
       case q225h=>(intro _ h;clear h;go_simp;try with_reducible rfl)
       try simp only [z0, z1, z2, z3]
       refine tk 6 qDrLk_19 (some 22) (v:=.bool b) (Or.inl ⟨by rfl, ?q226h⟩) hHeld ?q226r
       case q226h=>(intro _ h;clear h;go_simp;try with_reducible rfl)
       try simp only [z0, z1, z2, z3]
       refine tk 7 qDrLk_20 (some 23) (v:=.int .i64 c) (Or.inl ⟨by rfl, ?q227h⟩) hHeld ?q227r
       case q227h=>(intro _ h;clear h;go_simp;try with_reducible rfl)
       try simp only [z0, z1, z2, z3]
       refine tn 9 qDrLk_21 (fun K hK=>?_)
       rw [if_pos (by rfl)]
       refine wp_store_ob 25 (.tmp 5) (.tmp 21) B241 (tbCells (.slice a9 u.held.length c9) (.slice d9 u.wait.length e9)) (tbCells (.slice none 0 0) (.slice none 0 0)) 25 rfl rfl rfl rfl ((HS244.out).get 3 rfl) (info_tb) (rfl) ((oneCell_tb _ _ _ _ _ _)) ?_
       have HS245 : Hid (DrH w C [.ob b2 25 (tbCells (.slice none 0 0) (.slice none 0 0)), .ob b3 25 (tbCells (.slice a t.held.length cap) (.slice a2 t.wait.length cap2)), .rd R, .ob B241 25 (tbCells (.slice a9 u.held.length c9) (.slice d9 u.wait.length e9)), .rd R9] (w244.setRow B241 (tbCells (.slice a9 u.held.length c9) (.slice d9 u.wait.length e9)).toArray)):=(HS244.out).row 3 rfl (tbCells (.slice a9 u.held.length c9) (.slice d9 u.wait.length e9))
       refine hK.out _ _ (trivial) (fun hHeld=>?_)
       clear hK K
       generalize (w244.setRow B241 (tbCells (.slice a9 u.held.length c9) (.slice d9 u.wait.length e9)).toArray) = w245 at *
       try simp only [z0, z1, z2, z3]
       refine tk 10 qDrLk_22 (some 6) (v:=?q228v) (Or.inl ⟨by rfl, ?q228h⟩) hHeld ?q228r
       case q228h=>(intro _ h;clear h;go_simp;try with_reducible rfl)
       try simp only [z0, z1, z2, z3]
       refine tk 11 qDrLk_23 (some 7) (v:=?q229v) (Or.inl ⟨by rfl, ?q229h⟩) hHeld ?q229r
       case q229h=>(intro _ h;clear h;go_simp;try with_reducible rfl)
       try simp only [z0, z1, z2, z3]
       refine wpAnyH_done (by kernel_rfl) ?_ _
       clear hHeld
       by_cases hc0 : c = 0
       ·obtain ⟨e3, n3⟩:=eq_facts hc0
        obtain ⟨hsu, hlu⟩:=HSu.out hc0
        have HSv:=Lib.hid hsu
        have HLu:=Lib.hid hlu
        clear hc0 hsu hlu HSu
        go_upto_region 8 with (fail)
        go_wp2_with (first | ((with_reducible refine wpList_load_ob 25 (.tmp 5) B241 (tbCells (.slice a9 u.held.length c9) (.slice d9 u.wait.length e9)) 25 HUT.out ?_ ?_ ?_ ?_ ?_);(exact rfl);(exact (HS245.out).get 3 rfl);(exact rfl);(exact info_tb);simp only [z0, z1, z2, z3]) | ((with_reducible refine wpList_store_ob 25 (.tmp 3) b3 (tbCells (.slice a9 u.held.length c9) (.slice d9 u.wait.length e9)) (tbCells (.slice a t.held.length cap) (.slice a2 t.wait.length cap2)) 25 ?_ ?_ ?_ ?_ ?_ ?_ ?_);(exact rfl);(exact rfl);(exact (HS245.out).get 1 rfl);(exact info_tb);(exact rfl);(exact (oneCell_tb _ _ _ _ _ _));skip))
        have HS246 : Hid (DrH w C [.ob b2 25 (tbCells (.slice none 0 0) (.slice none 0 0)), .ob b3 25 (tbCells (.slice a9 u.held.length c9) (.slice d9 u.wait.length e9)), .rd R, .ob B241 25 (tbCells (.slice a9 u.held.length c9) (.slice d9 u.wait.length e9)), .rd R9] (w245.setRow b3 (tbCells (.slice a9 u.held.length c9) (.slice d9 u.wait.length e9)).toArray)):=(HS245.out).row 1 rfl (tbCells (.slice a9 u.held.length c9) (.slice d9 u.wait.length e9))
        clear HS245
        generalize (w245.setRow b3 (tbCells (.slice a9 u.held.length c9) (.slice d9 u.wait.length e9)).toArray) = w246 at *
        have HS247 : Hid (DrH w C [.ob b2 25 (tbCells (.slice none 0 0) (.slice none 0 0)), .ob b3 25 (tbCells (.slice a9 u.held.length c9) (.slice d9 u.wait.length e9)), .rd R9] w246):=HS246.out.pull [0, 1, 4] rfl (pull_nd HS246.out.nd [0, 1, 4] rfl (by decide))
        clear HS246
        go_wp2_with fail
        go_roundw
        case rel=>exact ⟨u, a9, d9, c9, e9, R9, i - 1, rfl, by have:=HP.out;omega, by have:=HI.out;have:=HLu.out;omega, HSv.out, H9.out, HS247.out⟩
        case measure=>simp [intOf];have:=HP.out;omega
       ·obtain ⟨e3, n3⟩:=ne_facts hc0
        clear hc0 HSu
        have HS253 : Hid (DrH w C [.ob b2 25 (tbCells (.slice none 0 0) (.slice none 0 0)), .ob b3 25 (tbCells (.slice a t.held.length cap) (.slice a2 t.wait.length cap2)), .rd R] w245):=HS245.out.pull [0, 1, 2] rfl (pull_nd HS245.out.nd [0, 1, 2] rfl (by decide))
        clear HS245
        go_wp2_with fail
        go_roundw
        case rel=>exact ⟨t, a, a2, cap, cap2, R, i - 1, rfl, by have:=HP.out;omega, by have:=HI.out;omega, HSt.out, HRd.out, HS253.out⟩
        case measure=>simp [intOf];have:=HP.out;omega
     ·go_simp
      go_wp2_with (go_at_call 16;refine (grant_any C _ ((HY2.out).drew).codes).mono ?_;rintro e w241 ⟨g, rfl, hgo, hb, hc, _⟩)
      have HS241 : Hid (DrH w C [.ob b2 25 (tbCells (.slice none 0 0) (.slice none 0 0)), .ob b3 25 (tbCells (.slice a t.held.length cap) (.slice a2 t.wait.length cap2)), .rd R] w241):=((HY2.out).drew).draws hb hc
      refine hK.out _ _ (trivial) (fun hHeld=>?_)
      clear hK K hb hc
      obtain ⟨u, b, c, hu⟩ : ∃ u b c, requestR t g = (u, b, c):=⟨_, _, _, rfl⟩
      have HUe:=Lib.hid hu
      have HSu : Hid (c = 0 → Settled u ∧ tbLen u ≤ tbLen t + 1):=Lib.hid (fun hc0=>by have h:=request_ok HSt.out.ok (g:=g) (by rw [hu];exact hc0);rw [hu] at h;exact ⟨⟨h.1, h.2.1 HSt.out.stuck⟩, h.2.2.2⟩)
      have HGo:=Lib.hid hgo
      clear hu hgo
      try simp only [z0, z1, z2, z3]
      refine wpAnyH_ready (rs:=[0, 8]) (by kernel_rfl) (by simp) ?_
      refine AllReadyH.cons (o:=qDrLk_13) rfl (fun K hK=>?_) (AllReadyH.cons (o:=qDrLk_15) rfl (fun K hK=>?_) (AllReadyH.nil))
      ·rw [if_pos (by rfl)]
       refine wp_load_whole 25 (.tmp 3) b3 (tbCells (.slice a t.held.length cap) (.slice a2 t.wait.length cap2)) 25 HUT.out rfl rfl ((HS241.out).get 1 rfl) rfl (info_tb) ?_
       have HS242 : Hid (DrH w C [.ob b2 25 (tbCells (.slice none 0 0) (.slice none 0 0)), .ob b3 25 (tbCells (.slice a t.held.length cap) (.slice a2 t.wait.length cap2)), .rd R] w241):=HS241.out
       refine hK.out _ _ (trivial) (fun hHeld=>?_)
       clear hK K
       try simp only [z0, z1, z2, z3]
       refine wpAnyH_ready (rs:=[3, 8]) (by kernel_rfl) (by simp) ?_
       refine AllReadyH.cons (o:=qDrLk_16) rfl (fun K hK=>?_) (AllReadyH.cons (o:=qDrLk_15) rfl (fun K hK=>?_) (AllReadyH.nil))
       ·go_simp
        go_wp2_with (go_at_call 28;refine (tb3_as HUe.out (rrequest_any g _ HRd.out ((HS242.out).reads 2 rfl) HSt.out.ok.good HGo.out.good)).mono ?_;rintro e w242 ⟨h9, v9, R9, rfl, hrd2, hin2, hnew2, hb⟩)
        have hnew3 : ∀ r ∈ R9, w.heap.size ≤ r.1:=fun r hr=>by
         rcases hnew2 r hr with h | h
         ·exact Nat.le_trans (HS242.out).bes.size h
         ·exact (HS242.out).off (.rd R) (List.mem_of_getElem? (i:=2) rfl) r.1 h
        obtain ⟨a9, c9, rfl, _, _⟩:=hrd2.1.shape
        obtain ⟨d9, e9, rfl, _, _⟩:=hrd2.2.shape
        have H9:=Lib.hid hrd2
        have HS243 : Hid (DrH w C [.ob b2 25 (tbCells (.slice none 0 0) (.slice none 0 0)), .ob b3 25 (tbCells (.slice a t.held.length cap) (.slice a2 t.wait.length cap2)), .rd R, .rd R9] w242):=(HS242.out).addrd hb R9 hin2 (fun r hr=>(hnew2 r hr).elim .inl (fun h=>.inr ⟨.rd R, List.mem_of_getElem? (i:=2) rfl, h⟩))
        refine hK.out _ _ (trivial) (fun hHeld=>?_)
        clear hK K hb hin2 hrd2 hnew2 hnew3
        try simp only [z0, z1, z2, z3]
        refine tk 4 qDrLk_17 (some 16) (v:=?q235v) (Or.inl ⟨by rfl, ?q235h⟩) hHeld ?q235r
        case q235h=>(intro _ h;clear h;go_simp;try with_reducible rfl)
        try simp only [z0, z1, z2, z3]
        refine tk 5 qDrLk_18 (some 21) (v:=.agg (tbCells (.slice a9 u.held.length c9) (.slice d9 u.wait.length e9)).toArray) (Or.inl ⟨by rfl, ?q236h⟩) hHeld ?q236r
        case q236h=>(intro _ h;clear h;go_simp;try with_reducible rfl)
        try simp only [z0, z1, z2, z3]
        refine tk 6 qDrLk_19 (some 22) (v:=.bool b) (Or.inl ⟨by rfl, ?q237h⟩) hHeld ?q237r
        case q237h=>(intro _ h;clear h;go_simp;try with_reducible rfl)
        try simp only [z0, z1, z2, z3]
        refine tk 7 qDrLk_20 (some 23) (v:=.int .i64 c) (Or.inl ⟨by rfl, ?q238h⟩) hHeld ?q238r
        case q238h=>(intro _ h;clear h;go_simp;try with_reducible rfl)
        try simp only [z0, z1, z2, z3]
        refine tn 8 qDrLk_15 (fun K hK=>?_)
        rw [if_pos (by rfl)]
        refine wp_alloc_ob 25 (tbCells (.slice none 0 0) (.slice none 0 0)) rfl alloc_tb ?_
        have HS244 : Hid (DrH w C [.ob b2 25 (tbCells (.slice none 0 0) (.slice none 0 0)), .ob b3 25 (tbCells (.slice a t.held.length cap) (.slice a2 t.wait.length cap2)), .rd R, .rd R9, .ob (w242.heap.size) 25 (tbCells (.slice none 0 0) (.slice none 0 0))] (w242.alloc (.cells (tbCells (.slice none 0 0) (.slice none 0 0)).toArray 25))):=(HS243.out).put 25 (tbCells (.slice none 0 0) (.slice none 0 0))
        refine hK.out _ _ (trivial) (fun hHeld=>?_)
        clear hK K
        generalize (w242.alloc (.cells (tbCells (.slice none 0 0) (.slice none 0 0)).toArray 25)) = w243 at *
        generalize w242.heap.size = B241 at *
        try simp only [z0, z1, z2, z3]
        refine tn 9 qDrLk_21 (fun K hK=>?_)
        rw [if_pos (by rfl)]
        refine wp_store_ob 25 (.tmp 5) (.tmp 21) B241 (tbCells (.slice a9 u.held.length c9) (.slice d9 u.wait.length e9)) (tbCells (.slice none 0 0) (.slice none 0 0)) 25 rfl rfl rfl rfl ((HS244.out).get 4 rfl) (info_tb) (rfl) ((oneCell_tb _ _ _ _ _ _)) ?_
        have HS245 : Hid (DrH w C [.ob b2 25 (tbCells (.slice none 0 0) (.slice none 0 0)), .ob b3 25 (tbCells (.slice a t.held.length cap) (.slice a2 t.wait.length cap2)), .rd R, .rd R9, .ob B241 25 (tbCells (.slice a9 u.held.length c9) (.slice d9 u.wait.length e9))] (w243.setRow B241 (tbCells (.slice a9 u.held.length c9) (.slice d9 u.wait.length e9)).toArray)):=(HS244.out).row 4 rfl (tbCells (.slice a9 u.held.length c9) (.slice d9 u.wait.length e9))
        refine hK.out _ _ (trivial) (fun hHeld=>?_)
        clear hK K
        generalize (w243.setRow B241 (tbCells (.slice a9 u.held.length c9) (.slice d9 u.wait.length e9)).toArray) = w244 at *
        try simp only [z0, z1, z2, z3]
        refine tk 10 qDrLk_22 (some 6) (v:=?q239v) (Or.inl ⟨by rfl, ?q239h⟩) hHeld ?q239r
        case q239h=>(intro _ h;clear h;go_simp;try with_reducible rfl)
        try simp only [z0, z1, z2, z3]
        refine tk 11 qDrLk_23 (some 7) (v:=?q240v) (Or.inl ⟨by rfl, ?q240h⟩) hHeld ?q240r
        case q240h=>(intro _ h;clear h;go_simp;try with_reducible rfl)
        try simp only [z0, z1, z2, z3]
        refine wpAnyH_done (by kernel_rfl) ?_ _
        clear hHeld
        by_cases hc0 : c = 0
        ·obtain ⟨e3, n3⟩:=eq_facts hc0
         obtain ⟨hsu, hlu⟩:=HSu.out hc0
         have HSv:=Lib.hid hsu
         have HLu:=Lib.hid hlu
         clear hc0 hsu hlu HSu
         go_upto_region 8 with (fail)
         go_wp2_with (first | ((with_reducible refine wpList_load_ob 25 (.tmp 5) B241 (tbCells (.slice a9 u.held.length c9) (.slice d9 u.wait.length e9)) 25 HUT.out ?_ ?_ ?_ ?_ ?_);(exact rfl);(exact (HS245.out).get 4 rfl);(exact rfl);(exact info_tb);simp only [z0, z1, z2, z3]) | ((with_reducible refine wpList_store_ob 25 (.tmp 3) b3 (tbCells (.slice a9 u.held.length c9) (.slice d9 u.wait.length e9)) (tbCells (.slice a t.held.length cap) (.slice a2 t.wait.length cap2)) 25 ?_ ?_ ?_ ?_ ?_ ?_ ?_);(exact rfl);(exact rfl);(exact (HS245.out).get 1 rfl);(exact info_tb);(exact rfl);(exact (oneCell_tb _ _ _ _ _ _));skip))
         have HS246 : Hid (DrH w C [.ob b2 25 (tbCells (.slice none 0 0) (.slice none 0 0)), .ob b3 25 (tbCells (.slice a9 u.held.length c9) (.slice d9 u.wait.length e9)), .rd R, .rd R9, .ob B241 25 (tbCells (.slice a9 u.held.length c9) (.slice d9 u.wait.length e9))] (w244.setRow b3 (tbCells (.slice a9 u.held.length c9) (.slice d9 u.wait.length e9)).toArray)):=(HS245.out).row 1 rfl (tbCells (.slice a9 u.held.length c9) (.slice d9 u.wait.length e9))
         clear HS245
         generalize (w244.setRow b3 (tbCells (.slice a9 u.held.length c9) (.slice d9 u.wait.length e9)).toArray) = w245 at *
         have HS247 : Hid (DrH w C [.ob b2 25 (tbCells (.slice none 0 0) (.slice none 0 0)), .ob b3 25 (tbCells (.slice a9 u.held.length c9) (.slice d9 u.wait.length e9)), .rd R9] w245):=HS246.out.pull [0, 1, 3] rfl (pull_nd HS246.out.nd [0, 1, 3] rfl (by decide))
         clear HS246
         go_wp2_with fail
         go_roundw
         case rel=>exact ⟨u, a9, d9, c9, e9, R9, i - 1, rfl, by have:=HP.out;omega, by have:=HI.out;have:=HLu.out;omega, HSv.out, H9.out, HS247.out⟩
         case measure=>simp [intOf];have:=HP.out;omega
        ·obtain ⟨e3, n3⟩:=ne_facts hc0
         clear hc0 HSu
         have HS253 : Hid (DrH w C [.ob b2 25 (tbCells (.slice none 0 0) (.slice none 0 0)), .ob b3 25 (tbCells (.slice a t.held.length cap) (.slice a2 t.wait.length cap2)), .rd R] w244):=HS245.out.pull [0, 1, 2] rfl (pull_nd HS245.out.nd [0, 1, 2] rfl (by decide))
         clear HS245
         go_wp2_with fail
         go_roundw
         case rel=>exact ⟨t, a, a2, cap, cap2, R, i - 1, rfl, by have:=HP.out;omega, by have:=HI.out;omega, HSt.out, HRd.out, HS253.out⟩
         case measure=>simp [intOf];have:=HP.out;omega
       ·rw [if_pos (by rfl)]
        refine wp_alloc_ob 25 (tbCells (.slice none 0 0) (.slice none 0 0)) rfl alloc_tb ?_
        have HS243 : Hid (DrH w C [.ob b2 25 (tbCells (.slice none 0 0) (.slice none 0 0)), .ob b3 25 (tbCells (.slice a t.held.length cap) (.slice a2 t.wait.length cap2)), .rd R, .ob (w241.heap.size) 25 (tbCells (.slice none 0 0) (.slice none 0 0))] (w241.alloc (.cells (tbCells (.slice none 0 0) (.slice none 0 0)).toArray 25))):=(HS242.out).put 25 (tbCells (.slice none 0 0) (.slice none 0 0))
        refine hK.out _ _ (trivial) (fun hHeld=>?_)
        clear hK K
        generalize (w241.alloc (.cells (tbCells (.slice none 0 0) (.slice none 0 0)).toArray 25)) = w242 at *
        generalize w241.heap.size = B241 at *
        try simp only [z0, z1, z2, z3]
        refine tn 3 qDrLk_16 (fun K hK=>?_)
        go_simp
        go_wp2_with (go_at_call 28;refine (tb3_as HUe.out (rrequest_any g _ HRd.out ((HS243.out).reads 2 rfl) HSt.out.ok.good HGo.out.good)).mono ?_;rintro e w243 ⟨h9, v9, R9, rfl, hrd2, hin2, hnew2, hb⟩)
        have hnew3 : ∀ r ∈ R9, w.heap.size ≤ r.1:=fun r hr=>by
         rcases hnew2 r hr with h | h
         ·exact Nat.le_trans (HS243.out).bes.size h
         ·exact (HS243.out).off (.rd R) (List.mem_of_getElem? (i:=2) rfl) r.1 h
        obtain ⟨a9, c9, rfl, _, _⟩:=hrd2.1.shape
        obtain ⟨d9, e9, rfl, _, _⟩:=hrd2.2.shape
        have H9:=Lib.hid hrd2
        have HS244 : Hid (DrH w C [.ob b2 25 (tbCells (.slice none 0 0) (.slice none 0 0)), .ob b3 25 (tbCells (.slice a t.held.length cap) (.slice a2 t.wait.length cap2)), .rd R, .ob B241 25 (tbCells (.slice none 0 0) (.slice none 0 0)), .rd R9] w243):=(HS243.out).addrd hb R9 hin2 (fun r hr=>(hnew2 r hr).elim .inl (fun h=>.inr ⟨.rd R, List.mem_of_getElem? (i:=2) rfl, h⟩))
        refine hK.out _ _ (trivial) (fun hHeld=>?_)
        clear hK K hb hin2 hrd2 hnew2 hnew3
        try simp only [z0, z1, z2, z3]
        refine tk 4 qDrLk_17 (some 16) (v:=?q246v) (Or.inl ⟨by rfl, ?q246h⟩) hHeld ?q246r
        case q246h=>(intro _ h;clear h;go_simp;try with_reducible rfl)
        try simp only [z0, z1, z2, z3]
        refine tk 5 qDrLk_18 (some 21) (v:=.agg (tbCells (.slice a9 u.held.length c9) (.slice d9 u.wait.length e9)).toArray) (Or.inl ⟨by rfl, ?q247h⟩) hHeld ?q247r
        case q247h=>(intro _ h;clear h;go_simp;try with_reducible rfl)
        try simp only [z0, z1, z2, z3]
        refine tk 6 qDrLk_19 (some 22) (v:=.bool b) (Or.inl ⟨by rfl, ?q248h⟩) hHeld ?q248r
        case q248h=>(intro _ h;clear h;go_simp;try with_reducible rfl)
        try simp only [z0, z1, z2, z3]
        refine tk 7 qDrLk_20 (some 23) (v:=.int .i64 c) (Or.inl ⟨by rfl, ?q249h⟩) hHeld ?q249r
        case q249h=>(intro _ h;clear h;go_simp;try with_reducible rfl)
        try simp only [z0, z1, z2, z3]
        refine tn 9 qDrLk_21 (fun K hK=>?_)
        rw [if_pos (by rfl)]
        refine wp_store_ob 25 (.tmp 5) (.tmp 21) B241 (tbCells (.slice a9 u.held.length c9) (.slice d9 u.wait.length e9)) (tbCells (.slice none 0 0) (.slice none 0 0)) 25 rfl rfl rfl rfl ((HS244.out).get 3 rfl) (info_tb) (rfl) ((oneCell_tb _ _ _ _ _ _)) ?_
        have HS245 : Hid (DrH w C [.ob b2 25 (tbCells (.slice none 0 0) (.slice none 0 0)), .ob b3 25 (tbCells (.slice a t.held.length cap) (.slice a2 t.wait.length cap2)), .rd R, .ob B241 25 (tbCells (.slice a9 u.held.length c9) (.slice d9 u.wait.length e9)), .rd R9] (w243.setRow B241 (tbCells (.slice a9 u.held.length c9) (.slice d9 u.wait.length e9)).toArray)):=(HS244.out).row 3 rfl (tbCells (.slice a9 u.held.length c9) (.slice d9 u.wait.length e9))
        refine hK.out _ _ (trivial) (fun hHeld=>?_)
        clear hK K
        generalize (w243.setRow B241 (tbCells (.slice a9 u.held.length c9) (.slice d9 u.wait.length e9)).toArray) = w244 at *
        try simp only [z0, z1, z2, z3]
        refine tk 10 qDrLk_22 (some 6) (v:=?q250v) (Or.inl ⟨by rfl, ?q250h⟩) hHeld ?q250r
        case q250h=>(intro _ h;clear h;go_simp;try with_reducible rfl)
        try simp only [z0, z1, z2, z3]
        refine tk 11 qDrLk_23 (some 7) (v:=?q251v) (Or.inl ⟨by rfl, ?q251h⟩) hHeld ?q251r
        case q251h=>(intro _ h;clear h;go_simp;try with_reducible rfl)
        try simp only [z0, z1, z2, z3]
        refine wpAnyH_done (by kernel_rfl) ?_ _
        clear hHeld
        by_cases hc0 : c = 0
        ·obtain ⟨e3, n3⟩:=eq_facts hc0
         obtain ⟨hsu, hlu⟩:=HSu.out hc0
         have HSv:=Lib.hid hsu
         have HLu:=Lib.hid hlu
         clear hc0 hsu hlu HSu
         go_upto_region 8 with (fail)
         go_wp2_with (first | ((with_reducible refine wpList_load_ob 25 (.tmp 5) B241 (tbCells (.slice a9 u.held.length c9) (.slice d9 u.wait.length e9)) 25 HUT.out ?_ ?_ ?_ ?_ ?_);(exact rfl);(exact (HS245.out).get 3 rfl);(exact rfl);(exact info_tb);simp only [z0, z1, z2, z3]) | ((with_reducible refine wpList_store_ob 25 (.tmp 3) b3 (tbCells (.slice a9 u.held.length c9) (.slice d9 u.wait.length e9)) (tbCells (.slice a t.held.length cap) (.slice a2 t.wait.length cap2)) 25 ?_ ?_ ?_ ?_ ?_ ?_ ?_);(exact rfl);(exact rfl);(exact (HS245.out).get 1 rfl);(exact info_tb);(exact rfl);(exact (oneCell_tb _ _ _ _ _ _));skip))
         have HS246 : Hid (DrH w C [.ob b2 25 (tbCells (.slice none 0 0) (.slice none 0 0)), .ob b3 25 (tbCells (.slice a9 u.held.length c9) (.slice d9 u.wait.length e9)), .rd R, .ob B241 25 (tbCells (.slice a9 u.held.length c9) (.slice d9 u.wait.length e9)), .rd R9] (w244.setRow b3 (tbCells (.slice a9 u.held.length c9) (.slice d9 u.wait.length e9)).toArray)):=(HS245.out).row 1 rfl (tbCells (.slice a9 u.held.length c9) (.slice d9 u.wait.length e9))
         clear HS245
         generalize (w244.setRow b3 (tbCells (.slice a9 u.held.length c9) (.slice d9 u.wait.length e9)).toArray) = w245 at *
         have HS247 : Hid (DrH w C [.ob b2 25 (tbCells (.slice none 0 0) (.slice none 0 0)), .ob b3 25 (tbCells (.slice a9 u.held.length c9) (.slice d9 u.wait.length e9)), .rd R9] w245):=HS246.out.pull [0, 1, 4] rfl (pull_nd HS246.out.nd [0, 1, 4] rfl (by decide))
         clear HS246
         go_wp2_with fail
         go_roundw
         case rel=>exact ⟨u, a9, d9, c9, e9, R9, i - 1, rfl, by have:=HP.out;omega, by have:=HI.out;have:=HLu.out;omega, HSv.out, H9.out, HS247.out⟩
         case measure=>simp [intOf];have:=HP.out;omega
        ·obtain ⟨e3, n3⟩:=ne_facts hc0
         clear hc0 HSu
         have HS253 : Hid (DrH w C [.ob b2 25 (tbCells (.slice none 0 0) (.slice none 0 0)), .ob b3 25 (tbCells (.slice a t.held.length cap) (.slice a2 t.wait.length cap2)), .rd R] w244):=HS245.out.pull [0, 1, 2] rfl (pull_nd HS245.out.nd [0, 1, 2] rfl (by decide))
         clear HS245
         go_wp2_with fail
         go_roundw
         case rel=>exact ⟨t, a, a2, cap, cap2, R, i - 1, rfl, by have:=HP.out;omega, by have:=HI.out;omega, HSt.out, HRd.out, HS253.out⟩
         case measure=>simp [intOf];have:=HP.out;omega
      ·rw [if_pos (by rfl)]
       refine wp_alloc_ob 25 (tbCells (.slice none 0 0) (.slice none 0 0)) rfl alloc_tb ?_
       have HS242 : Hid (DrH w C [.ob b2 25 (tbCells (.slice none 0 0) (.slice none 0 0)), .ob b3 25 (tbCells (.slice a t.held.length cap) (.slice a2 t.wait.length cap2)), .rd R, .ob (w241.heap.size) 25 (tbCells (.slice none 0 0) (.slice none 0 0))] (w241.alloc (.cells (tbCells (.slice none 0 0) (.slice none 0 0)).toArray 25))):=(HS241.out).put 25 (tbCells (.slice none 0 0) (.slice none 0 0))
       refine hK.out _ _ (trivial) (fun hHeld=>?_)
       clear hK K
       generalize (w241.alloc (.cells (tbCells (.slice none 0 0) (.slice none 0 0)).toArray 25)) = w242 at *
       generalize w241.heap.size = B241 at *
       try simp only [z0, z1, z2, z3]
       refine tn 0 qDrLk_13 (fun K hK=>?_)
       rw [if_pos (by rfl)]
       refine wp_load_whole 25 (.tmp 3) b3 (tbCells (.slice a t.held.length cap) (.slice a2 t.wait.length cap2)) 25 HUT.out rfl rfl ((HS242.out).get 1 rfl) rfl (info_tb) ?_
       have HS243 : Hid (DrH w C [.ob b2 25 (tbCells (.slice none 0 0) (.slice none 0 0)), .ob b3 25 (tbCells (.slice a t.held.length cap) (.slice a2 t.wait.length cap2)), .rd R, .ob B241 25 (tbCells (.slice none 0 0) (.slice none 0 0))] w242):=HS242.out
       refine hK.out _ _ (trivial) (fun hHeld=>?_)
       clear hK K
       try simp only [z0, z1, z2, z3]
       refine tn 3 qDrLk_16 (fun K hK=>?_)
       go_simp
       go_wp2_with (go_at_call 28;refine (tb3_as HUe.out (rrequest_any g _ HRd.out ((HS243.out).reads 2 rfl) HSt.out.ok.good HGo.out.good)).mono ?_;rintro e w243 ⟨h9, v9, R9, rfl, hrd2, hin2, hnew2, hb⟩)
       have hnew3 : ∀ r ∈ R9, w.heap.size ≤ r.1:=fun r hr=>by
        rcases hnew2 r hr with h | h
        ·exact Nat.le_trans (HS243.out).bes.size h
        ·exact (HS243.out).off (.rd R) (List.mem_of_getElem? (i:=2) rfl) r.1 h
       obtain ⟨a9, c9, rfl, _, _⟩:=hrd2.1.shape
       obtain ⟨d9, e9, rfl, _, _⟩:=hrd2.2.shape
       have H9:=Lib.hid hrd2
       have HS244 : Hid (DrH w C [.ob b2 25 (tbCells (.slice none 0 0) (.slice none 0 0)), .ob b3 25 (tbCells (.slice a t.held.length cap) (.slice a2 t.wait.length cap2)), .rd R, .ob B241 25 (tbCells (.slice none 0 0) (.slice none 0 0)), .rd R9] w243):=(HS243.out).addrd hb R9 hin2 (fun r hr=>(hnew2 r hr).elim .inl (fun h=>.inr ⟨.rd R, List.mem_of_getElem? (i:=2) rfl, h⟩))
       refine hK.out _ _ (trivial) (fun hHeld=>?_)
       clear hK K hb hin2 hrd2 hnew2 hnew3
       try simp only [z0, z1, z2, z3]
       refine tk 4 qDrLk_17 (some 16) (v:=?q257v) (Or.inl ⟨by rfl, ?q257h⟩) hHeld ?q257r
       case q257h=>(intro _ h;clear h;go_simp;try with_reducible rfl)
       try simp only [z0, z1, z2, z3]
       refine tk 5 qDrLk_18 (some 21) (v:=.agg (tbCells (.slice a9 u.held.length c9) (.slice d9 u.wait.length e9)).toArray) (Or.inl ⟨by rfl, ?q258h⟩) hHeld ?q258r
       case q258h=>(intro _ h;clear h;go_simp;try with_reducible rfl)
       try simp only [z0, z1, z2, z3]
       refine tk 6 qDrLk_19 (some 22) (v:=.bool b) (Or.inl ⟨by rfl, ?q259h⟩) hHeld ?q259r
       case q259h=>(intro _ h;clear h;go_simp;try with_reducible rfl)
       try simp only [z0, z1, z2, z3]
       refine tk 7 qDrLk_20 (some 23) (v:=.int .i64 c) (Or.inl ⟨by rfl, ?q260h⟩) hHeld ?q260r
       case q260h=>(intro _ h;clear h;go_simp;try with_reducible rfl)
       try simp only [z0, z1, z2, z3]
       refine tn 9 qDrLk_21 (fun K hK=>?_)
       rw [if_pos (by rfl)]
       refine wp_store_ob 25 (.tmp 5) (.tmp 21) B241 (tbCells (.slice a9 u.held.length c9) (.slice d9 u.wait.length e9)) (tbCells (.slice none 0 0) (.slice none 0 0)) 25 rfl rfl rfl rfl ((HS244.out).get 3 rfl) (info_tb) (rfl) ((oneCell_tb _ _ _ _ _ _)) ?_
       have HS245 : Hid (DrH w C [.ob b2 25 (tbCells (.slice none 0 0) (.slice none 0 0)), .ob b3 25 (tbCells (.slice a t.held.length cap) (.slice a2 t.wait.length cap2)), .rd R, .ob B241 25 (tbCells (.slice a9 u.held.length c9) (.slice d9 u.wait.length e9)), .rd R9] (w243.setRow B241 (tbCells (.slice a9 u.held.length c9) (.slice d9 u.wait.length e9)).toArray)):=(HS244.out).row 3 rfl (tbCells (.slice a9 u.held.length c9) (.slice d9 u.wait.length e9))
       refine hK.out _ _ (trivial) (fun hHeld=>?_)
       clear hK K
       generalize (w243.setRow B241 (tbCells (.slice a9 u.held.length c9) (.slice d9 u.wait.length e9)).toArray) = w244 at *
       try simp only [z0, z1, z2, z3]
       refine tk 10 qDrLk_22 (some 6) (v:=?q261v) (Or.inl ⟨by rfl, ?q261h⟩) hHeld ?q261r
       case q261h=>(intro _ h;clear h;go_simp;try with_reducible rfl)
       try simp only [z0, z1, z2, z3]
       refine tk 11 qDrLk_23 (some 7) (v:=?q262v) (Or.inl ⟨by rfl, ?q262h⟩) hHeld ?q262r
       case q262h=>(intro _ h;clear h;go_simp;try with_reducible rfl)
       try simp only [z0, z1, z2, z3]
       refine wpAnyH_done (by kernel_rfl) ?_ _
       clear hHeld
       by_cases hc0 : c = 0
       ·obtain ⟨e3, n3⟩:=eq_facts hc0
        obtain ⟨hsu, hlu⟩:=HSu.out hc0
        have HSv:=Lib.hid hsu
        have HLu:=Lib.hid hlu
        clear hc0 hsu hlu HSu
        go_upto_region 8 with (fail)
        go_wp2_with (first | ((with_reducible refine wpList_load_ob 25 (.tmp 5) B241 (tbCells (.slice a9 u.held.length c9) (.slice d9 u.wait.length e9)) 25 HUT.out ?_ ?_ ?_ ?_ ?_);(exact rfl);(exact (HS245.out).get 3 rfl);(exact rfl);(exact info_tb);simp only [z0, z1, z2, z3]) | ((with_reducible refine wpList_store_ob 25 (.tmp 3) b3 (tbCells (.slice a9 u.held.length c9) (.slice d9 u.wait.length e9)) (tbCells (.slice a t.held.length cap) (.slice a2 t.wait.length cap2)) 25 ?_ ?_ ?_ ?_ ?_ ?_ ?_);(exact rfl);(exact rfl);(exact (HS245.out).get 1 rfl);(exact info_tb);(exact rfl);(exact (oneCell_tb _ _ _ _ _ _));skip))
        have HS246 : Hid (DrH w C [.ob b2 25 (tbCells (.slice none 0 0) (.slice none 0 0)), .ob b3 25 (tbCells (.slice a9 u.held.length c9) (.slice d9 u.wait.length e9)), .rd R, .ob B241 25 (tbCells (.slice a9 u.held.length c9) (.slice d9 u.wait.length e9)), .rd R9] (w244.setRow b3 (tbCells (.slice a9 u.held.length c9) (.slice d9 u.wait.length e9)).toArray)):=(HS245.out).row 1 rfl (tbCells (.slice a9 u.held.length c9) (.slice d9 u.wait.length e9))
        clear HS245
        generalize (w244.setRow b3 (tbCells (.slice a9 u.held.length c9) (.slice d9 u.wait.length e9)).toArray) = w245 at *
        have HS247 : Hid (DrH w C [.ob b2 25 (tbCells (.slice none 0 0) (.slice none 0 0)), .ob b3 25 (tbCells (.slice a9 u.held.length c9) (.slice d9 u.wait.length e9)), .rd R9] w245):=HS246.out.pull [0, 1, 4] rfl (pull_nd HS246.out.nd [0, 1, 4] rfl (by decide))
        clear HS246
        go_wp2_with fail
        go_roundw
        case rel=>exact ⟨u, a9, d9, c9, e9, R9, i - 1, rfl, by have:=HP.out;omega, by have:=HI.out;have:=HLu.out;omega, HSv.out, H9.out, HS247.out⟩
        case measure=>simp [intOf];have:=HP.out;omega
       ·obtain ⟨e3, n3⟩:=ne_facts hc0
        clear hc0 HSu
        have HS253 : Hid (DrH w C [.ob b2 25 (tbCells (.slice none 0 0) (.slice none 0 0)), .ob b3 25 (tbCells (.slice a t.held.length cap) (.slice a2 t.wait.length cap2)), .rd R] w244):=HS245.out.pull [0, 1, 2] rfl (pull_nd HS245.out.nd [0, 1, 2] rfl (by decide))
        clear HS245
        go_wp2_with fail
        go_roundw
        case rel=>exact ⟨t, a, a2, cap, cap2, R, i - 1, rfl, by have:=HP.out;omega, by have:=HI.out;omega, HSt.out, HRd.out, HS253.out⟩
        case measure=>simp [intOf];have:=HP.out;omega
     ·rw [if_pos (by rfl)]
      refine wp_alloc_ob 25 (tbCells (.slice none 0 0) (.slice none 0 0)) rfl alloc_tb ?_
      have HS241 : Hid (DrH w C [.ob b2 25 (tbCells (.slice none 0 0) (.slice none 0 0)), .ob b3 25 (tbCells (.slice a t.held.length cap) (.slice a2 t.wait.length cap2)), .rd R, .ob (w3.drew.heap.size) 25 (tbCells (.slice none 0 0) (.slice none 0 0))] (w3.drew.alloc (.cells (tbCells (.slice none 0 0) (.slice none 0 0)).toArray 25))):=((HY2.out).drew).put 25 (tbCells (.slice none 0 0) (.slice none 0 0))
      refine hK.out _ _ (trivial) (fun hHeld=>?_)
      clear hK K
      generalize (w3.drew.alloc (.cells (tbCells (.slice none 0 0) (.slice none 0 0)).toArray 25)) = w241 at *
      generalize w3.drew.heap.size = B241 at *
      try simp only [z0, z1, z2, z3]
      refine wpAnyH_ready (rs:=[0, 2]) (by kernel_rfl) (by simp) ?_
      refine AllReadyH.cons (o:=qDrLk_13) rfl (fun K hK=>?_) (AllReadyH.cons (o:=qDrLk_14) rfl (fun K hK=>?_) (AllReadyH.nil))
      ·rw [if_pos (by rfl)]
       refine wp_load_whole 25 (.tmp 3) b3 (tbCells (.slice a t.held.length cap) (.slice a2 t.wait.length cap2)) 25 HUT.out rfl rfl ((HS241.out).get 1 rfl) rfl (info_tb) ?_
       have HS242 : Hid (DrH w C [.ob b2 25 (tbCells (.slice none 0 0) (.slice none 0 0)), .ob b3 25 (tbCells (.slice a t.held.length cap) (.slice a2 t.wait.length cap2)), .rd R, .ob B241 25 (tbCells (.slice none 0 0) (.slice none 0 0))] w241):=HS241.out
       refine hK.out _ _ (trivial) (fun hHeld=>?_)
       clear hK K
       try simp only [z0, z1, z2, z3]
       refine tn 2 qDrLk_14 (fun K hK=>?_)
       go_simp
       go_wp2_with (go_at_call 16;refine (grant_any C _ (HS242.out).codes).mono ?_;rintro e w242 ⟨g, rfl, hgo, hb, hc, _⟩)
       have HS243 : Hid (DrH w C [.ob b2 25 (tbCells (.slice none 0 0) (.slice none 0 0)), .ob b3 25 (tbCells (.slice a t.held.length cap) (.slice a2 t.wait.length cap2)), .rd R, .ob B241 25 (tbCells (.slice none 0 0) (.slice none 0 0))] w242):=(HS242.out).draws hb hc
       refine hK.out _ _ (trivial) (fun hHeld=>?_)
       clear hK K hb hc
       obtain ⟨u, b, c, hu⟩ : ∃ u b c, requestR t g = (u, b, c):=⟨_, _, _, rfl⟩
       have HUe:=Lib.hid hu
       have HSu : Hid (c = 0 → Settled u ∧ tbLen u ≤ tbLen t + 1):=Lib.hid (fun hc0=>by have h:=request_ok HSt.out.ok (g:=g) (by rw [hu];exact hc0);rw [hu] at h;exact ⟨⟨h.1, h.2.1 HSt.out.stuck⟩, h.2.2.2⟩)
       have HGo:=Lib.hid hgo
       clear hu hgo
       try simp only [z0, z1, z2, z3]
       refine tn 3 qDrLk_16 (fun K hK=>?_)
       go_simp
       go_wp2_with (go_at_call 28;refine (tb3_as HUe.out (rrequest_any g _ HRd.out ((HS243.out).reads 2 rfl) HSt.out.ok.good HGo.out.good)).mono ?_;rintro e w243 ⟨h9, v9, R9, rfl, hrd2, hin2, hnew2, hb⟩)
       have hnew3 : ∀ r ∈ R9, w.heap.size ≤ r.1:=fun r hr=>by
        rcases hnew2 r hr with h | h
        ·exact Nat.le_trans (HS243.out).bes.size h
        ·exact (HS243.out).off (.rd R) (List.mem_of_getElem? (i:=2) rfl) r.1 h
       obtain ⟨a9, c9, rfl, _, _⟩:=hrd2.1.shape
       obtain ⟨d9, e9, rfl, _, _⟩:=hrd2.2.shape
       have H9:=Lib.hid hrd2
       have HS244 : Hid (DrH w C [.ob b2 25 (tbCells (.slice none 0 0) (.slice none 0 0)), .ob b3 25 (tbCells (.slice a t.held.length cap) (.slice a2 t.wait.length cap2)), .rd R, .ob B241 25 (tbCells (.slice none 0 0) (.slice none 0 0)), .rd R9] w243):=(HS243.out).addrd hb R9 hin2 (fun r hr=>(hnew2 r hr).elim .inl (fun h=>.inr ⟨.rd R, List.mem_of_getElem? (i:=2) rfl, h⟩))
       refine hK.out _ _ (trivial) (fun hHeld=>?_)
       clear hK K hb hin2 hrd2 hnew2 hnew3
       try simp only [z0, z1, z2, z3]
       refine tk 4 qDrLk_17 (some 16) (v:=?q268v) (Or.inl ⟨by rfl, ?q268h⟩) hHeld ?q268r
       case q268h=>(intro _ h;clear h;go_simp;try with_reducible rfl)
       try simp only [z0, z1, z2, z3]
       refine tk 5 qDrLk_18 (some 21) (v:=.agg (tbCells (.slice a9 u.held.length c9) (.slice d9 u.wait.length e9)).toArray) (Or.inl ⟨by rfl, ?q269h⟩) hHeld ?q269r
       case q269h=>(intro _ h;clear h;go_simp;try with_reducible rfl)
       try simp only [z0, z1, z2, z3]
       refine tk 6 qDrLk_19 (some 22) (v:=.bool b) (Or.inl ⟨by rfl, ?q270h⟩) hHeld ?q270r
       case q270h=>(intro _ h;clear h;go_simp;try with_reducible rfl)
       try simp only [z0, z1, z2, z3]
       refine tk 7 qDrLk_20 (some 23) (v:=.int .i64 c) (Or.inl ⟨by rfl, ?q271h⟩) hHeld ?q271r
       case q271h=>(intro _ h;clear h;go_simp;try with_reducible rfl)
       try simp only [z0, z1, z2, z3]
       refine tn 9 qDrLk_21 (fun K hK=>?_)
       rw [if_pos (by rfl)]
       refine wp_store_ob 25 (.tmp 5) (.tmp 21) B241 (tbCells (.slice a9 u.held.length c9) (.slice d9 u.wait.length e9)) (tbCells (.slice none 0 0) (.slice none 0 0)) 25 rfl rfl rfl rfl ((HS244.out).get 3 rfl) (info_tb) (rfl) ((oneCell_tb _ _ _ _ _ _)) ?_
       have HS245 : Hid (DrH w C [.ob b2 25 (tbCells (.slice none 0 0) (.slice none 0 0)), .ob b3 25 (tbCells (.slice a t.held.length cap) (.slice a2 t.wait.length cap2)), .rd R, .ob B241 25 (tbCells (.slice a9 u.held.length c9) (.slice d9 u.wait.length e9)), .rd R9] (w243.setRow B241 (tbCells (.slice a9 u.held.length c9) (.slice d9 u.wait.length e9)).toArray)):=(HS244.out).row 3 rfl (tbCells (.slice a9 u.held.length c9) (.slice d9 u.wait.length e9))
       refine hK.out _ _ (trivial) (fun hHeld=>?_)
       clear hK K
       generalize (w243.setRow B241 (tbCells (.slice a9 u.held.length c9) (.slice d9 u.wait.length e9)).toArray) = w244 at *
       try simp only [z0, z1, z2, z3]
       refine tk 10 qDrLk_22 (some 6) (v:=?q272v) (Or.inl ⟨by rfl, ?q272h⟩) hHeld ?q272r
       case q272h=>(intro _ h;clear h;go_simp;try with_reducible rfl)
       try simp only [z0, z1, z2, z3]
       refine tk 11 qDrLk_23 (some 7) (v:=?q273v) (Or.inl ⟨by rfl, ?q273h⟩) hHeld ?q273r
       case q273h=>(intro _ h;clear h;go_simp;try with_reducible rfl)
       try simp only [z0, z1, z2, z3]
       refine wpAnyH_done (by kernel_rfl) ?_ _
       clear hHeld
       by_cases hc0 : c = 0
       ·obtain ⟨e3, n3⟩:=eq_facts hc0
        obtain ⟨hsu, hlu⟩:=HSu.out hc0
        have HSv:=Lib.hid hsu
        have HLu:=Lib.hid hlu
        clear hc0 hsu hlu HSu
        go_upto_region 8 with (fail)
        go_wp2_with (first | ((with_reducible refine wpList_load_ob 25 (.tmp 5) B241 (tbCells (.slice a9 u.held.length c9) (.slice d9 u.wait.length e9)) 25 HUT.out ?_ ?_ ?_ ?_ ?_);(exact rfl);(exact (HS245.out).get 3 rfl);(exact rfl);(exact info_tb);simp only [z0, z1, z2, z3]) | ((with_reducible refine wpList_store_ob 25 (.tmp 3) b3 (tbCells (.slice a9 u.held.length c9) (.slice d9 u.wait.length e9)) (tbCells (.slice a t.held.length cap) (.slice a2 t.wait.length cap2)) 25 ?_ ?_ ?_ ?_ ?_ ?_ ?_);(exact rfl);(exact rfl);(exact (HS245.out).get 1 rfl);(exact info_tb);(exact rfl);(exact (oneCell_tb _ _ _ _ _ _));skip))
        have HS246 : Hid (DrH w C [.ob b2 25 (tbCells (.slice none 0 0) (.slice none 0 0)), .ob b3 25 (tbCells (.slice a9 u.held.length c9) (.slice d9 u.wait.length e9)), .rd R, .ob B241 25 (tbCells (.slice a9 u.held.length c9) (.slice d9 u.wait.length e9)), .rd R9] (w244.setRow b3 (tbCells (.slice a9 u.held.length c9) (.slice d9 u.wait.length e9)).toArray)):=(HS245.out).row 1 rfl (tbCells (.slice a9 u.held.length c9) (.slice d9 u.wait.length e9))
        clear HS245
        generalize (w244.setRow b3 (tbCells (.slice a9 u.held.length c9) (.slice d9 u.wait.length e9)).toArray) = w245 at *
        have HS247 : Hid (DrH w C [.ob b2 25 (tbCells (.slice none 0 0) (.slice none 0 0)), .ob b3 25 (tbCells (.slice a9 u.held.length c9) (.slice d9 u.wait.length e9)), .rd R9] w245):=HS246.out.pull [0, 1, 4] rfl (pull_nd HS246.out.nd [0, 1, 4] rfl (by decide))
        clear HS246
        go_wp2_with fail
        go_roundw
        case rel=>exact ⟨u, a9, d9, c9, e9, R9, i - 1, rfl, by have:=HP.out;omega, by have:=HI.out;have:=HLu.out;omega, HSv.out, H9.out, HS247.out⟩
        case measure=>simp [intOf];have:=HP.out;omega
       ·obtain ⟨e3, n3⟩:=ne_facts hc0
        clear hc0 HSu
        have HS253 : Hid (DrH w C [.ob b2 25 (tbCells (.slice none 0 0) (.slice none 0 0)), .ob b3 25 (tbCells (.slice a t.held.length cap) (.slice a2 t.wait.length cap2)), .rd R] w244):=HS245.out.pull [0, 1, 2] rfl (pull_nd HS245.out.nd [0, 1, 2] rfl (by decide))
        clear HS245
        go_wp2_with fail
        go_roundw
        case rel=>exact ⟨t, a, a2, cap, cap2, R, i - 1, rfl, by have:=HP.out;omega, by have:=HI.out;omega, HSt.out, HRd.out, HS253.out⟩
        case measure=>simp [intOf];have:=HP.out;omega
      ·go_simp
       go_wp2_with (go_at_call 16;refine (grant_any C _ (HS241.out).codes).mono ?_;rintro e w242 ⟨g, rfl, hgo, hb, hc, _⟩)
       have HS242 : Hid (DrH w C [.ob b2 25 (tbCells (.slice none 0 0) (.slice none 0 0)), .ob b3 25 (tbCells (.slice a t.held.length cap) (.slice a2 t.wait.length cap2)), .rd R, .ob B241 25 (tbCells (.slice none 0 0) (.slice none 0 0))] w242):=(HS241.out).draws hb hc
       refine hK.out _ _ (trivial) (fun hHeld=>?_)
       clear hK K hb hc
       obtain ⟨u, b, c, hu⟩ : ∃ u b c, requestR t g = (u, b, c):=⟨_, _, _, rfl⟩
       have HUe:=Lib.hid hu
       have HSu : Hid (c = 0 → Settled u ∧ tbLen u ≤ tbLen t + 1):=Lib.hid (fun hc0=>by have h:=request_ok HSt.out.ok (g:=g) (by rw [hu];exact hc0);rw [hu] at h;exact ⟨⟨h.1, h.2.1 HSt.out.stuck⟩, h.2.2.2⟩)
       have HGo:=Lib.hid hgo
       clear hu hgo
       try simp only [z0, z1, z2, z3]
       refine tn 0 qDrLk_13 (fun K hK=>?_)
       rw [if_pos (by rfl)]
       refine wp_load_whole 25 (.tmp 3) b3 (tbCells (.slice a t.held.length cap) (.slice a2 t.wait.length cap2)) 25 HUT.out rfl rfl ((HS242.out).get 1 rfl) rfl (info_tb) ?_
       have HS243 : Hid (DrH w C [.ob b2 25 (tbCells (.slice none 0 0) (.slice none 0 0)), .ob b3 25 (tbCells (.slice a t.held.length cap) (.slice a2 t.wait.length cap2)), .rd R, .ob B241 25 (tbCells (.slice none 0 0) (.slice none 0 0))] w242):=HS242.out
       refine hK.out _ _ (trivial) (fun hHeld=>?_)
       clear hK K
       try simp only [z0, z1, z2, z3]
       refine tn 3 qDrLk_16 (fun K hK=>?_)
       go_simp
       go_wp2_with (go_at_call 28;refine (tb3_as HUe.out (rrequest_any g _ HRd.out ((HS243.out).reads 2 rfl) HSt.out.ok.good HGo.out.good)).mono ?_;rintro e w243 ⟨h9, v9, R9, rfl, hrd2, hin2, hnew2, hb⟩)
       have hnew3 : ∀ r ∈ R9, w.heap.size ≤ r.1:=fun r hr=>by
        rcases hnew2 r hr with h | h
        ·exact Nat.le_trans (HS243.out).bes.size h
        ·exact (HS243.out).off (.rd R) (List.mem_of_getElem? (i:=2) rfl) r.1 h
       obtain ⟨a9, c9, rfl, _, _⟩:=hrd2.1.shape
       obtain ⟨d9, e9, rfl, _, _⟩:=hrd2.2.shape
       have H9:=Lib.hid hrd2
       have HS244 : Hid (DrH w C [.ob b2 25 (tbCells (.slice none 0 0) (.slice none 0 0)), .ob b3 25 (tbCells (.slice a t.held.length cap) (.slice a2 t.wait.length cap2)), .rd R, .ob B241 25 (tbCells (.slice none 0 0) (.slice none 0 0)), .rd R9] w243):=(HS243.out).addrd hb R9 hin2 (fun r hr=>(hnew2 r hr).elim .inl (fun h=>.inr ⟨.rd R, List.mem_of_getElem? (i:=2) rfl, h⟩))
       refine hK.out _ _ (trivial) (fun hHeld=>?_)
       clear hK K hb hin2 hrd2 hnew2 hnew3
       try simp only [z0, z1, z2, z3]
       refine tk 4 qDrLk_17 (some 16) (v:=?q279v) (Or.inl ⟨by rfl, ?q279h⟩) hHeld ?q279r
       case q279h=>(intro _ h;clear h;go_simp;try with_reducible rfl)
       try simp only [z0, z1, z2, z3]
       refine tk 5 qDrLk_18 (some 21) (v:=.agg (tbCells (.slice a9 u.held.length c9) (.slice d9 u.wait.length e9)).toArray) (Or.inl ⟨by rfl, ?q280h⟩) hHeld ?q280r
       case q280h=>(intro _ h;clear h;go_simp;try with_reducible rfl)
       try simp only [z0, z1, z2, z3]
       refine tk 6 qDrLk_19 (some 22) (v:=.bool b) (Or.inl ⟨by rfl, ?q281h⟩) hHeld ?q281r
       case q281h=>(intro _ h;clear h;go_simp;try with_reducible rfl)
       try simp only [z0, z1, z2, z3]
       refine tk 7 qDrLk_20 (some 23) (v:=.int .i64 c) (Or.inl ⟨by rfl, ?q282h⟩) hHeld ?q282r
       case q282h=>(intro _ h;clear h;go_simp;try with_reducible rfl)
       try simp only [z0, z1, z2, z3]
       refine tn 9 qDrLk_21 (fun K hK=>?_)
       rw [if_pos (by rfl)]
       refine wp_store_ob 25 (.tmp 5) (.tmp 21) B241 (tbCells (.slice a9 u.held.length c9) (.slice d9 u.wait.length e9)) (tbCells (.slice none 0 0) (.slice none 0 0)) 25 rfl rfl rfl rfl ((HS244.out).get 3 rfl) (info_tb) (rfl) ((oneCell_tb _ _ _ _ _ _)) ?_
       have HS245 : Hid (DrH w C [.ob b2 25 (tbCells (.slice none 0 0) (.slice none 0 0)), .ob b3 25 (tbCells (.slice a t.held.length cap) (.slice a2 t.wait.length cap2)), .rd R, .ob B241 25 (tbCells (.slice a9 u.held.length c9) (.slice d9 u.wait.length e9)), .rd R9] (w243.setRow B241 (tbCells (.slice a9 u.held.length c9) (.slice d9 u.wait.length e9)).toArray)):=(HS244.out).row 3 rfl (tbCells (.slice a9 u.held.length c9) (.slice d9 u.wait.length e9))
       refine hK.out _ _ (trivial) (fun hHeld=>?_)
       clear hK K
       generalize (w243.setRow B241 (tbCells (.slice a9 u.held.length c9) (.slice d9 u.wait.length e9)).toArray) = w244 at *
       try simp only [z0, z1, z2, z3]
       refine tk 10 qDrLk_22 (some 6) (v:=?q283v) (Or.inl ⟨by rfl, ?q283h⟩) hHeld ?q283r
       case q283h=>(intro _ h;clear h;go_simp;try with_reducible rfl)
       try simp only [z0, z1, z2, z3]
       refine tk 11 qDrLk_23 (some 7) (v:=?q284v) (Or.inl ⟨by rfl, ?q284h⟩) hHeld ?q284r
       case q284h=>(intro _ h;clear h;go_simp;try with_reducible rfl)
       try simp only [z0, z1, z2, z3]
       refine wpAnyH_done (by kernel_rfl) ?_ _
       clear hHeld
       by_cases hc0 : c = 0
       ·obtain ⟨e3, n3⟩:=eq_facts hc0
        obtain ⟨hsu, hlu⟩:=HSu.out hc0
        have HSv:=Lib.hid hsu
        have HLu:=Lib.hid hlu
        clear hc0 hsu hlu HSu
        go_upto_region 8 with (fail)
        go_wp2_with (first | ((with_reducible refine wpList_load_ob 25 (.tmp 5) B241 (tbCells (.slice a9 u.held.length c9) (.slice d9 u.wait.length e9)) 25 HUT.out ?_ ?_ ?_ ?_ ?_);(exact rfl);(exact (HS245.out).get 3 rfl);(exact rfl);(exact info_tb);simp only [z0, z1, z2, z3]) | ((with_reducible refine wpList_store_ob 25 (.tmp 3) b3 (tbCells (.slice a9 u.held.length c9) (.slice d9 u.wait.length e9)) (tbCells (.slice a t.held.length cap) (.slice a2 t.wait.length cap2)) 25 ?_ ?_ ?_ ?_ ?_ ?_ ?_);(exact rfl);(exact rfl);(exact (HS245.out).get 1 rfl);(exact info_tb);(exact rfl);(exact (oneCell_tb _ _ _ _ _ _));skip))
        have HS246 : Hid (DrH w C [.ob b2 25 (tbCells (.slice none 0 0) (.slice none 0 0)), .ob b3 25 (tbCells (.slice a9 u.held.length c9) (.slice d9 u.wait.length e9)), .rd R, .ob B241 25 (tbCells (.slice a9 u.held.length c9) (.slice d9 u.wait.length e9)), .rd R9] (w244.setRow b3 (tbCells (.slice a9 u.held.length c9) (.slice d9 u.wait.length e9)).toArray)):=(HS245.out).row 1 rfl (tbCells (.slice a9 u.held.length c9) (.slice d9 u.wait.length e9))
        clear HS245
        generalize (w244.setRow b3 (tbCells (.slice a9 u.held.length c9) (.slice d9 u.wait.length e9)).toArray) = w245 at *
        have HS247 : Hid (DrH w C [.ob b2 25 (tbCells (.slice none 0 0) (.slice none 0 0)), .ob b3 25 (tbCells (.slice a9 u.held.length c9) (.slice d9 u.wait.length e9)), .rd R9] w245):=HS246.out.pull [0, 1, 4] rfl (pull_nd HS246.out.nd [0, 1, 4] rfl (by decide))
        clear HS246
        go_wp2_with fail
        go_roundw
        case rel=>exact ⟨u, a9, d9, c9, e9, R9, i - 1, rfl, by have:=HP.out;omega, by have:=HI.out;have:=HLu.out;omega, HSv.out, H9.out, HS247.out⟩
        case measure=>simp [intOf];have:=HP.out;omega
       ·obtain ⟨e3, n3⟩:=ne_facts hc0
        clear hc0 HSu
        have HS253 : Hid (DrH w C [.ob b2 25 (tbCells (.slice none 0 0) (.slice none 0 0)), .ob b3 25 (tbCells (.slice a t.held.length cap) (.slice a2 t.wait.length cap2)), .rd R] w244):=HS245.out.pull [0, 1, 2] rfl (pull_nd HS245.out.nd [0, 1, 2] rfl (by decide))
        clear HS245
        go_wp2_with fail
        go_roundw
        case rel=>exact ⟨t, a, a2, cap, cap2, R, i - 1, rfl, by have:=HP.out;omega, by have:=HI.out;omega, HSt.out, HRd.out, HS253.out⟩
        case measure=>simp [intOf];have:=HP.out;omega
  ·have hid0 : decide (0 < i) = false:=decide_eq_false hi
   have HLn : Hid (tbLen t ≤ 13):=Lib.hid (by omega)
   clear hi hi0 hi13 HI
   go_upto_region 13 with (fail)
   go_wp2_with (first | ((with_reducible refine wpList_load_ob 25 (.tmp 3) b3 (tbCells (.slice a t.held.length cap) (.slice a2 t.wait.length cap2)) 25 HUT.out ?_ ?_ ?_ ?_ ?_);(exact rfl);(exact (HY.out).get 1 rfl);(exact rfl);(exact info_tb);simp only [z0, z1, z2, z3]) | ((with_reducible refine wpList_store_ob 25 (.tmp 2) b2 (tbCells (.slice a t.held.length cap) (.slice a2 t.wait.length cap2)) (tbCells (.slice none 0 0) (.slice none 0 0)) 25 ?_ ?_ ?_ ?_ ?_ ?_ ?_);(exact rfl);(exact rfl);(exact (HY.out).get 0 rfl);(exact info_tb);(exact rfl);(exact (oneCell_tb _ _ _ _ _ _));skip))
   have HS641 : Hid (DrH w C [.ob b2 25 (tbCells (.slice a t.held.length cap) (.slice a2 t.wait.length cap2)), .ob b3 25 (tbCells (.slice a t.held.length cap) (.slice a2 t.wait.length cap2)), .rd R] (wr.setRow b2 (tbCells (.slice a t.held.length cap) (.slice a2 t.wait.length cap2)).toArray)):=(HY.out).row 0 rfl (tbCells (.slice a t.held.length cap) (.slice a2 t.wait.length cap2))
   clear HY
   generalize (wr.setRow b2 (tbCells (.slice a t.held.length cap) (.slice a2 t.wait.length cap2)).toArray) = w641 at *
   refine bodyPost_ret (results_ob Try.results8 _ _ b2 (tbCells (.slice a t.held.length cap) (.slice a2 t.wait.length cap2)) 25 _ rfl ((HS641.out).get 0 rfl) HUT.out rfl info_tb) rfl ?_
   exact ⟨t, _, _, R, rfl, HSt.out, HLn.out, HRd.out, (HS641.out).reads 2 rfl, fun r hr=>(HS641.out).off (.rd R) (List.mem_of_getElem? (i:=2) rfl) r.1 (List.mem_map.2 ⟨r, hr, rfl⟩), (HS641.out).bes, (HS641.out).codes⟩
end Go.Proofs.Ytooaldglgkjjgaa
/- choices are drawn, and what comes of them is read -/
namespace Go.Proofs.Ytooaldglgkjjgaa
open Go.RowKit
set_option maxRecDepth 20000

theorem Hp.drawsrd2 {w W W' : World} {L : List Th} (h : Hp w L W) (i : Nat) {C : Nat} (e : L[i]? = some (.cd C)) (hb : Besides C W W') (hc : CodesOk W' C) (R : List Rng) (hR : RdIn W' R) (hn : ∀ r ∈ R, W.heap.size ≤ r.1 ∨ ∃ z ∈ L, r.1 ∈ z.reads) : Hp w (L ++ [.rd R]) W':=by
  have h':=h.draws i e hb hc
  have hL : L.set i (.cd C) = L:=by
    apply List.ext_getElem?
    intro j
    rw [List.getElem?_set]
    split
    · next hij =>
      subst hij
      rw [e]
      split
      · rfl
      · next hlt=>rw [List.getElem?_eq_none (by omega)] at e;cases e
    · rfl
  rw [hL] at h'
  refine ⟨h'.old, fun x hx=>?_, ?_⟩
  · rcases List.mem_append.1 hx with hx | hx
    · exact h'.all x hx
    · obtain rfl:=List.mem_singleton.1 hx
      exact hR
  · rw [List.pairwise_append]
    refine ⟨h'.nd, List.pairwise_singleton _ _, fun a ha b hb=>?_⟩
    obtain rfl:=List.mem_singleton.1 hb
    refine ⟨fun c hac=>⟨fun hbc=>(by cases hbc), fun hbr=>?_⟩, fun c hbc=>by cases hbc⟩
    have h1:=((h.all a ha).from hac).2
    obtain ⟨r, hr, rfl⟩:=List.mem_map.1 hbr
    rcases hn r hr with h2 | ⟨z, hz, hzr⟩
    · omega
    · exact h.reads_apart ha hz hac hzr
theorem elem_tb : ElemIs 25 2 48:=elem_of (z:=.agg (tbCells (.slice none 0 0) (.slice none 0 0)).toArray) (by kernel_rfl) rfl (by decide) (by decide) (by decide)
theorem under_tbs : Try.prog.underlying 34 = some (.slice 25):=Try.underlying34
theorem under_is : Try.prog.underlying 38 = some (.slice 3):=Try.underlying38
end Go.Proofs.Ytooaldglgkjjgaa
/- who waits is one of five: what the functions of chapter 8 do to that -/
namespace Go.Proofs.Ytooaldglgkjjgaa
set_option maxRecDepth 20000

def Five (t : Tb) : Prop:=∀ x ∈ t.wait, 1 ≤ x.tx ∧ x.tx ≤ 5
theorem five_nil : Five tbNil:=fun x hx=>by cases hx
theorem five_drop {t : Tb} (h : Five t) (tx p s : Int) : Five (dropR t tx p s):=by
  unfold dropR
  split
  · intro x hx
    exact h x (settle_wait (t:=⟨leftKey t.held tx p s, t.wait⟩) hx)
  · exact h
/-- a table as the plays of chapter 9 keep it -/
structure Calm (t : Tb) : Prop where
  set : Settled t
  acyc : Acyc (Edge t)
  five : Five t
theorem Calm.nil : Calm tbNil:=⟨tbNil_settled, acyc_nil, five_nil⟩
theorem Calm.drop {t : Tb} (h : Calm t) (tx p s : Int) : Calm (dropR t tx p s) ∧ tbLen (dropR t tx p s) ≤ tbLen t :=
  ⟨⟨(drop_ok h.set.ok tx p s).1, acyc_drop h.acyc tx p s, five_drop h.five tx p s⟩, (drop_ok h.set.ok tx p s).2⟩
theorem ascA_nodup {l : List Int} (h : Asc l) : l.Nodup:=List.Pairwise.imp (fun h=>by omega) h
theorem not_ok {t : Tb} (h : ¬ TbOk t) : tbOkB t = false:=by
  cases e : tbOkB t
  · rfl
  · exact absurd (tbOkB_iff.1 e) h
theorem waitersA_len (t : Tb) : (waitersR t).length ≤ 1024:=by
  by_cases h : TbOk t
  · have h1:=nodup_len (ascA_nodup (asc_waiters t)) (m:=t.wait.map Gr.tx) (fun x hx=>by
      obtain ⟨y, hy, e⟩:=(mem_waiters h).1 hx
      exact List.mem_map.2 ⟨y, hy, e⟩)
    rw [List.length_map] at h1
    have:=h.few
    omega
  · unfold waitersR
    rw [not_ok h, if_neg (by decide)]
    exact Nat.zero_le _
theorem forA_len (t : Tb) (tx : Int) : (forR t tx).length ≤ 1024:=by
  by_cases h : TbOk t
  · have h1:=nodup_len (ascA_nodup (asc_for t tx)) (m:=(t.held ++ t.wait).map Gr.tx) (fun x hx=>by
      obtain ⟨p, g, q, hw, _, he⟩:=(mem_for h).1 hx
      refine List.mem_map.2 ?_
      rcases he with ⟨y, hy, _, e⟩ | ⟨y, hy, _, e⟩
      · exact ⟨y, List.mem_append_left _ hy, e⟩
      · exact ⟨y, List.mem_append_right _ (by rw [hw];exact List.mem_append_left _ hy), e⟩)
    rw [List.length_map, List.length_append] at h1
    have:=h.few
    omega
  · have e : waitR t tx = (grNil, false):=by
      unfold waitR
      rw [not_ok h]
      rfl
    unfold forR
    rw [e]
    exact Nat.zero_le _
theorem firstR_len {f : Int → List Int} {n : Nat} : ∀ l : List Int, (∀ x, (f x).length ≤ n) → (firstR f l).length ≤ n
  | [], _=>Nat.zero_le _
  | x :: l, h=>by
    unfold firstR
    split
    · exact firstR_len l h
    · exact h x
theorem closedF_len {f : Int → List Int} : ∀ (k : Nat) (way : List Int), (closedF f k way).length ≤ way.length + k
  | 0, way=>by
    unfold closedF
    split
    · exact Nat.le_refl _
    · exact Nat.zero_le _
  | k + 1, way=>by
    unfold closedF
    refine firstR_len _ fun x=>?_
    split
    · exact Nat.zero_le _
    · have:=closedF_len (f:=f) k (way ++ [x])
      rw [List.length_append] at this
      simp only [List.length_cons, List.length_nil] at this
      omega
theorem cycGo_len {f : Int → List Int} {tx : Int} : ∀ (k n : Nat), (cycGo f tx n k).length ≤ n + k
  | 0, n=>Nat.zero_le _
  | k + 1, n=>by
    unfold cycGo
    split
    · have:=cycGo_len (f:=f) (tx:=tx) k (n + 1)
      omega
    · have:=closedF_len (f:=f) n [tx]
      simp only [List.length_cons, List.length_nil] at this
      omega
theorem cycR_len (t : Tb) (tx : Int) : (cycR t tx).length ≤ 1024:=by
  have:=cycGo_len (f:=forR t) (tx:=tx) (waitersR t).length 0
  have h2:=waitersA_len t
  show (cycGo (forR t) tx 0 (waitersR t).length).length ≤ 1024
  omega
theorem flatA_len {f : Int → List (Int × Int)} {n : Nat} : ∀ l : List Int, (∀ x, (f x).length ≤ n) → (l.flatMap f).length ≤ l.length * n
  | [], _=>Nat.zero_le _
  | x :: l, h=>by
    have:=flatA_len (f:=f) l h
    have h1:=h x
    rw [List.flatMap_cons, List.length_append, List.length_cons, Nat.add_mul]
    omega
theorem edgesA_len (t : Tb) : (edgesR t).length ≤ 1048576:=by
  have h1:=flatA_len (f:=fun a=>(forR t a).map fun b=>(a, b)) (n:=1024) (waitersR t) (fun x=>by rw [List.length_map];exact forA_len t x)
  have h2:=waitersA_len t
  show ((waitersR t).flatMap fun a=>(forR t a).map fun b=>(a, b)).length ≤ _
  have : (waitersR t).length * 1024 ≤ 1024 * 1024:=Nat.mul_le_mul_right _ h2
  omega
theorem would_len (t : Tb) (g : Gr) : (wouldR t g).1.length ≤ 1024:=by
  unfold wouldR
  split
  · exact cycR_len _ _
  · exact Nat.zero_le _
end Go.Proofs.Ytooaldglgkjjgaa
/- pairs of numbers are compared; two tables, two grants in a row -/
namespace Go.Proofs.Ytooaldglgkjjgaa
open Go.RowKit
set_option maxRecDepth 20000
set_option linter.unusedSimpArgs false

def egLits (e : Int × Int) : List Lit:=[.int .i64 e.1, .int .i64 e.2]
theorem egLits_iff (a b : Int × Int) : egLits a = egLits b ↔ a = b:=by
  constructor
  · intro h
    simp only [egLits, List.cons.injEq, Lit.int.injEq, true_and, and_true] at h
    exact Prod.ext h.1 h.2
  · rintro rfl;rfl
theorem cellsOf_eg : Try.prog.cellsOf 37 = 2:=by kernel_rfl
def GoodEg (e : Int × Int) : Prop:=(Lit.int .i64 e.1).wf = true ∧ (Lit.int .i64 e.2).wf = true
theorem lits_eg (d : Nat) (e : Int × Int) (h : GoodEg e) : Try.prog.keyLits (d + 2) 37 (edgeCells e) = some (egLits e):=by
  rw [show d + 2 = (d + 1) + 1 from rfl]
  unfold Program.keyLits
  rw [Try.underlying37]
  simp only
  rw [if_pos (by rw [cellsOf_eg];rfl)]
  have h1:=lits_int d e.1 h.1
  have h2:=lits_int d e.2 h.2
  unfold edgeCells
  simp only [cellsOf_int, show List.range 2 = [0, 1] from rfl, List.mapM_cons, List.mapM_nil, List.drop_zero, Nat.zero_mul, Nat.one_mul, List.take_succ_cons, List.take_zero, List.drop_succ_cons, h1, h2]
  simp [egLits, List.flatten, pure, bind]
theorem eg_formed (e : Int × Int) : (Value.agg (edgeCells e).toArray).formed Try.prog 37 = true:=by
  unfold Value.formed
  rw [Try.underlying37]
  simp only
  rw [List.size_toArray, cellsOf_eg]
  rfl
theorem equal_eg (a b : Int × Int) (ha : GoodEg a) (hb : GoodEg b) (w : World) : Sem.run Try.prog (Op.equal 37 (.agg (edgeCells a).toArray) (.agg (edgeCells b).toArray)) w = .ok (sameV a b) w :=
  equal_lits 37 a b _ _ _ _ (by kernel_rfl) (eg_formed a) (eg_formed b) (lits_eg 2 a ha) (lits_eg 2 b hb) (egLits_iff a b) w
theorem neq_eg {a : Int × Int} (ha : GoodEg a) (W : World) : Sem.run Try.prog (binOp .neq 37 (.agg (edgeCells a).toArray) (.agg (edgeCells a).toArray)) W = .ok (.bool false) W:=by
  have:=run_neq (equal_eg a a ha ha) W
  rw [sameV_iff.2 rfl] at this
  exact this
theorem small_wf {n : Int} (h : 1 ≤ n ∧ n ≤ 1073741824) : (Lit.int .i64 n).wf = true:=lk_wf ⟨by omega, by omega⟩
theorem edge_small {t : Tb} (h : TbOk t) {a b : Int} (he : Edge t a b) : GoodEg (a, b):=by
  obtain ⟨p, g, q, hw, hg, hx⟩:=he
  have hgo:=(h.tin.wait.ok g (by rw [hw];exact List.mem_append_right _ (List.mem_cons_self ..))).1
  refine ⟨small_wf (hg ▸ hgo.1), ?_⟩
  rcases hx with ⟨x, hx, _, e⟩ | ⟨x, hx, _, e⟩
  · exact small_wf (e ▸ (h.tin.held.ok x hx).1)
  · exact small_wf (e ▸ (h.tin.wait.ok x (by rw [hw];exact List.mem_append_left _ hx)).1.1)
theorem edges_good {t : Tb} {e : Int × Int} (he : e ∈ edgesR t) : GoodEg e:=by
  by_cases h : TbOk t
  · obtain ⟨a, _, h2⟩:=List.mem_flatMap.1 he
    obtain ⟨b, hb, rfl⟩:=List.mem_map.1 h2
    exact edge_small h ((mem_for h).1 hb)
  · exfalso
    have e0 : waitersR t = []:=by
      unfold waitersR
      rw [not_ok h]
      rfl
    unfold edgesR at he
    rw [e0] at he
    cases he
theorem edgeRow_at : ∀ (l : List (Int × Int)) (k : Nat) (e : Int × Int), l[k]? = some e → ∀ j v, (edgeCells e)[j]? = some v → (edgeRow l)[k * 2 + j]? = some v
  | [], k, e, h=>by simp at h
  | x :: l, 0, e, h=>by
    obtain rfl : x = e:=by simpa using h
    intro j v hv
    unfold edgeRow
    rw [List.flatMap_cons, Nat.zero_mul, Nat.zero_add, List.getElem?_append_left (List.getElem?_eq_some_iff.1 hv).1]
    exact hv
  | x :: l, k + 1, e, h=>by
    intro j v hv
    have ih:=edgeRow_at l k e (by simpa using h) j v hv
    unfold edgeRow at ih ⊢
    rw [List.flatMap_cons, List.getElem?_append_right (by show 2 ≤ _;omega)]
    rw [show (k + 1) * 2 + j - (edgeCells x).length = k * 2 + j by show _ - 2 = _;omega]
    exact ih
/-- pairs that read: their cells -/
theorem edge_cells {v : Value} {l : List (Int × Int)} {R : List Rng} (h : SlRd v 2 l.length (edgeRow l) R) : ∃ a c, v = .slice a l.length c ∧ l.length ≤ c ∧ c ≤ maxLen ∧ (0 < l.length → ∃ g off, a = some ⟨g, off, none⟩ ∧ ∀ W, RdIn W R → ∀ i x, l[i]? = some x → W.cell? ⟨g, off + i * 2, none⟩ = some (.int .i64 x.1) ∧ W.cell? ⟨g, off + i * 2 + 1, none⟩ = some (.int .i64 x.2)):=by
  obtain ⟨a, c, rfl, _, h1, h2, h3, _⟩:=h
  refine ⟨a, c, rfl, h1, h2, fun h0=>?_⟩
  obtain ⟨g, off, ha, hm⟩:=h3 (by omega)
  refine ⟨g, off, ha, fun W hR i x hx=>⟨?_, ?_⟩⟩
  · exact (hR _ hm).2 (i * 2 + 0) _ (edgeRow_at l i x hx 0 _ rfl)
  · exact (hR _ hm).2 (i * 2 + 1) _ (edgeRow_at l i x hx 1 _ rfl)
theorem two_tb {t0 t1 : Tb} {v0 v1 v2 v3 : Value} {R : List Rng} (h0 : TbRd v0 v1 t0 R) (h1 : TbRd v2 v3 t1 R) (g0 : GoodTb t0) (g1 : GoodTb t1) (i : Nat) (hi : i < 2) :
    ∃ (t : Tb) (a b : Option Addr) (c d : Nat), TbRd (.slice a t.held.length c) (.slice b t.wait.length d) t R ∧ GoodTb t ∧ ∀ j v, (tbCells (.slice a t.held.length c) (.slice b t.wait.length d))[j]? = some v → (tbCells v0 v1 ++ tbCells v2 v3)[i * 2 + j]? = some v:=by
  show ∃ (t : Tb) (a b : Option Addr) (c d : Nat), TbRd (.slice a t.held.length c) (.slice b t.wait.length d) t R ∧ GoodTb t ∧ ∀ j v, (tbCells (.slice a t.held.length c) (.slice b t.wait.length d))[j]? = some v → (([tbCells v0 v1, tbCells v2 v3] : List (List Value)).flatMap id)[i * 2 + j]? = some v
  have key : ∀ {t : Tb} {v v' : Value}, TbRd v v' t R → ∃ (a b : Option Addr) (c d : Nat), v = .slice a t.held.length c ∧ v' = .slice b t.wait.length d:=fun h=>by
    obtain ⟨a, c, h1, _, _⟩:=h.1.shape
    obtain ⟨b, d, h2, _, _⟩:=h.2.shape
    exact ⟨a, b, c, d, h1, h2⟩
  rcases (show i = 0 ∨ i = 1 by omega) with rfl | rfl
  · obtain ⟨a, b, c, d, e1, e2⟩:=key h0
    refine ⟨t0, a, b, c, d, e1 ▸ e2 ▸ h0, g0, fun j v hv=>?_⟩
    subst e1;subst e2
    exact flat_mid (z:=2) _ (by intro x hx;simp at hx;rcases hx with rfl | rfl <;> rfl) 0 _ rfl j v hv
  · obtain ⟨a, b, c, d, e1, e2⟩:=key h1
    refine ⟨t1, a, b, c, d, e1 ▸ e2 ▸ h1, g1, fun j v hv=>?_⟩
    subst e1;subst e2
    exact flat_mid (z:=2) _ (by intro x hx;simp at hx;rcases hx with rfl | rfl <;> rfl) 1 _ rfl j v hv
theorem two_gr {g0 g1 : Gr} (h0 : GoodGr g0) (h1 : GoodGr g1) (i : Nat) (hi : i < 2) :
    ∃ g : Gr, GoodGr g ∧ ∀ j v, (grCells g)[j]? = some v → (([grCells g0, grCells g1] : List (List Value)).flatMap id)[i * 4 + j]? = some v:=by
  have key:=fun (k : Nat) (x : List Value) (hk : ([grCells g0, grCells g1] : List (List Value))[k]? = some x)=>flat_mid (z:=4) [grCells g0, grCells g1] (by intro x hx;simp at hx;rcases hx with rfl | rfl <;> rfl) k x hk
  rcases (show i = 0 ∨ i = 1 by omega) with rfl | rfl
  · exact ⟨g0, h0, key 0 _ rfl⟩
  · exact ⟨g1, h1, key 1 _ rfl⟩
end Go.Proofs.Ytooaldglgkjjgaa
/- the law WaitsExact: for every input the call returns true -/
namespace Go.Proofs.Ytooaldglgkjjgaa
open Go.RowKit
open Go.Act renaming put → z0
open List renaming setIfInBounds_toArray → z1, set_cons_zero → z2, set_cons_succ → z3
set_option maxRecDepth 20000
set_option linter.unusedSimpArgs false
set_option linter.unusedVariables false

abbrev qLwEx9_0 : Oper:={ dst:=some 60, op:=Op.load 25 (Operand.tmp 12), type:=25, pos := "law.go:28", after:=#[], guard:=none }
abbrev qLwEx9_1 : Oper:={ dst:=some 62, op:=Op.load 25 (Operand.tmp 12), type:=25, pos := "law.go:28", after:=#[], guard:=none }
abbrev qLwEx9_2 : Oper:={ dst:=some 61, op:=Op.call { callee:=Callee.value (Operand.func 9), args:=#[Operand.tmp 60], argTypes:=#[25] }, type:=35, pos := "law.go:28", after:=#[{ on:=0, ground:=Ground.data }], guard:=none }
abbrev qLwEx9_3 : Oper:={ dst:=some 63, op:=Op.call { callee:=Callee.value (Operand.func 10), args:=#[Operand.tmp 62], argTypes:=#[25] }, type:=35, pos := "law.go:28", after:=#[{ on:=2, ground:=Ground.data }, { on:=1, ground:=Ground.chain }], guard:=none }
abbrev qLwEx9_4 : Oper:={ dst:=some 13, op:=Op.assign (Operand.tmp 61), type:=35, pos := "law.go:28", after:=#[{ on:=1, ground:=Ground.data }, { on:=3, ground:=Ground.chain }, { on:=0, ground:=Ground.phase }, { on:=1, ground:=Ground.phase }, { on:=2, ground:=Ground.textOnly Departure.lateStores }, { on:=3, ground:=Ground.textOnly Departure.lateStoresUnsure }], guard:=none }
abbrev qLwEx9_5 : Oper:={ dst:=some 14, op:=Op.assign (Operand.tmp 63), type:=35, pos := "law.go:28", after:=#[{ on:=3, ground:=Ground.data }, { on:=4, ground:=Ground.chain }, { on:=0, ground:=Ground.phase }, { on:=1, ground:=Ground.phase }, { on:=2, ground:=Ground.phase }, { on:=3, ground:=Ground.phase }, { on:=4, ground:=Ground.phase }], guard:=none }
abbrev qLwEx9_6 : Oper:={ dst:=some 91, op:=Op.load 25 (Operand.tmp 12), type:=25, pos := "law.go:38", after:=#[], guard:=none }
abbrev qLwEx9_7 : Oper:={ dst:=some 92, op:=Op.move (Operand.tmp 17), type:=3, pos := "law.go:38", after:=#[], guard:=none }
abbrev qLwEx9_8 : Oper:={ dst:=some 94, op:=Op.load 25 (Operand.tmp 12), type:=25, pos := "law.go:38", after:=#[], guard:=none }
abbrev qLwEx9_9 : Oper:={ dst:=some 95, op:=Op.move (Operand.tmp 17), type:=3, pos := "law.go:38", after:=#[], guard:=none }
abbrev qLwEx9_10 : Oper:={ dst:=some 93, op:=Op.call { callee:=Callee.value (Operand.func 12), args:=#[Operand.tmp 91, Operand.tmp 92], argTypes:=#[25, 3] }, type:=38, pos := "law.go:38", after:=#[{ on:=0, ground:=Ground.data }, { on:=1, ground:=Ground.data }], guard:=none }
abbrev qLwEx9_11 : Oper:={ dst:=some 96, op:=Op.call { callee:=Callee.value (Operand.func 13), args:=#[Operand.tmp 94, Operand.tmp 95], argTypes:=#[25, 3] }, type:=38, pos := "law.go:38", after:=#[{ on:=3, ground:=Ground.data }, { on:=4, ground:=Ground.data }, { on:=2, ground:=Ground.chain }], guard:=none }
abbrev qLwEx9_12 : Oper:={ dst:=some 97, op:=Op.call { callee:=Callee.value (Operand.func 11), args:=#[Operand.tmp 93, Operand.tmp 96], argTypes:=#[38, 38] }, type:=4, pos := "law.go:38", after:=#[{ on:=2, ground:=Ground.data }, { on:=5, ground:=Ground.data }, { on:=5, ground:=Ground.chain }], guard:=none }
abbrev qLwEx9_13 : Oper:={ dst:=some 98, op:=Op.unOp UnOp.not 4 (Operand.tmp 97), type:=4, pos := "law.go:38", after:=#[{ on:=6, ground:=Ground.data }], guard:=none }
abbrev qLwEx9_14 : Oper:={ dst:=some 99, op:=Op.move (Operand.tmp 98), type:=4, pos := "law.go:38", after:=#[{ on:=7, ground:=Ground.data }, { on:=6, ground:=Ground.chain }], guard:=none }
abbrev qLwEx9_15 : Oper:={ dst:=some 100, op:=Op.load 25 (Operand.tmp 12), type:=25, pos := "law.go:38", after:=#[{ on:=8, ground:=Ground.guard }], guard:=some (8, false) }
abbrev qLwEx9_16 : Oper:={ dst:=some 101, op:=Op.move (Operand.tmp 17), type:=3, pos := "law.go:38", after:=#[{ on:=8, ground:=Ground.guard }], guard:=some (8, false) }
abbrev qLwEx9_17 : Oper:={ dst:=some 103, op:=Op.load 25 (Operand.tmp 12), type:=25, pos := "law.go:38", after:=#[{ on:=8, ground:=Ground.guard }], guard:=some (8, false) }
abbrev qLwEx9_18 : Oper:={ dst:=some 104, op:=Op.move (Operand.tmp 17), type:=3, pos := "law.go:38", after:=#[{ on:=8, ground:=Ground.guard }], guard:=some (8, false) }
abbrev qLwEx9_19 : Oper:={ dst:=some 102, op:=Op.call { callee:=Callee.value (Operand.func 14), args:=#[Operand.tmp 100, Operand.tmp 101], argTypes:=#[25, 3] }, type:=38, pos := "law.go:38", after:=#[{ on:=9, ground:=Ground.data }, { on:=10, ground:=Ground.data }, { on:=8, ground:=Ground.chain }, { on:=8, ground:=Ground.guard }], guard:=some (8, false) }
abbrev qLwEx9_20 : Oper:={ dst:=some 105, op:=Op.call { callee:=Callee.value (Operand.func 15), args:=#[Operand.tmp 103, Operand.tmp 104], argTypes:=#[25, 3] }, type:=38, pos := "law.go:38", after:=#[{ on:=12, ground:=Ground.data }, { on:=13, ground:=Ground.data }, { on:=11, ground:=Ground.chain }, { on:=8, ground:=Ground.guard }], guard:=some (8, false) }
abbrev qLwEx9_21 : Oper:={ dst:=some 106, op:=Op.call { callee:=Callee.value (Operand.func 11), args:=#[Operand.tmp 102, Operand.tmp 105], argTypes:=#[38, 38] }, type:=4, pos := "law.go:38", after:=#[{ on:=11, ground:=Ground.data }, { on:=14, ground:=Ground.data }, { on:=14, ground:=Ground.chain }, { on:=8, ground:=Ground.guard }], guard:=some (8, false) }
abbrev qLwEx9_22 : Oper:={ dst:=some 107, op:=Op.unOp UnOp.not 4 (Operand.tmp 106), type:=4, pos := "law.go:38", after:=#[{ on:=15, ground:=Ground.data }, { on:=8, ground:=Ground.guard }], guard:=some (8, false) }
abbrev qLwEx9_23 : Oper:={ dst:=some 108, op:=Op.pick (Operand.tmp 99) (Operand.const (Value.bool true)) (Operand.tmp 107), type:=4, pos := "law.go:38", after:=#[{ on:=8, ground:=Ground.data }, { on:=16, ground:=Ground.data }], guard:=none }
abbrev qLwEx9_24 : Oper:={ dst:=some 110, op:=Op.load 29 (Operand.tmp 7), type:=29, pos := "law.go:42", after:=#[], guard:=none }
abbrev qLwEx9_25 : Oper:={ dst:=some 111, op:=Op.move (Operand.tmp 9), type:=31, pos := "law.go:42", after:=#[], guard:=none }
abbrev qLwEx9_26 : Oper:={ dst:=some 115, op:=Op.move (Operand.const (Value.int IntKind.i64 0)), type:=3, pos := "law.go:42", after:=#[], guard:=none }
abbrev qLwEx9_27 : Oper:={ dst:=some 112, op:=Op.call { callee:=Callee.value (Operand.func 16), args:=#[Operand.tmp 111], argTypes:=#[31] }, type:=29, pos := "law.go:42", after:=#[{ on:=1, ground:=Ground.data }], guard:=none }
abbrev qLwEx9_28 : Oper:={ dst:=some 113, op:=Op.buildSlice 23 2 #[(0, Operand.tmp 110), (1, Operand.tmp 112)], type:=23, pos := "law.go:42", after:=#[{ on:=0, ground:=Ground.data }, { on:=2, ground:=Ground.data }], guard:=none }
abbrev qLwEx9_29 : Oper:={ dst:=some 114, op:=Op.call { callee:=Callee.builtin Builtin.len, args:=#[Operand.tmp 113], argTypes:=#[23] }, type:=3, pos := "law.go:42", after:=#[{ on:=3, ground:=Ground.data }], guard:=none }
set_option maxHeartbeats 16000000 in
theorem waits9_any (x : Option Addr) (len cap : Nat) (zs : List Int) {h v : Value} {t0 : Tb} {R0 : List Rng} (tx : Int) (g : Gr) (w : World) (hr : IsRow .u8 w x len cap zs) (ht : TbRd h v t0 R0) (hR0 : RdIn w R0) (hg : ∀ z, z ∈ t0.held ∨ z ∈ t0.wait → GoodGr z) (hgg : GoodGr g) :
  Calls Try.prog 3 #[.slice x len cap, .agg (tbCells h v).toArray, .int .i64 tx, .agg (grCells g).toArray] w fun e w'=>e = .returned (.bool true) ∧ Below w.heap.size w w':=by
 obtain ⟨a0, c0, rfl, hnc, hcm⟩:=ht.1.shape
 obtain ⟨b0, d0, rfl, hnc2, hcm2⟩:=ht.2.shape
 have HR:=Lib.hid hr
 have HT:=Lib.hid ht
 have HR0:=Lib.hid hR0
 have HGr:=Lib.hid hg
 have HG:=Lib.hid hgg
 have HUX:=Lib.hid under_grs
 have HUTS:=Lib.hid under_tbs
 have HUI:=Lib.hid under_is
 have hlh : (t0.held.length : Int) ≤ 9223372036854775807:=by unfold maxLen at hcm;omega
 have hlw : (t0.wait.length : Int) ≤ 9223372036854775807:=by unfold maxLen at hcm2;omega
 have h1:=(((Hp.startrd w R0 hR0).put 25 (tbCells (.slice a0 t0.held.length c0) (.slice b0 t0.wait.length d0))).put 29 (grCells g))
 simp only [World.size_alloc, List.nil_append, List.cons_append] at h1
 have h2:=h1.pull [1, 2, 0] (M:=[.ob w.heap.size 25 (tbCells (.slice a0 t0.held.length c0) (.slice b0 t0.wait.length d0)), .ob (w.heap.size + 1) 29 (grCells g), .rd R0]) rfl (pull_nd h1.nd [1, 2, 0] rfl (by decide))
 have HS0 : Hid (Hp w [.ob w.heap.size 25 (tbCells (.slice a0 t0.held.length c0) (.slice b0 t0.wait.length d0)), .ob (w.heap.size + 1) 29 (grCells g), .rd R0] ((w.alloc (.cells (tbCells (.slice a0 t0.held.length c0) (.slice b0 t0.wait.length d0)).toArray 25)).alloc (.cells (grCells g).toArray 29))):=h2
 clear h1 h2 hr ht hR0 hg hgg hnc hcm hnc2 hcm2
 obtain ⟨fsHUG, huHUG⟩:=under_gr
 have HUG:=Lib.hid huHUG
 clear huHUG
 obtain ⟨fsHUK, huHUK⟩:=under_lk
 have HUK:=Lib.hid huHUK
 clear huHUK
 obtain ⟨fsHUT, huHUT⟩:=under_tb
 have HUT:=Lib.hid huHUT
 clear huHUT
 go_enter Try.func3, Try.ntmps3
 go_upto_region 1 with (fail)
 generalize ((w.alloc (.cells (tbCells (.slice a0 t0.held.length c0) (.slice b0 t0.wait.length d0)).toArray 25)).alloc (.cells (grCells g).toArray 29)) = w1 at *
 generalize w.heap.size + 1 = b6 at *
 generalize hb5 : w.heap.size = b5 at HS0 ⊢
 go_wp2_with fail
 refine (awake9 _).mono ?_
 rintro e w2 ⟨rfl, hb⟩
 have HS1:=Lib.hid (HS0.out.calls hb)
 clear hb HS0
 have q0:=HS1.out.at 0 rfl 0 rfl
 have q1:=HS1.out.at 0 rfl 1 rfl
 by_cases hh : 30 < (t0.held.length : Int)
 ·have dh : decide (30 < (t0.held.length : Int)) = true:=decide_eq_true hh
  have dh' : 30 < t0.held.length:=by omega
  clear hh
  go_wp2_with fail
  go_ret
  exact ⟨rfl, HS1.out.old⟩
 have dh : decide (30 < (t0.held.length : Int)) = false:=decide_eq_false hh
 have dh' : ¬ 30 < t0.held.length:=by omega
 have dh2 : t0.held.length ≤ 30:=by omega
 by_cases hw : 8 < (t0.wait.length : Int)
 ·have dw : decide (8 < (t0.wait.length : Int)) = true:=decide_eq_true hw
  have dw' : 8 < t0.wait.length:=by omega
  clear hh hw
  go_wp2_with fail
  go_ret
  exact ⟨rfl, HS1.out.old⟩
 have dw : decide (8 < (t0.wait.length : Int)) = false:=decide_eq_false hw
 have dw' : ¬ 8 < t0.wait.length:=by omega
 have dw2 : t0.wait.length ≤ 8:=by omega
 have HG0 : Hid (GoodTb t0):=Lib.hid ⟨fun z hz=>HGr.out z (.inl hz), fun z hz=>HGr.out z (.inr hz), by omega, by omega⟩
 clear hh hw HGr hlh hlw
 subst hb5
 go_wp2_with fail
 clear q0 q1 dh dh' dw dw' dh2 dw2
 refine (new_hp 200 (by decide) HS1.out HR.out).mono ?_
 rintro e w3 ⟨rfl, hs⟩
 have HS2:=Lib.hid hs
 clear hs HS1
 generalize w2.heap.size = C at *
 generalize hb5 : w.heap.size = b5 at HS2 ⊢
 go_wp2_with fail
 refine (locks_any C _ (HS2.out.codes 3 rfl)).mono ?_
 rintro e w4 ⟨t1, h1, v1, R1, rfl, hst, hlen, hrd, hin, hnew, hb, hc⟩
 have hs:=HS2.out.drawsrd2 3 rfl hb hc R1 hin (fun r hr=>.inl (hnew r hr))
 obtain ⟨a1, c1, rfl, _, _⟩:=hrd.1.shape
 obtain ⟨b1, d1, rfl, _, _⟩:=hrd.2.shape
 have HT1:=Lib.hid hrd
 have HG1:=Lib.hid hst.ok.good
 have HS3:=Lib.hid hs
 clear hs hst hlen hrd hin hnew hb hc HS2
 go_upto_region 5 with (first | ((with_reducible refine wpList_alloc_ob 25 (tbCells (.slice none 0 0) (.slice none 0 0)) ?_ ?_);(exact alloc_tb);simp only [z0, z1, z2, z3]) | ((with_reducible refine wpList_store_ob 25 (.tmp 10) (w4.heap.size) (tbCells (.slice a1 t1.held.length c1) (.slice b1 t1.wait.length d1)) (tbCells (.slice none 0 0) (.slice none 0 0)) 25 ?_ ?_ ?_ ?_ ?_ ?_ ?_);(exact rfl);(exact rfl);(exact ((HS3.out).put 25 (tbCells (.slice none 0 0) (.slice none 0 0))).get 5 rfl);(exact info_tb);(exact rfl);(exact (oneCell_tb _ _ _ _ _ _));skip))
 have HS21 : Hid (Hp w [.ob b5 25 (tbCells (.slice a0 t0.held.length c0) (.slice b0 t0.wait.length d0)), .ob b6 29 (grCells g), .rd R0, .cd C, .rd R1, .ob (w4.heap.size) 25 (tbCells (.slice a1 t1.held.length c1) (.slice b1 t1.wait.length d1))] ((w4.alloc (.cells (tbCells (.slice none 0 0) (.slice none 0 0)).toArray 25)).setRow (w4.heap.size) (tbCells (.slice a1 t1.held.length c1) (.slice b1 t1.wait.length d1)).toArray)):=((HS3.out).put 25 (tbCells (.slice none 0 0) (.slice none 0 0))).row 5 rfl (tbCells (.slice a1 t1.held.length c1) (.slice b1 t1.wait.length d1))
 clear HS3
 generalize ((w4.alloc (.cells (tbCells (.slice none 0 0) (.slice none 0 0)).toArray 25)).setRow (w4.heap.size) (tbCells (.slice a1 t1.held.length c1) (.slice b1 t1.wait.length d1)).toArray) = w21 at *
 generalize w4.heap.size = B21 at *
 go_wp2_with (first | ((with_reducible refine wpList_load_ob 25 (.tmp 5) b5 (tbCells (.slice a0 t0.held.length c0) (.slice b0 t0.wait.length d0)) 25 HUT.out ?_ ?_ ?_ ?_ ?_);(exact rfl);(exact (HS21.out).get 0 rfl);(exact rfl);(exact info_tb);simp only [z0, z1, z2, z3]) | ((with_reducible refine wpList_load_ob 25 (.tmp 10) B21 (tbCells (.slice a1 t1.held.length c1) (.slice b1 t1.wait.length d1)) 25 HUT.out ?_ ?_ ?_ ?_ ?_);(exact rfl);(exact (HS21.out).get 5 rfl);(exact rfl);(exact info_tb);simp only [z0, z1, z2, z3]) | ((with_reducible refine wpList_build_obs 34 2 elem_tb HUTS.out [tbCells (.slice a0 t0.held.length c0) (.slice b0 t0.wait.length d0), tbCells (.slice a1 t1.held.length c1) (.slice b1 t1.wait.length d1)] ?_ ?_ ?_ ?_ ?_ ?_);(exact (List.forall_mem_cons.2 ⟨rfl, (List.forall_mem_cons.2 ⟨rfl, (fun _ h=>absurd h List.not_mem_nil)⟩)⟩));(exact Nat.succ_pos _);(simp only [List.length_cons, List.length_nil];omega);(exact rfl);(simp only [List.map_toArray, List.map_cons, List.map_nil, List.zipIdx_cons, List.zipIdx_nil];exact rfl);simp only [z0, z1, z2, z3]))
 have HS22 : Hid (Hp w [.ob b5 25 (tbCells (.slice a0 t0.held.length c0) (.slice b0 t0.wait.length d0)), .ob b6 29 (grCells g), .rd R0, .cd C, .rd R1, .ob B21 25 (tbCells (.slice a1 t1.held.length c1) (.slice b1 t1.wait.length d1)), .ob (w21.heap.size) 25 (tbCells (.slice a0 t0.held.length c0) (.slice b0 t0.wait.length d0) ++ tbCells (.slice a1 t1.held.length c1) (.slice b1 t1.wait.length d1))] (w21.alloc (.cells (tbCells (.slice a0 t0.held.length c0) (.slice b0 t0.wait.length d0) ++ tbCells (.slice a1 t1.held.length c1) (.slice b1 t1.wait.length d1)).toArray 25))):=(HS21.out).put 25 (([tbCells (.slice a0 t0.held.length c0) (.slice b0 t0.wait.length d0), tbCells (.slice a1 t1.held.length c1) (.slice b1 t1.wait.length d1)] : List (List Value)).flatMap id)
 clear HS21
 generalize (w21.alloc (.cells (tbCells (.slice a0 t0.held.length c0) (.slice b0 t0.wait.length d0) ++ tbCells (.slice a1 t1.held.length c1) (.slice b1 t1.wait.length d1)).toArray 25)) = w22 at *
 generalize w21.heap.size = B22 at *
 have HS23 : Hid (Hp w [.cd C, .ob b6 29 (grCells g), .ob B22 25 (tbCells (.slice a0 t0.held.length c0) (.slice b0 t0.wait.length d0) ++ tbCells (.slice a1 t1.held.length c1) (.slice b1 t1.wait.length d1)), .rd R0, .rd R1] w22):=HS22.out.pull [3, 1, 6, 2, 4] rfl (pull_nd HS22.out.nd [3, 1, 6, 2, 4] rfl (by decide))
 clear HS22
 have hm:=Hp.rdmerge (A:=[.cd C, .ob b6 29 (grCells g), .ob B22 25 (tbCells (.slice a0 t0.held.length c0) (.slice b0 t0.wait.length d0) ++ tbCells (.slice a1 t1.held.length c1) (.slice b1 t1.wait.length d1))]) HS23.out
 have HM : Hid (Hp w [.cd C, .ob b6 29 (grCells g), .ob B22 25 (tbCells (.slice a0 t0.held.length c0) (.slice b0 t0.wait.length d0) ++ tbCells (.slice a1 t1.held.length c1) (.slice b1 t1.wait.length d1)), .rd (R0 ++ R1)] w22):=hm
 have HX0 : Hid (TbRd (.slice a0 t0.held.length c0) (.slice b0 t0.wait.length d0) t0 (R0 ++ R1)):=Lib.hid (HT.out.mono (fun r hr=>by simp [hr]))
 have HX1 : Hid (TbRd (.slice a1 t1.held.length c1) (.slice b1 t1.wait.length d1) t1 (R0 ++ R1)):=Lib.hid (HT1.out.mono (fun r hr=>by simp [hr]))
 have HTh:=Lib.hid (fun i hi=>two_tb HX0.out HX1.out HG0.out HG1.out i hi)
 clear hm HS23 HT HT1 HX0 HX1 HR0 HG0 HG1
 generalize R0 ++ R1 = R at *
 generalize tbCells (.slice a0 t0.held.length c0) (.slice b0 t0.wait.length d0) ++ tbCells (.slice a1 t1.held.length c1) (.slice b1 t1.wait.length d1) = arr at *
 go_loopw [56] (fun iv wr=>∃ i : Nat, iv = .int .i64 i ∧ i ≤ 2 ∧ Hp w [.cd C, .ob b6 29 (grCells g), .ob B22 25 arr, .rd R] wr) (fun iv _=>2 - (intOf iv).toNat)
 case atStart=>exact ⟨0, rfl, by omega, HM.out⟩
 case round =>
  clear HM
  obtain ⟨i, rfl, hi, hs⟩:=hrel
  have HY:=Lib.hid hs
  clear hs
  by_cases hlt : i < 2
  ·obtain ⟨t, a, b, c, d, hrd, hgt, hcell⟩:=HTh.out i hlt
   have HRd:=Lib.hid hrd
   have HGt:=Lib.hid hgt
   have HCe:=Lib.hid hcell
   have HLt:=Lib.hid hlt
   have hii : (i : Int) < 2:=by omega
   have hi0 : (0 : Int) ≤ (i : Int):=by omega
   clear hrd hgt hcell hi hlt
   go_upto_region 8 with (first | ((with_reducible refine wpList_load_at 25 (.tmp 58) B22 ((i * 2)) (tbCells (.slice a t.held.length c) (.slice b t.wait.length d)) HUT.out ?_ ?_ ?_ ?_ ?_);(exact rfl);(exact (fun j v hv=>(HY.out).at 2 rfl (i * 2 + j) (HCe.out j v hv)));(exact rfl);(exact info_tb);simp only [z0, z1, z2, z3]) | ((with_reducible refine wpList_alloc_ob 25 (tbCells (.slice none 0 0) (.slice none 0 0)) ?_ ?_);(exact alloc_tb);simp only [z0, z1, z2, z3]) | ((with_reducible refine wpList_store_ob 25 (.tmp 12) (wr.heap.size) (tbCells (.slice a t.held.length c) (.slice b t.wait.length d)) (tbCells (.slice none 0 0) (.slice none 0 0)) 25 ?_ ?_ ?_ ?_ ?_ ?_ ?_);(exact rfl);(exact rfl);(exact ((HY.out).put 25 (tbCells (.slice none 0 0) (.slice none 0 0))).get 4 rfl);(exact info_tb);(exact rfl);(exact (oneCell_tb _ _ _ _ _ _));skip))
   have HS101 : Hid (Hp w [.cd C, .ob b6 29 (grCells g), .ob B22 25 arr, .rd R, .ob (wr.heap.size) 25 (tbCells (.slice a t.held.length c) (.slice b t.wait.length d))] ((wr.alloc (.cells (tbCells (.slice none 0 0) (.slice none 0 0)).toArray 25)).setRow (wr.heap.size) (tbCells (.slice a t.held.length c) (.slice b t.wait.length d)).toArray)):=((HY.out).put 25 (tbCells (.slice none 0 0) (.slice none 0 0))).row 4 rfl (tbCells (.slice a t.held.length c) (.slice b t.wait.length d))
   clear HY
   generalize ((wr.alloc (.cells (tbCells (.slice none 0 0) (.slice none 0 0)).toArray 25)).setRow (wr.heap.size) (tbCells (.slice a t.held.length c) (.slice b t.wait.length d)).toArray) = w101 at *
   generalize wr.heap.size = B101 at *
   obtain ⟨el, hel⟩ : ∃ el, edgesR t = el:=⟨_, rfl⟩
   have HEp : Hid (∀ W, RdIn W R → Calls Try.prog 9 #[.agg (tbCells (.slice a t.held.length c) (.slice b t.wait.length d)).toArray] W (EdgePost W el)):=Lib.hid (fun W h=>by have:=pedges_any W HRd.out h HGt.out;rwa [hel] at this)
   have HEr : Hid (∀ W, RdIn W R → Calls Try.prog 10 #[.agg (tbCells (.slice a t.held.length c) (.slice b t.wait.length d)).toArray] W (EdgePost W el)):=Lib.hid (fun W h=>by have:=redges_any W HRd.out h HGt.out;rwa [hel] at this)
   have HEg : Hid (∀ e ∈ el, GoodEg e):=Lib.hid (fun e he=>edges_good (by rw [hel];exact he))
   have HEl : Hid (el.length ≤ 1048576):=Lib.hid (by have:=edgesA_len t;rwa [hel] at this)
   clear hel
   refine wp_region_held_drew (S:=fun w'=>w'.rangeAt B101 0 (tbCells (.slice a t.held.length c) (.slice b t.wait.length d))) (by kernel_rfl) ((fun j v hv=>by rw [Nat.zero_add];exact ((HS101.out).drew).at 4 rfl j hv)) (fun hHeld=>?_)
   refine tk 0 qLwEx9_0 (some 60) (yieldsIf_load_mid (by rfl) 25 (.tmp 12) rfl B101 (0) rfl (tbCells (.slice a t.held.length c) (.slice b t.wait.length d)) _ (fun _ h=>h) HUT.out rfl (info_tb)) hHeld ?_
   try simp only [z0, z1, z2, z3]
   refine tk 2 qLwEx9_1 (some 62) (yieldsIf_load_mid (by rfl) 25 (.tmp 12) rfl B101 (0) rfl (tbCells (.slice a t.held.length c) (.slice b t.wait.length d)) _ (fun _ h=>h) HUT.out rfl (info_tb)) hHeld ?_
   try simp only [z0, z1, z2, z3]
   refine tn 1 qLwEx9_2 (fun K hK=>?_)
   go_simp
   go_wp2_with (go_at_call 9;refine (HEp.out _ (((HS101.out).drew).reads 3 rfl)).mono ?_;rintro e w102 ⟨vp, Rp, rfl, hrd2, hin2, hnew2, hb⟩)
   obtain ⟨ap, cp, rfl, hlp, hmp, hgp⟩:=edge_cells hrd2
   have Hrdp:=Lib.hid hrd2
   have Hgcp:=Lib.hid hgp
   have Hbdp:=Lib.hid hmp
   clear hgp hlp hmp
   have HS102 : Hid (Hp w [.cd C, .ob b6 29 (grCells g), .ob B22 25 arr, .rd R, .ob B101 25 (tbCells (.slice a t.held.length c) (.slice b t.wait.length d)), .rd Rp] w102):=((HS101.out).drew).addrd hb Rp hin2 (fun r hr=>.inl (hnew2 r hr))
   refine hK.out _ _ ((fun j v hv=>by rw [Nat.zero_add];exact (HS102.out).at 4 rfl j hv)) (fun hHeld=>?_)
   clear hK K hb hin2 hrd2 hnew2
   try simp only [z0, z1, z2, z3]
   refine tn 3 qLwEx9_3 (fun K hK=>?_)
   go_simp
   go_wp2_with (go_at_call 10;refine (HEr.out _ ((HS102.out).reads 3 rfl)).mono ?_;rintro e w103 ⟨vq, Rq, rfl, hrd2, hin2, hnew2, hb⟩)
   obtain ⟨aq, cq, rfl, hlq, hmq, hgq⟩:=edge_cells hrd2
   have Hrdq:=Lib.hid hrd2
   have Hgcq:=Lib.hid hgq
   have Hbdq:=Lib.hid hmq
   clear hgq hlq hmq
   have HS103 : Hid (Hp w [.cd C, .ob b6 29 (grCells g), .ob B22 25 arr, .rd R, .ob B101 25 (tbCells (.slice a t.held.length c) (.slice b t.wait.length d)), .rd Rp, .rd Rq] w103):=(HS102.out).addrd hb Rq hin2 (fun r hr=>.inl (hnew2 r hr))
   refine hK.out _ _ ((fun j v hv=>by rw [Nat.zero_add];exact (HS103.out).at 4 rfl j hv)) (fun hHeld=>?_)
   clear hK K hb hin2 hrd2 hnew2
   try simp only [z0, z1, z2, z3]
   refine tk 4 qLwEx9_4 (some 13) (v:=?q103v) (Or.inl ⟨by rfl, ?q103h⟩) hHeld ?q103r
   case q103h=>(intro _ h;clear h;go_simp;try with_reducible rfl)
   try simp only [z0, z1, z2, z3]
   refine tk 5 qLwEx9_5 (some 14) (v:=?q104v) (Or.inl ⟨by rfl, ?q104h⟩) hHeld ?q104r
   case q104h=>(intro _ h;clear h;go_simp;try with_reducible rfl)
   try simp only [z0, z1, z2, z3]
   refine wpAnyH_done (by kernel_rfl) ?_ _
   clear hHeld HEp HEr
   have HS104 : Hid (Hp w [.cd C, .ob b6 29 (grCells g), .ob B22 25 arr, .rd R, .ob B101 25 (tbCells (.slice a t.held.length c) (.slice b t.wait.length d)), .rd Rp, .rd Rq] w103):=HS103.out.pull [0, 1, 2, 3, 4, 5, 6] rfl (pull_nd HS103.out.nd [0, 1, 2, 3, 4, 5, 6] rfl (by decide))
   clear HS103
   go_wp2_with fail
   go_loopw [15] (fun iv wr=>∃ k : Nat, iv = .int .i64 k ∧ k ≤ el.length ∧ Hp w [.cd C, .ob b6 29 (grCells g), .ob B22 25 arr, .rd R, .ob B101 25 (tbCells (.slice a t.held.length c) (.slice b t.wait.length d)), .rd Rp, .rd Rq] wr) (fun iv _=>el.length - (intOf iv).toNat)
   case atStart=>exact ⟨0, rfl, Nat.zero_le _, HS104.out⟩
   case round =>
    clear HS104
    obtain ⟨k, rfl, hk, hs⟩:=hrel
    have HY:=Lib.hid hs
    clear hs
    by_cases hlt : k < el.length
    ·obtain ⟨g1, o1, rfl, hc1⟩:=Hgcp.out (by omega)
     obtain ⟨g2, o2, rfl, hc2⟩:=Hgcq.out (by omega)
     obtain ⟨x, hx⟩ : ∃ x, el[k]? = some x:=⟨_, List.getElem?_eq_getElem hlt⟩
     have hxx:=neq_eg (HEg.out x (List.mem_of_getElem? hx))
     simp only [edgeCells] at hxx
     obtain ⟨r1, r2⟩:=hc1 _ (HY.out.reads 5 rfl) k x hx
     obtain ⟨r3, r4⟩:=hc2 _ (HY.out.reads 6 rfl) k x hx
     have hkk : (k : Int) < (el.length : Int):=by omega
     have hk0 : (0 : Int) ≤ (k : Int):=by omega
     have hkm : (k : Int) ≤ 1048576:=by have:=HEl.out;omega
     have HLk:=Lib.hid hlt
     clear hc1 hc2 hx hk hlt
     go_wp2_with fail
     go_quiet (fail)
     have HY2:=Lib.hid (HY.out.drewN nq)
     clear HY hxx r1 r2 r3 r4
     generalize wr.drewN nq = w2z at *
     go_wp2_with fail
     go_roundw
     case rel=>exact ⟨k + 1, by go_num, HLk.out, HY2.out⟩
     case measure=>simp [intOf];try (have:=HLk.out;omega)
    ·have hkk : ¬ (k : Int) < (el.length : Int):=by omega
     have hz:=HY.out.pull [0, 1, 2, 3, 4] (M:=[.cd C, .ob b6 29 (grCells g), .ob B22 25 arr, .rd R, .ob B101 25 (tbCells (.slice a t.held.length c) (.slice b t.wait.length d))]) rfl (pull_nd HY.out.nd [0, 1, 2, 3, 4] rfl (by decide))
     have HZ:=Lib.hid hz
     clear hz HY hk hlt HEg Hgcp Hgcq Hbdp Hbdq Hrdp Hrdq
     go_wp2_with (first | ((with_reducible refine wpList_build_vals 3 6 elem_i HUI.out [.int .i64 tx, .int .i64 1, .int .i64 2, .int .i64 3, .int .i64 4, .int .i64 5] ?_ ?_ ?_ ?_ ?_ ?_);(exact (by intro v hv;simp only [List.mem_cons, List.not_mem_nil, or_false] at hv;rcases hv with rfl | rfl | rfl | rfl | rfl | rfl <;> rfl));(exact Nat.succ_pos _);(simp only [List.length_cons, List.length_nil];omega);(exact rfl);(simp only [List.map_toArray, List.map_cons, List.map_nil, List.zipIdx_cons, List.zipIdx_nil];exact rfl);simp only [z0, z1, z2, z3]))
     have HS301 : Hid (Hp w [.cd C, .ob b6 29 (grCells g), .ob B22 25 arr, .rd R, .ob B101 25 (tbCells (.slice a t.held.length c) (.slice b t.wait.length d)), .ob (wr.heap.size) 3 ([.int .i64 tx, .int .i64 1, .int .i64 2, .int .i64 3, .int .i64 4, .int .i64 5])] (wr.alloc (.cells ([.int .i64 tx, .int .i64 1, .int .i64 2, .int .i64 3, .int .i64 4, .int .i64 5]).toArray 3))):=(HZ.out).put 3 ([.int .i64 tx, .int .i64 1, .int .i64 2, .int .i64 3, .int .i64 4, .int .i64 5])
     clear HZ
     generalize (wr.alloc (.cells ([.int .i64 tx, .int .i64 1, .int .i64 2, .int .i64 3, .int .i64 4, .int .i64 5]).toArray 3)) = w301 at *
     generalize wr.heap.size = B301 at *
     have HS302 : Hid (Hp w [.cd C, .ob b6 29 (grCells g), .ob B22 25 arr, .rd R, .ob B101 25 (tbCells (.slice a t.held.length c) (.slice b t.wait.length d)), .ob B301 3 ([.int .i64 tx, .int .i64 1, .int .i64 2, .int .i64 3, .int .i64 4, .int .i64 5])] w301):=HS301.out.pull [0, 1, 2, 3, 4, 5] rfl (pull_nd HS301.out.nd [0, 1, 2, 3, 4, 5] rfl (by decide))
     clear HS301
     go_loopw [87] (fun iv wr=>∃ k : Nat, iv = .int .i64 k ∧ k ≤ 6 ∧ Hp w [.cd C, .ob b6 29 (grCells g), .ob B22 25 arr, .rd R, .ob B101 25 (tbCells (.slice a t.held.length c) (.slice b t.wait.length d)), .ob B301 3 [.int .i64 tx, .int .i64 1, .int .i64 2, .int .i64 3, .int .i64 4, .int .i64 5]] wr) (fun iv _=>6 - (intOf iv).toNat)
     case atStart=>exact ⟨0, rfl, by omega, HS302.out⟩
     case round =>
      clear HS302
      obtain ⟨k, rfl, hk, hs⟩:=hrel
      have HY:=Lib.hid hs
      clear hs
      by_cases hlt : k < 6
      ·obtain ⟨y, hcy⟩ : ∃ y : Int, ([.int .i64 tx, .int .i64 1, .int .i64 2, .int .i64 3, .int .i64 4, .int .i64 5] : List Value)[k]? = some (.int .i64 y):=by
        rcases (show k = 0 ∨ k = 1 ∨ k = 2 ∨ k = 3 ∨ k = 4 ∨ k = 5 by omega) with rfl | rfl | rfl | rfl | rfl | rfl <;> exact ⟨_, rfl⟩
       have ck : wr.cell? ⟨B301, k, none⟩ = some (.int .i64 y):=HY.out.at 5 rfl k hcy
       have HLk:=Lib.hid hlt
       have hkk : (k : Int) < 6:=by omega
       have hk0 : (0 : Int) ≤ (k : Int):=by omega
       clear hcy hk hlt
       obtain ⟨fl, hfl⟩ : ∃ fl, forR t y = fl:=⟨_, rfl⟩
       obtain ⟨cl, hcl⟩ : ∃ cl, cycR t y = cl:=⟨_, rfl⟩
       have HFp : Hid (∀ W, RdIn W R → Calls Try.prog 12 #[.agg (tbCells (.slice a t.held.length c) (.slice b t.wait.length d)).toArray, .int .i64 y] W (IntsPost W fl)):=Lib.hid (fun W h=>by have:=pfor_any y W HRd.out h HGt.out;rwa [hfl] at this)
       have HFr : Hid (∀ W, RdIn W R → Calls Try.prog 13 #[.agg (tbCells (.slice a t.held.length c) (.slice b t.wait.length d)).toArray, .int .i64 y] W (IntsPost W fl)):=Lib.hid (fun W h=>by have:=rfor_any y W HRd.out h HGt.out;rwa [hfl] at this)
       have HCp : Hid (∀ W, RdIn W R → Calls Try.prog 14 #[.agg (tbCells (.slice a t.held.length c) (.slice b t.wait.length d)).toArray, .int .i64 y] W (IntsPost W cl)):=Lib.hid (fun W h=>by have:=pcycle_any y W HRd.out h HGt.out;rwa [hcl] at this)
       have HCr : Hid (∀ W, RdIn W R → Calls Try.prog 15 #[.agg (tbCells (.slice a t.held.length c) (.slice b t.wait.length d)).toArray, .int .i64 y] W (IntsPost W cl)):=Lib.hid (fun W h=>by have:=rcycle_any y W HRd.out h HGt.out;rwa [hcl] at this)
       have HFl : Hid (fl.length ≤ 1000000):=Lib.hid (by have:=forA_len t y;rw [hfl] at this;omega)
       have HCl : Hid (cl.length ≤ 1000000):=Lib.hid (by have:=cycR_len t y;rw [hcl] at this;omega)
       clear hfl hcl
       go_upto_region 19 with (fail)
       clear ck
       refine wp_region_held_drew (S:=fun w'=>w'.rangeAt B101 0 (tbCells (.slice a t.held.length c) (.slice b t.wait.length d))) (by kernel_rfl) ((fun j v hv=>by rw [Nat.zero_add];exact ((HY.out).drew).at 4 rfl j hv)) (fun hHeld=>?_)
       refine tk 0 qLwEx9_6 (some 91) (yieldsIf_load_mid (by rfl) 25 (.tmp 12) rfl B101 (0) rfl (tbCells (.slice a t.held.length c) (.slice b t.wait.length d)) _ (fun _ h=>h) HUT.out rfl (info_tb)) hHeld ?_
       try simp only [z0, z1, z2, z3]
       refine tk 1 qLwEx9_7 (some 92) (v:=?q1402v) (Or.inl ⟨by rfl, ?q1402h⟩) hHeld ?q1402r
       case q1402h=>(intro _ h;clear h;go_simp;try with_reducible rfl)
       try simp only [z0, z1, z2, z3]
       refine tk 3 qLwEx9_8 (some 94) (yieldsIf_load_mid (by rfl) 25 (.tmp 12) rfl B101 (0) rfl (tbCells (.slice a t.held.length c) (.slice b t.wait.length d)) _ (fun _ h=>h) HUT.out rfl (info_tb)) hHeld ?_
       try simp only [z0, z1, z2, z3]
       refine tk 4 qLwEx9_9 (some 95) (v:=?q1404v) (Or.inl ⟨by rfl, ?q1404h⟩) hHeld ?q1404r
       case q1404h=>(intro _ h;clear h;go_simp;try with_reducible rfl)
       try simp only [z0, z1, z2, z3]
       refine tn 2 qLwEx9_10 (fun K hK=>?_)
       go_simp
       go_wp2_with (go_at_call 12;refine (HFp.out _ (((HY.out).drew).reads 3 rfl)).mono ?_;rintro e w501 ⟨vp, Rp, rfl, hrd2, hin2, hnew2, hb⟩)
       obtain ⟨ap, cp, rfl, hlp, hmp, hgp⟩:=hrd2.cells
       have Hrdp:=Lib.hid hrd2
       have Hnwp:=Lib.hid hnew2
       have Hgcp:=Lib.hid hgp
       clear hgp
       have HS501 : Hid (Hp w [.cd C, .ob b6 29 (grCells g), .ob B22 25 arr, .rd R, .ob B101 25 (tbCells (.slice a t.held.length c) (.slice b t.wait.length d)), .ob B301 3 [.int .i64 tx, .int .i64 1, .int .i64 2, .int .i64 3, .int .i64 4, .int .i64 5], .rd Rp] w501):=((HY.out).drew).addrd hb Rp hin2 (fun r hr=>.inl (hnew2 r hr))
       refine hK.out _ _ ((fun j v hv=>by rw [Nat.zero_add];exact (HS501.out).at 4 rfl j hv)) (fun hHeld=>?_)
       clear hK K hb hin2 hrd2 hnew2
       try simp only [z0, z1, z2, z3]
       refine tn 5 qLwEx9_11 (fun K hK=>?_)
       go_simp
       go_wp2_with (go_at_call 13;refine (HFr.out _ ((HS501.out).reads 3 rfl)).mono ?_;rintro e w502 ⟨vq, Rq, rfl, hrd2, hin2, hnew2, hb⟩)
       obtain ⟨aq, cq, rfl, hlq, hmq, hgq⟩:=hrd2.cells
       have Hrdq:=Lib.hid hrd2
       have Hnwq:=Lib.hid hnew2
       have Hgcq:=Lib.hid hgq
       clear hgq
       have HS502 : Hid (Hp w [.cd C, .ob b6 29 (grCells g), .ob B22 25 arr, .rd R, .ob B101 25 (tbCells (.slice a t.held.length c) (.slice b t.wait.length d)), .ob B301 3 [.int .i64 tx, .int .i64 1, .int .i64 2, .int .i64 3, .int .i64 4, .int .i64 5], .rd Rp, .rd Rq] w502):=(HS501.out).addrd hb Rq hin2 (fun r hr=>.inl (hnew2 r hr))
       refine hK.out _ _ ((fun j v hv=>by rw [Nat.zero_add];exact (HS502.out).at 4 rfl j hv)) (fun hHeld=>?_)
       clear hK K hb hin2 hrd2 hnew2
       try simp only [z0, z1, z2, z3]
       refine tn 6 qLwEx9_12 (fun K hK=>?_)
       go_simp
       go_wp2_with (go_at_call 11;refine (rInts_same _ Hrdp.out ((HS502.out).reads 6 rfl) Hrdq.out ((HS502.out).reads 7 rfl) HFl.out).mono ?_;rintro e w503 ⟨rfl, hb⟩)
       have HS503:=Lib.hid ((HS502.out).calls hb)
       refine hK.out _ _ ((fun j v hv=>by rw [Nat.zero_add];exact (HS503.out).at 4 rfl j hv)) (fun hHeld=>?_)
       clear hK K hb
       try simp only [z0, z1, z2, z3]
       refine tk 7 qLwEx9_13 (some 98) (v:=?q1405v) (Or.inl ⟨by rfl, ?q1405h⟩) hHeld ?q1405r
       case q1405h=>(intro _ h;clear h;go_simp;try with_reducible rfl)
       try simp only [z0, z1, z2, z3]
       refine tk 8 qLwEx9_14 (some 99) (v:=?q1406v) (Or.inl ⟨by rfl, ?q1406h⟩) hHeld ?q1406r
       case q1406h=>(intro _ h;clear h;go_simp;try with_reducible rfl)
       try simp only [z0, z1, z2, z3]
       refine tk 9 qLwEx9_15 (some 100) (yieldsIf_load_mid (by rfl) 25 (.tmp 12) rfl B101 (0) rfl (tbCells (.slice a t.held.length c) (.slice b t.wait.length d)) _ (fun _ h=>h) HUT.out rfl (info_tb)) hHeld ?_
       try simp only [z0, z1, z2, z3]
       refine tk 10 qLwEx9_16 (some 101) (v:=?q1408v) (Or.inl ⟨by rfl, ?q1408h⟩) hHeld ?q1408r
       case q1408h=>(intro _ h;clear h;go_simp;try with_reducible rfl)
       try simp only [z0, z1, z2, z3]
       refine tk 12 qLwEx9_17 (some 103) (yieldsIf_load_mid (by rfl) 25 (.tmp 12) rfl B101 (0) rfl (tbCells (.slice a t.held.length c) (.slice b t.wait.length d)) _ (fun _ h=>h) HUT.out rfl (info_tb)) hHeld ?_
       try simp only [z0, z1, z2, z3]
       refine tk 13 qLwEx9_18 (some 104) (v:=?q1410v) (Or.inl ⟨by rfl, ?q1410h⟩) hHeld ?q1410r
       case q1410h=>(intro _ h;clear h;go_simp;try with_reducible rfl)
       try simp only [z0, z1, z2, z3]
       refine tn 11 qLwEx9_19 (fun K hK=>?_)
       go_simp
       go_wp2_with (go_at_call 14;refine (HCp.out _ ((HS503.out).reads 3 rfl)).mono ?_;rintro e w504 ⟨vx, Rx, rfl, hrd2, hin2, hnew2, hb⟩)
       obtain ⟨ax, cx, rfl, hlx, hmx, hgx⟩:=hrd2.cells
       have Hrdx:=Lib.hid hrd2
       have Hnwx:=Lib.hid hnew2
       have Hgcx:=Lib.hid hgx
       clear hgx
       have HS504 : Hid (Hp w [.cd C, .ob b6 29 (grCells g), .ob B22 25 arr, .rd R, .ob B101 25 (tbCells (.slice a t.held.length c) (.slice b t.wait.length d)), .ob B301 3 [.int .i64 tx, .int .i64 1, .int .i64 2, .int .i64 3, .int .i64 4, .int .i64 5], .rd Rp, .rd Rq, .rd Rx] w504):=(HS503.out).addrd hb Rx hin2 (fun r hr=>.inl (hnew2 r hr))
       refine hK.out _ _ ((fun j v hv=>by rw [Nat.zero_add];exact (HS504.out).at 4 rfl j hv)) (fun hHeld=>?_)
       clear hK K hb hin2 hrd2 hnew2
       try simp only [z0, z1, z2, z3]
       refine tn 14 qLwEx9_20 (fun K hK=>?_)
       go_simp
       go_wp2_with (go_at_call 15;refine (HCr.out _ ((HS504.out).reads 3 rfl)).mono ?_;rintro e w505 ⟨vz, Rz, rfl, hrd2, hin2, hnew2, hb⟩)
       obtain ⟨az, cz, rfl, hlz, hmz, hgz⟩:=hrd2.cells
       have Hrdz:=Lib.hid hrd2
       have Hnwz:=Lib.hid hnew2
       have Hgcz:=Lib.hid hgz
       clear hgz
       have HS505 : Hid (Hp w [.cd C, .ob b6 29 (grCells g), .ob B22 25 arr, .rd R, .ob B101 25 (tbCells (.slice a t.held.length c) (.slice b t.wait.length d)), .ob B301 3 [.int .i64 tx, .int .i64 1, .int .i64 2, .int .i64 3, .int .i64 4, .int .i64 5], .rd Rp, .rd Rq, .rd Rx, .rd Rz] w505):=(HS504.out).addrd hb Rz hin2 (fun r hr=>.inl (hnew2 r hr))
       refine hK.out _ _ ((fun j v hv=>by rw [Nat.zero_add];exact (HS505.out).at 4 rfl j hv)) (fun hHeld=>?_)
       clear hK K hb hin2 hrd2 hnew2
       try simp only [z0, z1, z2, z3]
       refine tn 15 qLwEx9_21 (fun K hK=>?_)
       go_simp
       go_wp2_with (go_at_call 11;refine (rInts_same _ Hrdx.out ((HS505.out).reads 8 rfl) Hrdz.out ((HS505.out).reads 9 rfl) HCl.out).mono ?_;rintro e w506 ⟨rfl, hb⟩)
       have HS506:=Lib.hid ((HS505.out).calls hb)
       refine hK.out _ _ ((fun j v hv=>by rw [Nat.zero_add];exact (HS506.out).at 4 rfl j hv)) (fun hHeld=>?_)
       clear hK K hb
       try simp only [z0, z1, z2, z3]
       refine tk 16 qLwEx9_22 (some 107) (v:=?q1411v) (Or.inl ⟨by rfl, ?q1411h⟩) hHeld ?q1411r
       case q1411h=>(intro _ h;clear h;go_simp;try with_reducible rfl)
       try simp only [z0, z1, z2, z3]
       refine tk 17 qLwEx9_23 (some 108) (v:=?q1412v) (Or.inl ⟨by rfl, ?q1412h⟩) hHeld ?q1412r
       case q1412h=>(intro _ h;clear h;go_simp;try with_reducible rfl)
       try simp only [z0, z1, z2, z3]
       refine wpAnyH_done (by kernel_rfl) ?_ _
       clear hHeld
       have HS507 : Hid (Hp w [.cd C, .ob b6 29 (grCells g), .ob B22 25 arr, .rd R, .ob B101 25 (tbCells (.slice a t.held.length c) (.slice b t.wait.length d)), .ob B301 3 [.int .i64 tx, .int .i64 1, .int .i64 2, .int .i64 3, .int .i64 4, .int .i64 5]] w506):=HS506.out.pull [0, 1, 2, 3, 4, 5] rfl (pull_nd HS506.out.nd [0, 1, 2, 3, 4, 5] rfl (by decide))
       clear HS506
       go_wp2_with fail
       go_roundw
       case rel=>exact ⟨k + 1, by go_num, HLk.out, HS507.out⟩
       case measure=>simp [intOf];try (have:=HLk.out;omega)
      ·obtain rfl : k = 6:=by omega
       clear hlt hk
       have hz:=HY.out.pull [0, 1, 2, 3, 4] (M:=[.cd C, .ob b6 29 (grCells g), .ob B22 25 arr, .rd R, .ob B101 25 (tbCells (.slice a t.held.length c) (.slice b t.wait.length d))]) rfl (pull_nd HY.out.nd [0, 1, 2, 3, 4] rfl (by decide))
       have HZ:=Lib.hid hz
       clear hz HY
       go_upto_region 22 with (fail)
       refine wp_region_held_drew (S:=fun w'=>w'.rangeAt b6 0 (grCells g)) (by kernel_rfl) ((fun j v hv=>by rw [Nat.zero_add];exact ((HZ.out).drew).at 1 rfl j hv)) (fun hHeld=>?_)
       refine tk 0 qLwEx9_24 (some 110) (yieldsIf_load_mid (by rfl) 29 (.tmp 7) rfl b6 (0) rfl (grCells g) _ (fun _ h=>h) HUG.out rfl (info_gr)) hHeld ?_
       try simp only [z0, z1, z2, z3]
       refine tk 1 qLwEx9_25 (some 111) (v:=?q2202v) (Or.inl ⟨by rfl, ?q2202h⟩) hHeld ?q2202r
       case q2202h=>(intro _ h;clear h;go_simp;try with_reducible rfl)
       try simp only [z0, z1, z2, z3]
       refine tk 5 qLwEx9_26 (some 115) (v:=?q2203v) (Or.inl ⟨by rfl, ?q2203h⟩) hHeld ?q2203r
       case q2203h=>(intro _ h;clear h;go_simp;try with_reducible rfl)
       try simp only [z0, z1, z2, z3]
       refine tn 2 qLwEx9_27 (fun K hK=>?_)
       go_simp
       go_wp2_with (go_at_call 16;refine (grant_any C _ (((HZ.out).drew).codes 0 rfl)).mono ?_;rintro e w801 ⟨g1, rfl, hg1, hb, hc, _⟩)
       have HS801 : Hid (Hp w [.cd C, .ob b6 29 (grCells g), .ob B22 25 arr, .rd R, .ob B101 25 (tbCells (.slice a t.held.length c) (.slice b t.wait.length d))] w801):=((HZ.out).drew).draws 0 rfl hb hc
       refine hK.out _ _ ((fun j v hv=>by rw [Nat.zero_add];exact (HS801.out).at 1 rfl j hv)) (fun hHeld=>?_)
       clear hK K hb hc
       have HG1:=Lib.hid hg1.good
       clear hg1
       try simp only [z0, z1, z2, z3]
       refine tn 3 qLwEx9_28 (fun K hK=>?_)
       rw [if_pos (by rfl)]
       refine wp_build_obs rfl elem_gr HUX.out [grCells g, grCells g1] (List.forall_mem_cons.2 ⟨rfl, (List.forall_mem_cons.2 ⟨rfl, (fun _ h=>absurd h List.not_mem_nil)⟩)⟩) (Nat.succ_pos _) (by simp only [List.length_cons, List.length_nil];omega) rfl (by simp only [List.map_toArray, List.map_cons, List.map_nil, List.zipIdx_cons, List.zipIdx_nil];exact rfl) ?_
       have HS802 : Hid (Hp w [.cd C, .ob b6 29 (grCells g), .ob B22 25 arr, .rd R, .ob B101 25 (tbCells (.slice a t.held.length c) (.slice b t.wait.length d)), .ob (w801.heap.size) 29 (([grCells g, grCells g1] : List (List Value)).flatMap id)] (w801.alloc (.cells (([grCells g, grCells g1] : List (List Value)).flatMap id).toArray 29))):=(HS801.out).put 29 (([grCells g, grCells g1] : List (List Value)).flatMap id)
       refine hK.out _ _ ((fun j v hv=>by rw [Nat.zero_add];exact (HS802.out).at 1 rfl j hv)) (fun hHeld=>?_)
       clear hK K
       generalize (w801.alloc (.cells (([grCells g, grCells g1] : List (List Value)).flatMap id).toArray 29)) = w802 at *
       generalize w801.heap.size = B801 at *
       try simp only [z0, z1, z2, z3]
       refine tk 4 qLwEx9_29 (some 114) (v:=?q2204v) (Or.inl ⟨by rfl, ?q2204h⟩) hHeld ?q2204r
       case q2204h=>(intro _ h;clear h;go_simp;try with_reducible rfl)
       try simp only [z0, z1, z2, z3]
       refine wpAnyH_done (by kernel_rfl) ?_ _
       clear hHeld
       have HS803 : Hid (Hp w [.cd C, .ob b6 29 (grCells g), .ob B22 25 arr, .rd R, .ob B101 25 (tbCells (.slice a t.held.length c) (.slice b t.wait.length d)), .ob B801 29 (([grCells g, grCells g1] : List (List Value)).flatMap id)] w802):=HS802.out.pull [0, 1, 2, 3, 4, 5] rfl (pull_nd HS802.out.nd [0, 1, 2, 3, 4, 5] rfl (by decide))
       clear HS802
       have HTg:=Lib.hid (fun i hi=>two_gr HG.out HG1.out i hi)
       clear HG1
       generalize (([grCells g, grCells g1] : List (List Value)).flatMap id) = grr at *
       go_wp2_with fail
       go_loopw [115] (fun iv wr=>∃ k : Nat, iv = .int .i64 k ∧ k ≤ 2 ∧ Hp w [.cd C, .ob b6 29 (grCells g), .ob B22 25 arr, .rd R, .ob B101 25 (tbCells (.slice a t.held.length c) (.slice b t.wait.length d)), .ob B801 29 grr] wr) (fun iv _=>2 - (intOf iv).toNat)
       case atStart=>exact ⟨0, rfl, by omega, HS803.out⟩
       case round =>
        clear HS803
        obtain ⟨k, rfl, hk, hs⟩:=hrel
        have HY:=Lib.hid hs
        clear hs
        by_cases hlt : k < 2
        ·obtain ⟨y, hgy, hcy⟩:=HTg.out k hlt
         have HGy:=Lib.hid hgy
         have HCy:=Lib.hid hcy
         have HLk:=Lib.hid hlt
         have hkk : (k : Int) < 2:=by omega
         have hk0 : (0 : Int) ≤ (k : Int):=by omega
         clear hgy hcy hk hlt
         obtain ⟨wl, we, hwo⟩ : ∃ wl we, wouldR t y = (wl, we):=⟨_, _, rfl⟩
         have HWp : Hid (∀ W, RdIn W R → Calls Try.prog 17 #[.agg (tbCells (.slice a t.held.length c) (.slice b t.wait.length d)).toArray, .agg (grCells y).toArray] W (WouldPost W (wl, we))):=Lib.hid (fun W h=>by have:=pwould_any y W HRd.out h HGt.out HGy.out;rwa [hwo] at this)
         have HWr : Hid (∀ W, RdIn W R → Calls Try.prog 18 #[.agg (tbCells (.slice a t.held.length c) (.slice b t.wait.length d)).toArray, .agg (grCells y).toArray] W (WouldPost W (wl, we))):=Lib.hid (fun W h=>by have:=rwould_any y W HRd.out h HGt.out HGy.out;rwa [hwo] at this)
         have HWl : Hid (wl.length ≤ 1000000):=Lib.hid (by have:=would_len t y;rw [hwo] at this;simp only at this;omega)
         clear hwo
         go_wp2_with (first | ((with_reducible refine wpList_load_at 29 (.tmp 117) B801 ((k * 4)) (grCells y) HUG.out ?_ ?_ ?_ ?_ ?_);(exact rfl);(exact (fun j v hv=>(HY.out).at 5 rfl (k * 4 + j) (HCy.out j v hv)));(exact rfl);(exact info_gr);simp only [z0, z1, z2, z3]) | ((with_reducible refine wpList_alloc_ob 29 (grCells grNil) ?_ ?_);(exact alloc_gr);simp only [z0, z1, z2, z3]) | ((with_reducible refine wpList_store_ob 29 (.tmp 19) (wr.heap.size) (grCells y) (grCells grNil) 29 ?_ ?_ ?_ ?_ ?_ ?_ ?_);(exact rfl);(exact rfl);(exact ((HY.out).put 29 (grCells grNil)).get 6 rfl);(exact info_gr);(exact rfl);(exact (oneCell_gr _));skip) | ((with_reducible refine wpList_load_ob 25 (.tmp 12) B101 (tbCells (.slice a t.held.length c) (.slice b t.wait.length d)) 25 HUT.out ?_ ?_ ?_ ?_ ?_);(exact rfl);(exact (((HY.out).put 29 (grCells grNil)).row 6 rfl (grCells y)).get 4 rfl);(exact rfl);(exact info_tb);simp only [z0, z1, z2, z3]) | ((with_reducible refine wpList_load_ob 29 (.tmp 19) (wr.heap.size) (grCells y) 29 HUG.out ?_ ?_ ?_ ?_ ?_);(exact rfl);(exact (((HY.out).put 29 (grCells grNil)).row 6 rfl (grCells y)).get 6 rfl);(exact rfl);(exact info_gr);simp only [z0, z1, z2, z3]))
         refine (HWp.out _ ((((HY.out).put 29 (grCells grNil)).row 6 rfl (grCells y)).reads 3 rfl)).mono ?_
         rintro e w1001 ⟨vp, Rp, rfl, hrd2, hin2, hnew2, hb⟩
         obtain ⟨ap, cp, rfl, hlp, hmp, hgp⟩:=hrd2.cells
         have Hrdp:=Lib.hid hrd2
         have Hnwp:=Lib.hid hnew2
         have Hgcp:=Lib.hid hgp
         clear hgp
         have HS1001 : Hid (Hp w [.cd C, .ob b6 29 (grCells g), .ob B22 25 arr, .rd R, .ob B101 25 (tbCells (.slice a t.held.length c) (.slice b t.wait.length d)), .ob B801 29 grr, .ob (wr.heap.size) 29 (grCells y), .rd Rp] w1001):=(((HY.out).put 29 (grCells grNil)).row 6 rfl (grCells y)).addrd hb Rp hin2 (fun r hr=>.inl (hnew2 r hr))
         clear hb hin2 hrd2 hnew2
         clear HY
         generalize wr.heap.size = B1001 at *
         go_wp2_with (first | ((with_reducible refine wpList_load_ob 25 (.tmp 12) B101 (tbCells (.slice a t.held.length c) (.slice b t.wait.length d)) 25 HUT.out ?_ ?_ ?_ ?_ ?_);(exact rfl);(exact (HS1001.out).get 4 rfl);(exact rfl);(exact info_tb);simp only [z0, z1, z2, z3]) | ((with_reducible refine wpList_load_ob 29 (.tmp 19) B1001 (grCells y) 29 HUG.out ?_ ?_ ?_ ?_ ?_);(exact rfl);(exact (HS1001.out).get 6 rfl);(exact rfl);(exact info_gr);simp only [z0, z1, z2, z3]))
         refine (HWr.out _ ((HS1001.out).reads 3 rfl)).mono ?_
         rintro e w1002 ⟨vq, Rq, rfl, hrd2, hin2, hnew2, hb⟩
         obtain ⟨aq, cq, rfl, hlq, hmq, hgq⟩:=hrd2.cells
         have Hrdq:=Lib.hid hrd2
         have Hnwq:=Lib.hid hnew2
         have Hgcq:=Lib.hid hgq
         clear hgq
         have HS1002 : Hid (Hp w [.cd C, .ob b6 29 (grCells g), .ob B22 25 arr, .rd R, .ob B101 25 (tbCells (.slice a t.held.length c) (.slice b t.wait.length d)), .ob B801 29 grr, .ob B1001 29 (grCells y), .rd Rp, .rd Rq] w1002):=(HS1001.out).addrd hb Rq hin2 (fun r hr=>.inl (hnew2 r hr))
         clear hb hin2 hrd2 hnew2
         clear HS1001
         go_wp2_with fail
         refine (rInts_same _ Hrdp.out ((HS1002.out).reads 7 rfl) Hrdq.out ((HS1002.out).reads 8 rfl) HWl.out).mono ?_
         rintro e w1003 ⟨rfl, hb⟩
         have HS1003:=Lib.hid ((HS1002.out).calls hb)
         clear hb
         clear HS1002
         have HS1004 : Hid (Hp w [.cd C, .ob b6 29 (grCells g), .ob B22 25 arr, .rd R, .ob B101 25 (tbCells (.slice a t.held.length c) (.slice b t.wait.length d)), .ob B801 29 grr] w1003):=HS1003.out.pull [0, 1, 2, 3, 4, 5] rfl (pull_nd HS1003.out.nd [0, 1, 2, 3, 4, 5] rfl (by decide))
         clear HS1003
         go_wp2_with fail
         go_roundw
         case rel=>exact ⟨k + 1, by go_num, HLk.out, HS1004.out⟩
         case measure=>simp [intOf];try (have:=HLk.out;omega)
        ·obtain rfl : k = 2:=by omega
         clear hlt hk
         have hz:=HY.out.pull [0, 1, 2, 3] (M:=[.cd C, .ob b6 29 (grCells g), .ob B22 25 arr, .rd R]) rfl (pull_nd HY.out.nd [0, 1, 2, 3] rfl (by decide))
         have HZ:=Lib.hid hz
         clear hz HY
         go_wp2_with fail
         go_roundw
         case rel=>exact ⟨i + 1, by go_num, HLt.out, HZ.out⟩
         case measure=>simp [intOf];try (have:=HLt.out;omega)
  ·obtain rfl : i = 2:=by omega
   clear hlt hi
   go_wp2_with fail
   go_ret
   exact ⟨rfl, HY.out.old⟩
end Go.Proofs.Ytooaldglgkjjgaa
/- a slice that came in, opened: its elements are values of a kind, and its cells read -/
namespace Go.Proofs.Ytooaldglgkjjgaa
open Go.RowKit
set_option maxRecDepth 20000

theorem flat_len {X : Type} (f : X → List Value) (z : Nat) (hf : ∀ x, (f x).length = z) (l : List X) : (l.flatMap f).length = l.length * z:=by
 induction l with
 | nil=>simp
 | cons x l ih=>rw [List.flatMap_cons, List.length_append, hf, ih, List.length_cons, Nat.add_mul];omega
theorem flat_at {X : Type} (f : X → List Value) (z : Nat) (hf : ∀ x, (f x).length = z) : ∀ (l : List X) (q : Nat) (u : Value), (l.flatMap f)[q]? = some u → q / z < l.length ∧ ∃ x, l[q / z]? = some x ∧ (f x)[q % z]? = some u
 | [], q, u, h=>by simp at h
 | x :: l, q, u, h=>by
  rw [List.flatMap_cons] at h
  by_cases hq : q < z
  ·rw [List.getElem?_append_left (by rw [hf];exact hq)] at h
   rw [Nat.div_eq_of_lt hq, Nat.mod_eq_of_lt hq]
   exact ⟨Nat.succ_pos _, x, rfl, h⟩
  ·have hz : 0 < z:=by
    rcases Nat.eq_zero_or_pos z with h0 | h0
    ·subst h0
     rw [List.getElem?_append_right (by rw [hf];omega), hf] at h
     have : (l.flatMap f).length = 0:=by rw [flat_len f 0 hf, Nat.mul_zero]
     rw [List.eq_nil_of_length_eq_zero this] at h
     simp at h
    ·exact h0
   rw [List.getElem?_append_right (by rw [hf];omega), hf] at h
   obtain ⟨h1, y, h2, h3⟩:=flat_at f z hf l (q - z) u h
   have e1 : q / z = (q - z) / z + 1:=by rw [Nat.div_eq_sub_div hz (by omega)]
   have e2 : q % z = (q - z) % z:=by rw [Nat.mod_eq_sub_mod (by omega)]
   rw [e1, e2]
   exact ⟨by simp only [List.length_cons];omega, y, by simpa using h2, h3⟩
section
variable {H : Type} {enc : TypeId × Value → H} {W : World} {base : Nat} {held : Bool}
theorem open_sl {X : Type} [Inhabited X] (f : X → List Value) (Good : X → Prop) {t e : TypeId} (z : Nat) (hz : 0 < z) (ht : Try.prog.underlying t = some (.slice e)) (hc : Try.prog.cellsOf e = z) (hf : ∀ x, (f x).length = z)
  (hel : ∀ n cs y, DataW.trod enc Try.prog W base (fun _=>true) held n e cs = some y → cs.length = z → ∃ x, cs = f x ∧ Good x)
  {n : Nat} {v : Value} {y : DataW H × List MemPlace} (h : DataW.trod enc Try.prog W base (fun _=>true) held n t [v] = some y) :
  ∃ (l : List X) (R : List Rng), SlRd v z l.length (l.flatMap f) R ∧ RdIn W R ∧ ∀ x ∈ l, Good x:=by
 rcases Go.Deep.open_slice ht h with ⟨hcs, _⟩ | ⟨a, len, cap, m, n', D, Pl, hcs, hb, hl, hm, hmm, _, hx⟩
 ·obtain rfl : v = .slice none 0 0:=by simpa using hcs
  exact ⟨[], [], SlRd.nil z [], RdIn.nil W, fun x hx=>by cases hx⟩
 ·obtain rfl : v = .slice (some a) len cap:=by simpa using hcs
  have hm2 : m = cap:=by rw [hmm];rfl
  subst hm2
  clear hmm
  rw [hc] at hx
  obtain ⟨g, hg⟩:=Go.Deep.choose_lt (n:=m) (p:=fun i (x : X)=>W.cells? base (a.add (i * z)) z = some (f x) ∧ Good x) (fun i hi=>by
   obtain ⟨cs', h1, h2⟩:=hx i hi
   obtain ⟨_, hlen, _⟩:=World.cells?_some h1
   obtain ⟨x, rfl, hgx⟩:=hel _ _ _ h2 hlen
   exact ⟨x, h1, hgx⟩)
  have hlen : ((List.range len).map g).length = len:=by simp
  have hcell : ∀ i, i < len → ∀ r u, (f (g i))[r]? = some u → W.cell? ((a.add (i * z)).add r) = some u:=fun i hi r u hu=>by
   obtain ⟨_, hl2, hc2⟩:=World.cells?_some (hg i (by omega)).1
   have hr : r < z:=by rw [← hl2];exact (List.getElem?_eq_some_iff.1 hu).1
   rw [hc2 r hr];exact hu
  rcases Nat.eq_zero_or_pos len with h0 | h0
  ·subst h0
   refine ⟨[], [], ⟨some a, m, rfl, by simp, hl, hm, fun h=>absurd h (Nat.lt_irrefl 0), fun h=>by cases h⟩, RdIn.nil W, fun x hx=>by cases hx⟩
  ·have hspot : a.spot = none:=by
    have hlt : 0 < (f (g 0)).length:=by rw [hf];exact hz
    have:=hcell 0 h0 0 _ (List.getElem?_eq_getElem hlt)
    rw [Nat.zero_mul, show (a.add 0) = a from rfl, show (a.add 0) = a from rfl] at this
    exact World.cell?_spot this
   obtain ⟨gb, off, sp⟩:=a
   obtain rfl : sp = none:=hspot
   have hrange : W.rangeAt gb off (((List.range len).map g).flatMap f):=fun j u hu=>by
    obtain ⟨h1, x, h2, h3⟩:=flat_at f z hf _ _ _ hu
    rw [hlen] at h1
    rw [List.getElem?_map, List.getElem?_range h1] at h2
    obtain rfl : g (j / z) = x:=by simpa using h2
    have:=hcell _ h1 _ _ h3
    rw [Addr.add_mid, Addr.add_mid, Nat.add_assoc, show j / z * z + j % z = j by rw [Nat.mul_comm];exact Nat.div_add_mod j z] at this
    exact this
   refine ⟨(List.range len).map g, [(gb, off, ((List.range len).map g).flatMap f)], ⟨some ⟨gb, off, none⟩, m, by rw [hlen], by rw [flat_len f z hf], by rw [hlen];exact hl, hm, fun _=>⟨gb, off, rfl, List.mem_singleton.2 rfl⟩, fun h=>by cases h⟩, fun r hr=>?_, fun x hx=>?_⟩
   ·obtain rfl:=List.mem_singleton.1 hr
    refine ⟨?_, hrange⟩
    have hlt : 0 < (f (g 0)).length:=by rw [hf];exact hz
    have hc0:=hcell 0 h0 0 _ (List.getElem?_eq_getElem hlt)
    rw [Nat.zero_mul] at hc0
    unfold World.cell? at hc0
    split at hc0
    ·next hh=>exact (Array.getElem?_eq_some_iff.1 hh).1
    ·cases hc0
   ·obtain ⟨i, hi, rfl⟩:=List.mem_map.1 hx
    exact (hg i (by have:=List.mem_range.1 hi;omega)).2
end
end Go.Proofs.Ytooaldglgkjjgaa
/- a table of locks and a grant that came in by value, opened -/
namespace Go.Proofs.Ytooaldglgkjjgaa
open Go.RowKit
set_option maxRecDepth 20000

section
variable {H : Type} {enc : TypeId × Value → H} {W : World} {base : Nat} {held : Bool}
instance : Inhabited Gr:=⟨grNil⟩
theorem four_of {cs : List Value} (h : cs.length = 4) : ∃ a b c d, cs = [a, b, c, d]:=by
  match cs, h with
  | [a, b, c, d], _=>exact ⟨a, b, c, d, rfl⟩
theorem two_of {cs : List Value} (h : cs.length = 2) : ∃ a b, cs = [a, b]:=by
  match cs, h with
  | [a, b], _=>exact ⟨a, b, rfl⟩
theorem two_arr {cs : Array Value} (h : cs.size = 2) : ∃ a b, cs = #[a, b]:=by
  obtain ⟨l⟩:=cs
  match l, h with
  | [a, b], _=>exact ⟨a, b, rfl⟩
theorem cellsOf_int1 : Try.prog.cellsOf 3 = 1:=by kernel_rfl
theorem cellsOf_slg : Try.prog.cellsOf 23 = 1:=by kernel_rfl
theorem cellsOf_tb2 : Try.prog.cellsOf 25 = 2:=by kernel_rfl
theorem tb_range {xs : List (DataW H × List MemPlace)} {k m : Nat} (h : xs.length = m) (hk : k < m) : ∃ x, xs[k]? = some x:=⟨_, List.getElem?_eq_getElem (by omega)⟩
theorem el_lk (n : Nat) (cs : List Value) (y : DataW H × List MemPlace) (h : DataW.trod enc Try.prog W base (fun _=>true) held n 27 cs = some y) (hl : cs.length = 2) : ∃ x : Lok, cs = lkCells x ∧ GoodLk x:=by
  obtain ⟨a, b, rfl⟩:=two_of hl
  obtain ⟨xs, n, _, _, _, hn, hf⟩:=DataW.trod_struct Try.underlying27 h
  obtain ⟨x0, e0⟩:=tb_range hn (k:=0) (by decide)
  obtain ⟨x1, e1⟩:=tb_range hn (k:=1) (by decide)
  have h0 : DataW.trod enc Try.prog W base (fun _=>true) held n 3 ((([a, b] : List Value).drop 0).take (Try.prog.cellsOf 3)) = some x0:=(hf 0 _ rfl).trans e0
  have h1 : DataW.trod enc Try.prog W base (fun _=>true) held n 3 ((([a, b] : List Value).drop 1).take (Try.prog.cellsOf 3)) = some x1:=(hf 1 _ rfl).trans e1
  simp only [cellsOf_int1, List.drop_zero, List.drop_succ_cons, List.take_succ_cons, List.take_zero] at h0 h1
  obtain ⟨k0, q0, _, g0⟩:=DataW.trod_int Try.underlying3 h0
  obtain ⟨k1, q1, _, g1⟩:=DataW.trod_int Try.underlying3 h1
  obtain rfl : a = .int .i64 k0:=by simpa using q0
  obtain rfl : b = .int .i64 k1:=by simpa using q1
  exact ⟨⟨k0, k1⟩, rfl, g0, g1⟩
theorem el_gr (n : Nat) (cs : List Value) (y : DataW H × List MemPlace) (h : DataW.trod enc Try.prog W base (fun _=>true) held n 29 cs = some y) (hl : cs.length = 4) : ∃ x : Gr, cs = grCells x ∧ GoodGr x:=by
  obtain ⟨a, b, c, d, rfl⟩:=four_of hl
  obtain ⟨xs, n, _, _, _, hn, hf⟩:=DataW.trod_struct Try.underlying29 h
  obtain ⟨x0, e0⟩:=tb_range hn (k:=0) (by decide)
  obtain ⟨x1, e1⟩:=tb_range hn (k:=1) (by decide)
  obtain ⟨x2, e2⟩:=tb_range hn (k:=2) (by decide)
  have h0 : DataW.trod enc Try.prog W base (fun _=>true) held n 3 ((([a, b, c, d] : List Value).drop 0).take (Try.prog.cellsOf 3)) = some x0:=(hf 0 _ rfl).trans e0
  have h1 : DataW.trod enc Try.prog W base (fun _=>true) held n 27 ((([a, b, c, d] : List Value).drop 1).take (Try.prog.cellsOf 27)) = some x1:=(hf 1 _ rfl).trans e1
  have h2 : DataW.trod enc Try.prog W base (fun _=>true) held n 3 ((([a, b, c, d] : List Value).drop 3).take (Try.prog.cellsOf 3)) = some x2:=(hf 2 _ rfl).trans e2
  simp only [cellsOf_int1, cellsOf_lk, List.drop_zero, List.drop_succ_cons, List.take_succ_cons, List.take_zero] at h0 h1 h2
  obtain ⟨k0, q0, _, g0⟩:=DataW.trod_int Try.underlying3 h0
  obtain ⟨k1, q1, g1⟩:=el_lk _ _ _ h1 rfl
  obtain ⟨k2, q2, _, g2⟩:=DataW.trod_int Try.underlying3 h2
  obtain rfl : a = .int .i64 k0:=by simpa using q0
  obtain ⟨rfl, rfl⟩ : b = .int .i64 k1.page ∧ c = .int .i64 k1.slot:=by simpa [lkCells] using q1
  obtain rfl : d = .int .i64 k2:=by simpa using q2
  exact ⟨⟨k0, k1.page, k1.slot, k2⟩, rfl, g0, g1.1, g1.2, g2⟩
theorem open_grant {r : Reach} {b0 : Nat} {v : Value} (hval : Value.okWide Try.prog W r b0 29 v) {d : DataW H} {p : List MemPlace} (h : DataW.Trod enc Try.prog W base (fun _=>true) held 29 v d p) : ∃ x, v = .agg (grCells x).toArray ∧ GoodGr x:=by
  obtain ⟨cs, rfl, hsz⟩:=Go.WideShapes.okWide_struct Try.underlying29 hval
  obtain ⟨m, hm⟩:=h
  obtain ⟨x, hx, hg⟩:=el_gr m _ _ hm (by simp only [Value.cells, Array.length_toList];rw [hsz, cellsOf_gr])
  refine ⟨x, ?_, hg⟩
  rw [← hx]
  simp [Value.cells]
theorem open_table {r : Reach} {b0 : Nat} {v : Value} (hval : Value.okWide Try.prog W r b0 25 v) {d : DataW H} {ps : List MemPlace} (h : DataW.Trod enc Try.prog W base (fun _=>true) held 25 v d ps) :
    ∃ (t : Tb) (h u : Value) (R : List Rng), v = .agg (tbCells h u).toArray ∧ TbRd h u t R ∧ RdIn W R ∧ ∀ z, z ∈ t.held ∨ z ∈ t.wait → GoodGr z:=by
  obtain ⟨cs, rfl, hsz⟩:=Go.WideShapes.okWide_struct Try.underlying25 hval
  rw [cellsOf_tb2] at hsz
  obtain ⟨a, b, rfl⟩:=two_arr hsz
  obtain ⟨m, hm⟩:=h
  obtain ⟨xs, n, _, _, _, hn, hf⟩:=DataW.trod_struct Try.underlying25 hm
  obtain ⟨x0, e0⟩:=tb_range hn (k:=0) (by decide)
  obtain ⟨x1, e1⟩:=tb_range hn (k:=1) (by decide)
  have h0 : DataW.trod enc Try.prog W base (fun _=>true) held n 23 ((([a, b] : List Value).drop 0).take (Try.prog.cellsOf 23)) = some x0:=(hf 0 _ rfl).trans e0
  have h1 : DataW.trod enc Try.prog W base (fun _=>true) held n 23 ((([a, b] : List Value).drop 1).take (Try.prog.cellsOf 23)) = some x1:=(hf 1 _ rfl).trans e1
  simp only [cellsOf_slg, List.drop_zero, List.drop_succ_cons, List.take_succ_cons, List.take_zero] at h0 h1
  obtain ⟨lh, Rh, hh, hh2, hh3⟩:=open_sl grCells GoodGr 4 (by decide) Try.underlying23 cellsOf_gr (fun _=>rfl) el_gr h0
  obtain ⟨lw, Rw, hw, hw2, hw3⟩:=open_sl grCells GoodGr 4 (by decide) Try.underlying23 cellsOf_gr (fun _=>rfl) el_gr h1
  exact ⟨⟨lh, lw⟩, a, b, Rh ++ Rw, rfl, ⟨hh.mono (fun r h=>List.mem_append_left _ h), hw.mono (fun r h=>List.mem_append_right _ h)⟩, hh2.append hw2, fun z hz=>hz.elim (hh3 z) (hw3 z)⟩
end
/-- the empty table and the empty grant, as the witness brings them, and their readings -/
def tbNilV : Value:=.agg (tbCells (.slice none 0 0) (.slice none 0 0)).toArray
def tbNilD {H : Type} : DataW H:=.agg [.nil, .nil]
def grNilV : Value:=.agg (grCells grNil).toArray
def grNilD {H : Type} : DataW H:=.agg [.lit (.int .i64 0), .agg [.lit (.int .i64 0), .lit (.int .i64 0)], .lit (.int .i64 0)]
end Go.Proofs.Ytooaldglgkjjgaa
