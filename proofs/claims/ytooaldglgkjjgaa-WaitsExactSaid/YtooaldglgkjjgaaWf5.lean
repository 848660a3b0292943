/- texts of a claim, one after the other: the reference's closed of chapter 9, the reference's Edges of chapter 9, the program's awaited (waits), the program's For (waits), the program's Edges (waits), the walk of the reference's Copy, the library's Grow of a nil list of numbers, and Concat of two lists of numbers, an element of a slice of its own is written, whole, the reference's Cycle and Would of chapter 9, a queue of ways in memory, and a set of those who have been reached, the ways of a length, in their order: a search in breadth over whole ways finds what Cycle answers, a search in breadth that goes to each one once finds what Cycle answers, the program's Cycle (waits), the program's Waiting and turn (locks), rows of whole elements that are written in place, the library's copy of grants -/
import Derived.Test.YtooaldglgkjjgaaWf1
import Derived.Test.YtooaldglgkjjgaaWf4
import Derived.Test.YtooaldglgkjjgaaWf2
import Derived.Lib.AppendZeros
import Derived.Deep.MidRow
import Derived.Lib.SliceRun
import Derived.WalkSpells
/- the reference's closed of chapter 9 -/
namespace Go.Proofs.Ytooaldglgkjjgaa
open Go.RowKit
open Go.Act renaming put → z0
open List renaming setIfInBounds_toArray → z1, set_cons_zero → z2, set_cons_succ → z3
set_option maxRecDepth 20000
set_option linter.unusedSimpArgs false
set_option linter.unusedVariables false

/-- a list handed back, in memory that is new or of R0 -/
def IntPost2 (w : World) (R0 : List Rng) (l : List Int) (e : Ending) (w' : World) : Prop:=∃ v R, e = .returned v ∧ IntRd v l R ∧ RdIn w' R ∧ (∀ r ∈ R, w.heap.size ≤ r.1 ∨ r.1 ∈ R0.map (·.1)) ∧ Below w.heap.size w w'
theorem int_none2 {w w' : World} {R0 : List Rng} (hb : Below w.heap.size w w') : IntPost2 w R0 [] (.returned (.slice none 0 0)) w':=⟨_, [], rfl, IntRd.nil _, RdIn.nil _, by simp, hb⟩
theorem intRow_of {l : List Int} {k : Nat} {x : Int} (h : l[k]? = some x) : (intRow l)[k]? = some (.int .i64 x):=by unfold intRow;rw [List.getElem?_map, h];rfl
theorem IntRd.cells {v : Value} {l : List Int} {R : List Rng} (h : IntRd v l R) : ∃ a c, v = .slice a l.length c ∧ l.length ≤ c ∧ c ≤ maxLen ∧ (0 < l.length → ∃ g off, a = some ⟨g, off, none⟩ ∧ ∀ W, RdIn W R → ∀ i x, l[i]? = some x → W.cell? ⟨g, off + i, none⟩ = some (.int .i64 x)):=by
 obtain ⟨a, c, rfl, _, h1, h2, h3, _⟩:=h
 refine ⟨a, c, rfl, h1, h2, fun h0=>?_⟩
 obtain ⟨g, off, ha, hm⟩:=h3 h0
 exact ⟨g, off, ha, fun W hR i x hx=>(hR _ hm).2 i _ (intRow_of hx)⟩
theorem last_at {l : List Int} (h : l ≠ []) : l[l.length - 1]? = some (l.getLastD 0):=by
 have hp:=List.length_pos_iff.2 h
 rw [List.getLastD_eq_getLast?, List.getLast?_eq_getElem?, List.getElem?_eq_getElem (by omega)];rfl
theorem head_at {l : List Int} (h : l ≠ []) : l[0]? = some (l.headD 0):=by
 cases l with
 | nil=>exact absurd rfl h
 | cons y l=>rfl
theorem int_snoc2 {w W : World} {A : List Th} {v : Value} {l : List Int} {x : Int} (h : Hp w (A ++ [.sl v 3 1 (l.length + 1) (intRow l ++ [.int .i64 x])]) W) : Hp w (A ++ [.sl v 3 1 (l ++ [x]).length (intRow (l ++ [x]))]) W:=by
 have e : intRow (l ++ [x]) = intRow l ++ [.int .i64 x]:=by unfold intRow;rw [List.map_append];rfl
 rw [e, List.length_append];exact h
theorem one_ir (l : List Int) : ∀ u ∈ intRow l, u.oneCell' = true:=fun u hu=>by
 obtain ⟨x, _, rfl⟩:=List.mem_map.1 hu
 rfl
theorem first_drop {f : Int → List Int} {l : List Int} {i : Nat} {x : Int} (h : l[i]? = some x) : firstR f (l.drop i) = if f x = [] then firstR f (l.drop (i + 1)) else f x:=by
 obtain ⟨hi, rfl⟩:=List.getElem?_eq_some_iff.1 h
 rw [List.drop_eq_getElem_cons hi];rfl
theorem mem_take_next {l : List Int} {i : Nat} {x y : Int} (h : l[i]? = some y) : decide (x ∈ l.take (i + 1)) = (decide (x ∈ l.take i) || decide (x = y)):=by
 obtain ⟨hi, rfl⟩:=List.getElem?_eq_some_iff.1 h
 rw [List.take_succ_eq_append_getElem hi, Bool.eq_iff_iff]
 simp only [decide_eq_true_eq, Bool.or_eq_true, List.mem_append, List.mem_singleton]
abbrev qRfWt4_0 : Oper:={ dst:=some 16, op:=Op.load 25 (Operand.tmp 3), type:=25, pos := "ref.go:72", after:=#[], guard:=none }
abbrev qRfWt4_1 : Oper:={ dst:=some 17, op:=Op.move (Operand.tmp 1), type:=38, pos := "ref.go:72", after:=#[], guard:=none }
abbrev qRfWt4_2 : Oper:={ dst:=some 18, op:=Op.move (Operand.tmp 1), type:=38, pos := "ref.go:72", after:=#[], guard:=none }
abbrev qRfWt4_3 : Oper:={ dst:=some 19, op:=Op.call { callee:=Callee.builtin Builtin.len, args:=#[Operand.tmp 18], argTypes:=#[38] }, type:=3, pos := "ref.go:72", after:=#[{ on:=2, ground:=Ground.data }], guard:=none }
abbrev qRfWt4_4 : Oper:={ dst:=some 20, op:=Op.binOp BinOp.sub 3 (Operand.tmp 19) (Operand.const (Value.int IntKind.i64 1)) 3, type:=3, pos := "ref.go:72", after:=#[{ on:=3, ground:=Ground.data }], guard:=none }
abbrev qRfWt4_5 : Oper:={ dst:=some 21, op:=Op.indexAddr 38 (Operand.tmp 17) (Operand.tmp 20), type:=0, pos := "ref.go:72", after:=#[{ on:=1, ground:=Ground.data }, { on:=4, ground:=Ground.data }], guard:=none }
abbrev qRfWt4_6 : Oper:={ dst:=some 22, op:=Op.load 3 (Operand.tmp 21), type:=3, pos := "ref.go:72", after:=#[{ on:=5, ground:=Ground.data }], guard:=none }
abbrev qRfWt4_7 : Oper:={ dst:=some 23, op:=Op.call { callee:=Callee.value (Operand.func 13), args:=#[Operand.tmp 16, Operand.tmp 22], argTypes:=#[25, 3] }, type:=38, pos := "ref.go:72", after:=#[{ on:=0, ground:=Ground.data }, { on:=6, ground:=Ground.data }], guard:=none }
abbrev qRfWt4_8 : Oper:={ dst:=some 7, op:=Op.assign (Operand.tmp 23), type:=38, pos := "ref.go:72", after:=#[{ on:=7, ground:=Ground.data }, { on:=7, ground:=Ground.chain }, { on:=0, ground:=Ground.phase }, { on:=1, ground:=Ground.phase }, { on:=2, ground:=Ground.phase }, { on:=3, ground:=Ground.phase }, { on:=4, ground:=Ground.phase }, { on:=5, ground:=Ground.phase }, { on:=6, ground:=Ground.phase }, { on:=7, ground:=Ground.phase }], guard:=none }
abbrev qRfWt4_9 : Oper:={ dst:=some 61, op:=Op.load 25 (Operand.tmp 3), type:=25, pos := "ref.go:89", after:=#[], guard:=none }
abbrev qRfWt4_10 : Oper:={ dst:=some 62, op:=Op.move (Operand.tmp 1), type:=38, pos := "ref.go:89", after:=#[], guard:=none }
abbrev qRfWt4_11 : Oper:={ dst:=some 64, op:=Op.move (Operand.tmp 11), type:=3, pos := "ref.go:89", after:=#[], guard:=none }
abbrev qRfWt4_12 : Oper:={ dst:=some 67, op:=Op.move (Operand.tmp 2), type:=3, pos := "ref.go:89", after:=#[], guard:=none }
abbrev qRfWt4_13 : Oper:={ dst:=some 63, op:=Op.call { callee:=Callee.builtin Builtin.append, args:=#[Operand.const (Value.slice none 0 0), Operand.tmp 62], argTypes:=#[38, 38] }, type:=38, pos := "ref.go:89", after:=#[{ on:=1, ground:=Ground.data }], guard:=none }
abbrev qRfWt4_14 : Oper:={ dst:=some 65, op:=Op.buildSlice 38 1 #[(0, Operand.tmp 64)], type:=38, pos := "ref.go:89", after:=#[{ on:=3, ground:=Ground.data }], guard:=none }
abbrev qRfWt4_15 : Oper:={ dst:=some 66, op:=Op.call { callee:=Callee.builtin Builtin.append, args:=#[Operand.tmp 63, Operand.tmp 65], argTypes:=#[38, 38] }, type:=38, pos := "ref.go:89", after:=#[{ on:=2, ground:=Ground.data }, { on:=4, ground:=Ground.data }, { on:=2, ground:=Ground.chain }], guard:=none }
abbrev qRfWt4_16 : Oper:={ dst:=some 68, op:=Op.call { callee:=Callee.value (Operand.func 37), args:=#[Operand.tmp 61, Operand.tmp 66, Operand.tmp 67], argTypes:=#[25, 38, 3] }, type:=38, pos := "ref.go:89", after:=#[{ on:=0, ground:=Ground.data }, { on:=5, ground:=Ground.data }, { on:=6, ground:=Ground.data }, { on:=5, ground:=Ground.chain }], guard:=none }
abbrev qRfWt4_17 : Oper:={ dst:=some 15, op:=Op.assign (Operand.tmp 68), type:=38, pos := "ref.go:89", after:=#[{ on:=7, ground:=Ground.data }, { on:=7, ground:=Ground.chain }, { on:=0, ground:=Ground.phase }, { on:=1, ground:=Ground.phase }, { on:=2, ground:=Ground.phase }, { on:=3, ground:=Ground.phase }, { on:=4, ground:=Ground.phase }, { on:=5, ground:=Ground.phase }, { on:=6, ground:=Ground.phase }, { on:=7, ground:=Ground.phase }], guard:=none }
set_option maxHeartbeats 16000000 in
theorem rclosed_any {h v : Value} {t : Tb} {R : List Rng} (ht : TbRd h v t R) (hg : GoodTb t) : ∀ (k : Nat) (way : List Int) (u : Value) (R2 : List Rng) (w : World), RdIn w R → IntRd u way R2 → RdIn w R2 → way ≠ [] → way.length + k ≤ 100000 →
  Calls Try.prog 37 #[.agg (tbCells h v).toArray, u, .int .i64 ((way.length + k : Nat) : Int)] w (IntPost2 w R2 (closedF (forR t) k way)):=by
 intro k
 induction k with
 | zero =>
  intro way u R2 w hR hu hR2 hne hbd
  obtain ⟨y, hy⟩ : ∃ y, way.getLastD 0 = y:=⟨_, rfl⟩
  obtain ⟨nx, hnx⟩ : ∃ nx, forR t y = nx:=⟨_, rfl⟩
  obtain ⟨q, hq⟩ : ∃ q, way.length = q + 1:=⟨way.length - 1, by have:=List.length_pos_iff.2 hne;omega⟩
  have hyq : way[q]? = some y:=by have:=last_at hne;rw [hq, hy] at this;exact this
  obtain ⟨N, hN⟩ : ∃ N : Int, ((way.length + 0 : Nat) : Int) = N:=⟨_, rfl⟩
  have HFr : Hid (∀ W, Below w.heap.size w W → Calls Try.prog 13 #[.agg (tbCells h v).toArray, .int .i64 y] W (IntsPost W nx)):=fun W hb=>by
   have:=rfor_any y W ht (hR.below hb) hg
   rwa [hnx] at this
  have HNl : Hid (nx.length ≤ 1000000):=Lib.hid (by rw [← hnx];exact for_len hg y)
  have HC : Hid (closedF (forR t) 0 way = if way.headD 0 ∈ nx then way else []):=Lib.hid (by unfold closedF;rw [hy, hnx])
  obtain ⟨z0, hz0⟩ : ∃ z0, way.headD 0 = z0:=⟨_, rfl⟩
  have HZ : Hid (way[0]? = some z0):=Lib.hid (by rw [← hz0];exact head_at hne)
  rw [hz0] at HC
  have HnN : Hid ((way.length : Int) = N):=Lib.hid (by omega)
  generalize closedF (forR t) 0 way = res at *
  clear hz0 hne
  rw [hN]
  obtain ⟨a, cap, rfl, hnc, hcm⟩:=ht.1.shape
  obtain ⟨a2, cap2, rfl, hnc2, hcm2⟩:=ht.2.shape
  obtain ⟨a3, cap3, rfl, hnc3, hcm3, hg3⟩:=hu.cells
  obtain ⟨g2, off2, rfl, hc3⟩:=hg3 (by omega)
  have HU:=Lib.hid hu
  have HCw : Hid (∀ W, Below w.heap.size w W → ∀ i x, way[i]? = some x → W.cell? ⟨g2, off2 + i, none⟩ = some (.int .i64 x)):=fun W hb i x hx=>hc3 W (hR2.below hb) i x hx
  have HR2:=Lib.hid hR2
  have HUI : Hid (Try.prog.underlying 38 = some (.slice 3)):=Try.underlying38
  have HYq:=Lib.hid hyq
  have hwi : (way.length : Int) ≤ 100000:=by omega
  have hpw : IntKind.i64.wrap ((way.length : Int) - 1) = (q : Int):=by rw [show (way.length : Int) - 1 = (q : Int) by omega];exact IntWalk.i64_in _ (by omega)
  have hq0 : (0 : Int) ≤ (q : Int):=by omega
  have hqi : (q : Int) < (way.length : Int):=by omega
  have HQ : Hid (way.length = q + 1):=hq
  clear hg3 hc3 hu hyq hR2 hR hnx hy hq hN
  have h1:=(Hp.start w).put 25 (tbCells (.slice a t.held.length cap) (.slice a2 t.wait.length cap2))
  simp only [List.nil_append] at h1
  have HS0 : Hid (Hp w [.ob w.heap.size 25 (tbCells (.slice a t.held.length cap) (.slice a2 t.wait.length cap2))] (w.alloc (.cells (tbCells (.slice a t.held.length cap) (.slice a2 t.wait.length cap2)).toArray 25))):=h1
  clear h1
  obtain ⟨fsHUG, huHUG⟩:=under_gr
  have HUG:=Lib.hid huHUG
  clear huHUG
  obtain ⟨fsHUT, huHUT⟩:=under_tb
  have HUT:=Lib.hid huHUT
  clear huHUT
  go_enter Try.func37, Try.ntmps37
  go_upto_region 1 with (fail)
  generalize (w.alloc (.cells (tbCells (.slice a t.held.length cap) (.slice a2 t.wait.length cap2)).toArray 25)) = w1 at *
  refine wp_region_held_drew (S:=fun w'=>w'.rangeAt w.heap.size 0 (tbCells (.slice a t.held.length cap) (.slice a2 t.wait.length cap2)) ∧ w'.cell? ⟨g2, off2 + q, none⟩ = some (.int .i64 y)) (by kernel_rfl) (⟨(fun j v hv=>by rw [Nat.zero_add];exact ((HS0.out).drew).at 0 rfl j hv), (HCw.out _ ((HS0.out).drew).old q y HYq.out)⟩) (fun hHeld=>?_)
  refine tk 0 qRfWt4_0 (some 16) (yieldsIf_load_mid (by rfl) 25 (.tmp 3) rfl w.heap.size (0) rfl (tbCells (.slice a t.held.length cap) (.slice a2 t.wait.length cap2)) _ (fun _ h=>h.1) HUT.out rfl (info_tb)) hHeld ?_
  try simp only [z0, z1, z2, z3]
  refine tk 1 qRfWt4_1 (some 17) (v:=?q2v) (Or.inl ⟨by rfl, ?q2h⟩) hHeld ?q2r
  case q2h=>(intro _ h;clear h;go_simp;try with_reducible rfl)
  try simp only [z0, z1, z2, z3]
  refine tk 2 qRfWt4_2 (some 18) (v:=?q3v) (Or.inl ⟨by rfl, ?q3h⟩) hHeld ?q3r
  case q3h=>(intro _ h;clear h;go_simp;try with_reducible rfl)
  try simp only [z0, z1, z2, z3]
  refine tk 3 qRfWt4_3 (some 19) (v:=?q4v) (Or.inl ⟨by rfl, ?q4h⟩) hHeld ?q4r
  case q4h=>(intro _ h;clear h;go_simp;try with_reducible rfl)
  try simp only [z0, z1, z2, z3]
  refine tk 4 qRfWt4_4 (some 20) (v:=?q5v) (Or.inl ⟨by rfl, ?q5h⟩) hHeld ?q5r
  case q5h=>(intro _ h;clear h;go_simp;try with_reducible rfl)
  try simp only [z0, z1, z2, z3]
  refine tk 5 qRfWt4_5 (some 21) (v:=?q6v) (Or.inl ⟨by rfl, ?q6h⟩) hHeld ?q6r
  case q6h=>(intro _ h;clear h;go_simp;try with_reducible rfl)
  try simp only [z0, z1, z2, z3]
  refine tk 6 qRfWt4_6 (some 22) (v:=.int .i64 y) (Or.inl ⟨by rfl, ?q7h⟩) hHeld ?q7r
  case q7h=>(intro wq hSw;have lq:=hSw.2;clear hSw;go_simp;try with_reducible rfl)
  try simp only [z0, z1, z2, z3]
  refine tn 7 qRfWt4_7 (fun K hK=>?_)
  go_simp
  go_wp2_with (go_at_call 13;refine (HFr.out _ ((HS0.out).drew).old).mono ?_;rintro e w21 ⟨v9, R9, rfl, hrd2, hin2, hnew2, hb⟩)
  obtain ⟨a9, c9, rfl, hl9, hm9, hg9⟩:=hrd2.cells
  have Hrd9:=Lib.hid hrd2
  have Hnw9:=Lib.hid hnew2
  have Hgc9:=Lib.hid hg9
  clear hg9
  have HS21 : Hid (Hp w [.ob (w.heap.size) 25 (tbCells (.slice a t.held.length cap) (.slice a2 t.wait.length cap2)), .rd R9] w21):=((HS0.out).drew).addrd hb R9 hin2 (fun r hr=>.inl (hnew2 r hr))
  refine hK.out _ _ (⟨(fun j v hv=>by rw [Nat.zero_add];exact (HS21.out).at 0 rfl j hv), (HCw.out _ (HS21.out).old q y HYq.out)⟩) (fun hHeld=>?_)
  clear hK K hb hin2 hrd2 hnew2
  try simp only [z0, z1, z2, z3]
  refine tk 8 qRfWt4_8 (some 7) (v:=?q8v) (Or.inl ⟨by rfl, ?q8h⟩) hHeld ?q8r
  case q8h=>(intro _ h;clear h;go_simp;try with_reducible rfl)
  try simp only [z0, z1, z2, z3]
  refine wpAnyH_done (by kernel_rfl) ?_ _
  clear hHeld
  obtain ⟨e1, n1⟩:=eq_facts HnN.out
  have e2 : (N == (way.length : Int)) = true:=by rw [← HnN.out];simp
  clear HnN
  have hnl : (nx.length : Int) ≤ 1000000:=by have:=HNl.out;omega
  go_wp2_with fail
  generalize w21 = w5 at *
  go_loopw [30] (fun iv wr=>∃ i : Nat, i ≤ nx.length ∧ iv = .int .i64 i ∧ z0 ∉ nx.take i ∧ Hp w [.ob w.heap.size 25 (tbCells (.slice a t.held.length cap) (.slice a2 t.wait.length cap2)), .rd R9] wr) (fun iv _=>nx.length - (intOf iv).toNat)
  case atStart=>exact ⟨0, by omega, rfl, by simp, HS21.out⟩
  case round =>
   clear HS21
   obtain ⟨i, hi, rfl, hno, hs⟩:=hrel
   have HY:=Lib.hid hs
   have HNo:=Lib.hid hno
   clear hs hno
   by_cases hlt : i < nx.length
   ·obtain ⟨g0, off, rfl, hc0⟩:=Hgc9.out (by omega)
    obtain ⟨x, hx⟩ : ∃ x, nx[i]? = some x:=⟨_, List.getElem?_eq_getElem hlt⟩
    have HXi:=Lib.hid hx
    have c0 : wr.cell? ⟨g0, off + i, none⟩ = some (.int .i64 x):=hc0 wr (HY.out.reads 1 rfl) i x hx
    have c1 : wr.cell? ⟨g2, off2, none⟩ = some (.int .i64 z0):=HCw.out wr HY.out.old 0 z0 HZ.out
    have hii : (i : Int) < (nx.length : Int):=by omega
    have hi0 : (0 : Int) ≤ (i : Int):=by omega
    have HLt:=Lib.hid hlt
    have hw0 : (0 : Int) < (way.length : Int):=by omega
    clear hc0 hi hlt hx Hgc9
    by_cases hxz : x = z0
    ·obtain ⟨e3, n3⟩:=eq_facts hxz
     have HE : Hid (res = way):=Lib.hid (by rw [HC.out, if_pos (by rw [← hxz];exact List.mem_of_getElem? HXi.out)])
     clear hxz
     go_wp2_with fail
     go_ret
     rw [HE.out]
     exact ⟨_, R2, rfl, HU.out, HR2.out.below HY.out.old, fun r hr=>.inr (List.mem_map.2 ⟨r, hr, rfl⟩), HY.out.old⟩
    ·obtain ⟨e3, n3⟩:=ne_facts hxz
     have HNo2 : Hid (z0 ∉ nx.take (i + 1)):=Lib.hid (by
      have:=mem_take_next (x:=z0) HXi.out
      intro hm
      rw [decide_eq_true hm, decide_eq_false HNo.out, decide_eq_false (fun e=>hxz e.symm)] at this
      cases this)
     clear hxz HNo
     go_wp2_with fail
     go_roundw
     case rel=>exact ⟨i + 1, HLt.out, by go_num, HNo2.out, HY.out⟩
     case measure=>simp [intOf];try (have:=HLt.out;omega)
   ·obtain rfl : i = nx.length:=by omega
    have HE : Hid (res = []):=Lib.hid (by rw [HC.out, if_neg (by have:=HNo.out;rwa [List.take_length] at this)])
    clear hlt hi HNo
    go_wp2_with fail
    go_ret
    rw [HE.out]
    exact int_none2 HY.out.old
 | succ k ih =>
  intro way u R2 w hR hu hR2 hne hbd
  obtain ⟨y, hy⟩ : ∃ y, way.getLastD 0 = y:=⟨_, rfl⟩
  obtain ⟨nx, hnx⟩ : ∃ nx, forR t y = nx:=⟨_, rfl⟩
  obtain ⟨q, hq⟩ : ∃ q, way.length = q + 1:=⟨way.length - 1, by have:=List.length_pos_iff.2 hne;omega⟩
  have hyq : way[q]? = some y:=by have:=last_at hne;rw [hq, hy] at this;exact this
  obtain ⟨N, hN⟩ : ∃ N : Int, ((way.length + (k + 1) : Nat) : Int) = N:=⟨_, rfl⟩
  have HFr : Hid (∀ W, Below w.heap.size w W → Calls Try.prog 13 #[.agg (tbCells h v).toArray, .int .i64 y] W (IntsPost W nx)):=fun W hb=>by
   have:=rfor_any y W ht (hR.below hb) hg
   rwa [hnx] at this
  have HNl : Hid (nx.length ≤ 1000000):=Lib.hid (by rw [← hnx];exact for_len hg y)
  obtain ⟨fc, hfc⟩ : ∃ fc : Int → List Int, (fun x=>if x ∈ way then [] else closedF (forR t) k (way ++ [x])) = fc:=⟨_, rfl⟩
  have HC : Hid (closedF (forR t) (k + 1) way = firstR fc nx):=Lib.hid (by rw [← hfc, ← hnx, ← hy];rfl)
  have HF0 : Hid (∀ x, x ∈ way → fc x = []):=fun x hx=>by rw [← hfc];exact if_pos hx
  have HF1 : Hid (∀ x, x ∉ way → fc x = closedF (forR t) k (way ++ [x])):=fun x hx=>by rw [← hfc];exact if_neg hx
  have HIH : Hid (∀ x u' R' W, x ∉ way → Below w.heap.size w W → IntRd u' (way ++ [x]) R' → RdIn W R' → Calls Try.prog 37 #[.agg (tbCells h v).toArray, u', .int .i64 N] W (IntPost2 W R' (fc x))):=fun x u' R' W hx hb h1 h2=>by
   have:=ih (way ++ [x]) u' R' W (hR.below hb) h1 h2 (by simp) (by rw [List.length_append, List.length_singleton];omega)
   rw [List.length_append, List.length_singleton, show way.length + 1 + k = way.length + (k + 1) by omega, hN] at this
   rw [← hfc]
   simp only
   rw [if_neg hx]
   exact this
  have HnN : Hid ((way.length : Int) ≠ N):=Lib.hid (by omega)
  generalize closedF (forR t) (k + 1) way = res at *
  clear hfc ih hne
  rw [hN]
  obtain ⟨a, cap, rfl, hnc, hcm⟩:=ht.1.shape
  obtain ⟨a2, cap2, rfl, hnc2, hcm2⟩:=ht.2.shape
  obtain ⟨a3, cap3, rfl, hnc3, hcm3, hg3⟩:=hu.cells
  obtain ⟨g2, off2, rfl, hc3⟩:=hg3 (by omega)
  have HU:=Lib.hid hu
  have HCw : Hid (∀ W, Below w.heap.size w W → ∀ i x, way[i]? = some x → W.cell? ⟨g2, off2 + i, none⟩ = some (.int .i64 x)):=fun W hb i x hx=>hc3 W (hR2.below hb) i x hx
  have HR2:=Lib.hid hR2
  have HUI : Hid (Try.prog.underlying 38 = some (.slice 3)):=Try.underlying38
  have HYq:=Lib.hid hyq
  have hwi : (way.length : Int) ≤ 100000:=by omega
  have hpw : IntKind.i64.wrap ((way.length : Int) - 1) = (q : Int):=by rw [show (way.length : Int) - 1 = (q : Int) by omega];exact IntWalk.i64_in _ (by omega)
  have hq0 : (0 : Int) ≤ (q : Int):=by omega
  have hqi : (q : Int) < (way.length : Int):=by omega
  have HQ : Hid (way.length = q + 1):=hq
  clear hg3 hc3 hu hyq hR2 hR hnx hy hq hN
  have h1:=(Hp.start w).put 25 (tbCells (.slice a t.held.length cap) (.slice a2 t.wait.length cap2))
  simp only [List.nil_append] at h1
  have HS0 : Hid (Hp w [.ob w.heap.size 25 (tbCells (.slice a t.held.length cap) (.slice a2 t.wait.length cap2))] (w.alloc (.cells (tbCells (.slice a t.held.length cap) (.slice a2 t.wait.length cap2)).toArray 25))):=h1
  clear h1
  obtain ⟨fsHUG, huHUG⟩:=under_gr
  have HUG:=Lib.hid huHUG
  clear huHUG
  obtain ⟨fsHUT, huHUT⟩:=under_tb
  have HUT:=Lib.hid huHUT
  clear huHUT
  go_enter Try.func37, Try.ntmps37
  go_upto_region 1 with (fail)
  generalize (w.alloc (.cells (tbCells (.slice a t.held.length cap) (.slice a2 t.wait.length cap2)).toArray 25)) = w1 at *
  refine wp_region_held_drew (S:=fun w'=>w'.rangeAt w.heap.size 0 (tbCells (.slice a t.held.length cap) (.slice a2 t.wait.length cap2)) ∧ w'.cell? ⟨g2, off2 + q, none⟩ = some (.int .i64 y)) (by kernel_rfl) (⟨(fun j v hv=>by rw [Nat.zero_add];exact ((HS0.out).drew).at 0 rfl j hv), (HCw.out _ ((HS0.out).drew).old q y HYq.out)⟩) (fun hHeld=>?_)
  refine tk 0 qRfWt4_0 (some 16) (yieldsIf_load_mid (by rfl) 25 (.tmp 3) rfl w.heap.size (0) rfl (tbCells (.slice a t.held.length cap) (.slice a2 t.wait.length cap2)) _ (fun _ h=>h.1) HUT.out rfl (info_tb)) hHeld ?_
  try simp only [z0, z1, z2, z3]
  refine tk 1 qRfWt4_1 (some 17) (v:=?q202v) (Or.inl ⟨by rfl, ?q202h⟩) hHeld ?q202r
  case q202h=>(intro _ h;clear h;go_simp;try with_reducible rfl)
  try simp only [z0, z1, z2, z3]
  refine tk 2 qRfWt4_2 (some 18) (v:=?q203v) (Or.inl ⟨by rfl, ?q203h⟩) hHeld ?q203r
  case q203h=>(intro _ h;clear h;go_simp;try with_reducible rfl)
  try simp only [z0, z1, z2, z3]
  refine tk 3 qRfWt4_3 (some 19) (v:=?q204v) (Or.inl ⟨by rfl, ?q204h⟩) hHeld ?q204r
  case q204h=>(intro _ h;clear h;go_simp;try with_reducible rfl)
  try simp only [z0, z1, z2, z3]
  refine tk 4 qRfWt4_4 (some 20) (v:=?q205v) (Or.inl ⟨by rfl, ?q205h⟩) hHeld ?q205r
  case q205h=>(intro _ h;clear h;go_simp;try with_reducible rfl)
  try simp only [z0, z1, z2, z3]
  refine tk 5 qRfWt4_5 (some 21) (v:=?q206v) (Or.inl ⟨by rfl, ?q206h⟩) hHeld ?q206r
  case q206h=>(intro _ h;clear h;go_simp;try with_reducible rfl)
  try simp only [z0, z1, z2, z3]
  refine tk 6 qRfWt4_6 (some 22) (v:=.int .i64 y) (Or.inl ⟨by rfl, ?q207h⟩) hHeld ?q207r
  case q207h=>(intro wq hSw;have lq:=hSw.2;clear hSw;go_simp;try with_reducible rfl)
  try simp only [z0, z1, z2, z3]
  refine tn 7 qRfWt4_7 (fun K hK=>?_)
  go_simp
  go_wp2_with (go_at_call 13;refine (HFr.out _ ((HS0.out).drew).old).mono ?_;rintro e w21 ⟨v9, R9, rfl, hrd2, hin2, hnew2, hb⟩)
  obtain ⟨a9, c9, rfl, hl9, hm9, hg9⟩:=hrd2.cells
  have Hrd9:=Lib.hid hrd2
  have Hnw9:=Lib.hid hnew2
  have Hgc9:=Lib.hid hg9
  clear hg9
  have HS21 : Hid (Hp w [.ob (w.heap.size) 25 (tbCells (.slice a t.held.length cap) (.slice a2 t.wait.length cap2)), .rd R9] w21):=((HS0.out).drew).addrd hb R9 hin2 (fun r hr=>.inl (hnew2 r hr))
  refine hK.out _ _ (⟨(fun j v hv=>by rw [Nat.zero_add];exact (HS21.out).at 0 rfl j hv), (HCw.out _ (HS21.out).old q y HYq.out)⟩) (fun hHeld=>?_)
  clear hK K hb hin2 hrd2 hnew2
  try simp only [z0, z1, z2, z3]
  refine tk 8 qRfWt4_8 (some 7) (v:=?q208v) (Or.inl ⟨by rfl, ?q208h⟩) hHeld ?q208r
  case q208h=>(intro _ h;clear h;go_simp;try with_reducible rfl)
  try simp only [z0, z1, z2, z3]
  refine wpAnyH_done (by kernel_rfl) ?_ _
  clear hHeld
  obtain ⟨e1, n1⟩:=ne_facts HnN.out
  clear HnN
  have hnl : (nx.length : Int) ≤ 1000000:=by have:=HNl.out;omega
  go_wp2_with fail
  generalize w21 = w5 at *
  go_loopw [43] (fun iv wr=>∃ i : Nat, i ≤ nx.length ∧ iv = .int .i64 i ∧ firstR fc (nx.drop i) = res ∧ Hp w [.ob w.heap.size 25 (tbCells (.slice a t.held.length cap) (.slice a2 t.wait.length cap2)), .rd R9] wr) (fun iv _=>nx.length - (intOf iv).toNat)
  case atStart=>exact ⟨0, by omega, rfl, by rw [List.drop_zero, HC.out], HS21.out⟩
  case round =>
   clear HS21
   obtain ⟨i, hi, rfl, hfi, hs⟩:=hrel
   have HY:=Lib.hid hs
   have HFi:=Lib.hid hfi
   clear hs hfi
   by_cases hlt : i < nx.length
   ·obtain ⟨g0, off, rfl, hc0⟩:=Hgc9.out (by omega)
    obtain ⟨x, hx⟩ : ∃ x, nx[i]? = some x:=⟨_, List.getElem?_eq_getElem hlt⟩
    have HXi:=Lib.hid hx
    have c0 : wr.cell? ⟨g0, off + i, none⟩ = some (.int .i64 x):=hc0 wr (HY.out.reads 1 rfl) i x hx
    have hii : (i : Int) < (nx.length : Int):=by omega
    have hi0 : (0 : Int) ≤ (i : Int):=by omega
    have HLt:=Lib.hid hlt
    have HFn : Hid (if fc x = [] then firstR fc (nx.drop (i + 1)) = res else fc x = res):=Lib.hid (by
     have:=HFi.out
     rw [first_drop hx] at this
     by_cases h9 : fc x = []
     ·rw [if_pos h9] at this ⊢;exact this
     ·rw [if_neg h9] at this ⊢;exact this)
    clear hc0 hi hlt hx HFi Hgc9
    go_wp2_with fail
    clear c0
    go_loopw [12, 49] (fun sv jv wr=>∃ j : Nat, j ≤ way.length ∧ jv = .int .i64 j ∧ sv = .bool (decide (x ∈ way.take j)) ∧ Hp w [.ob w.heap.size 25 (tbCells (.slice a t.held.length cap) (.slice a2 t.wait.length cap2)), .rd R9] wr) (fun _ jv _=>way.length - (intOf jv).toNat)
    case atStart=>exact ⟨0, by omega, rfl, by simp, HY.out⟩
    case round =>
     clear HY
     obtain ⟨j, hj, rfl, rfl, hs⟩:=hrel
     have HY:=Lib.hid hs
     clear hs
     by_cases hjt : j < way.length
     ·obtain ⟨y2, hy2⟩ : ∃ y2, way[j]? = some y2:=⟨_, List.getElem?_eq_getElem hjt⟩
      have c2 : wr.cell? ⟨g2, off2 + j, none⟩ = some (.int .i64 y2):=HCw.out wr HY.out.old j y2 hy2
      have HM:=Lib.hid (mem_take_next (x:=x) hy2)
      have hji : (j : Int) < (way.length : Int):=by omega
      have hj0 : (0 : Int) ≤ (j : Int):=by omega
      have HJt:=Lib.hid hjt
      clear hj hjt hy2
      generalize decide (x ∈ way.take j) = sb at *
      cases sb
      ·by_cases hxy : x = y2
       ·obtain ⟨e4, n4⟩:=eq_facts hxy
        have HM2 : Hid (decide (x ∈ way.take (j + 1)) = true):=Lib.hid (by rw [HM.out, decide_eq_true hxy];rfl)
        clear hxy HM
        go_wp2_with fail
        go_roundw
        case rel=>exact ⟨j + 1, HJt.out, by go_num, by rw [HM2.out], HY.out⟩
        case measure=>simp [intOf];try (have:=HJt.out;omega)
       ·obtain ⟨e4, n4⟩:=ne_facts hxy
        have HM2 : Hid (decide (x ∈ way.take (j + 1)) = false):=Lib.hid (by rw [HM.out, decide_eq_false hxy];rfl)
        clear hxy HM
        go_wp2_with fail
        go_roundw
        case rel=>exact ⟨j + 1, HJt.out, by go_num, by rw [HM2.out], HY.out⟩
        case measure=>simp [intOf];try (have:=HJt.out;omega)
      ·have HM2 : Hid (decide (x ∈ way.take (j + 1)) = true):=Lib.hid (by rw [HM.out];rfl)
       clear HM
       go_wp2_with fail
       go_roundw
       case rel=>exact ⟨j + 1, HJt.out, by go_num, by rw [HM2.out], HY.out⟩
       case measure=>simp [intOf];try (have:=HJt.out;omega)
     ·obtain rfl : j = way.length:=by omega
      have hsb : decide (x ∈ way.take way.length) = decide (x ∈ way):=by rw [List.take_length]
      clear hjt hj
      simp only [hsb]
      by_cases hxw : x ∈ way
      ·have HN1 : Hid (firstR fc (nx.drop (i + 1)) = res):=Lib.hid (by have:=HFn.out;rw [if_pos (HF0.out x hxw)] at this;exact this)
       have hxd : decide (x ∈ way) = true:=decide_eq_true hxw
       clear hsb hxw HFn
       simp only [hxd]
       go_wp2_with fail
       go_roundw
       case rel=>exact ⟨i + 1, HLt.out, by go_num, HN1.out, HY.out⟩
       case measure=>simp [intOf];try (have:=HLt.out;omega)
      ·have hxd : decide (x ∈ way) = false:=decide_eq_false hxw
       have HI:=Lib.hid (fun u' R' W=>HIH.out x u' R' W hxw)
       clear hsb hxw
       simp only [hxd]
       go_upto_region 20 with (fail)
       have HX0 : Hid (Hp w [.ob w.heap.size 25 (tbCells (.slice a t.held.length cap) (.slice a2 t.wait.length cap2)), .rd R9, .sl (.slice none 0 0) 3 1 0 []] wr):=HY.out.nil 3 1
       clear HY
       refine wp_region_held_drew (S:=fun w'=>w'.rangeAt w.heap.size 0 (tbCells (.slice a t.held.length cap) (.slice a2 t.wait.length cap2))) (by kernel_rfl) ((fun j v hv=>by rw [Nat.zero_add];exact ((HX0.out).drew).at 0 rfl j hv)) (fun hHeld=>?_)
       refine tk 0 qRfWt4_9 (some 61) (yieldsIf_load_mid (by rfl) 25 (.tmp 3) rfl w.heap.size (0) rfl (tbCells (.slice a t.held.length cap) (.slice a2 t.wait.length cap2)) _ (fun _ h=>h) HUT.out rfl (info_tb)) hHeld ?_
       try simp only [z0, z1, z2, z3]
       refine tk 1 qRfWt4_10 (some 62) (v:=.slice (some ⟨g2, off2, none⟩) way.length cap3) (Or.inl ⟨by rfl, ?q502h⟩) hHeld ?q502r
       case q502h=>(intro _ h;clear h;go_simp;try with_reducible rfl)
       try simp only [z0, z1, z2, z3]
       refine tk 3 qRfWt4_11 (some 64) (v:=?q503v) (Or.inl ⟨by rfl, ?q503h⟩) hHeld ?q503r
       case q503h=>(intro _ h;clear h;go_simp;try with_reducible rfl)
       try simp only [z0, z1, z2, z3]
       refine tk 6 qRfWt4_12 (some 67) (v:=?q504v) (Or.inl ⟨by rfl, ?q504h⟩) hHeld ?q504r
       case q504h=>(intro _ h;clear h;go_simp;try with_reducible rfl)
       try simp only [z0, z1, z2, z3]
       refine wpAnyH_ready (rs:=[2, 4]) (by kernel_rfl) (by simp) ?_
       refine AllReadyH.cons (o:=qRfWt4_13) rfl (fun K hK=>?_) (AllReadyH.cons (o:=qRfWt4_14) rfl (fun K hK=>?_) (AllReadyH.nil))
       ·rw [if_pos (by rfl)]
        refine wp_append_sl ((HX0.out).drew) (.const (.slice none 0 0)) (.tmp 62) 38 rfl 2 (v:=.slice none 0 0) (n:=0) (xs:=[]) rfl (xv:=.slice (some ⟨g2, off2, none⟩) way.length cap3) (m:=way.length) (ys:=intRow way) (R:=R2) HU.out (HR2.out.below ((HX0.out).drew).old) HUI.out elem_i rfl rfl (one_ir _) (by omega) ?_
        intro v5 w61 hs
        have hs2 : Hp w [.ob (w.heap.size) 25 (tbCells (.slice a t.held.length cap) (.slice a2 t.wait.length cap2)), .rd R9, .sl v5 3 1 (way.length) (intRow way)] w61:=by
         have h9:=hs
         simp only [Nat.zero_add, List.nil_append] at h9
         exact h9
        clear hs
        have HS61:=Lib.hid hs2
        refine hK.out _ _ ((fun j v hv=>by rw [Nat.zero_add];exact (HS61.out).at 0 rfl j hv)) (fun hHeld=>?_)
        clear hK K hs2
        try simp only [z0, z1, z2, z3]
        refine tn 4 qRfWt4_14 (fun K hK=>?_)
        rw [if_pos (by rfl)]
        refine wp_build_vals rfl elem_i HUI.out [.int .i64 x] (by intro v hv;simp only [List.mem_cons, List.not_mem_nil, or_false] at hv;subst hv;rfl) (Nat.succ_pos _) (by simp only [List.length_cons, List.length_nil];omega) rfl (by simp only [List.map_toArray, List.map_cons, List.map_nil, List.zipIdx_cons, List.zipIdx_nil];exact rfl) ?_
        have HS62 : Hid (Hp w [.ob (w.heap.size) 25 (tbCells (.slice a t.held.length cap) (.slice a2 t.wait.length cap2)), .rd R9, .sl v5 3 1 (way.length) (intRow way), .ob (w61.heap.size) 3 ([.int .i64 x])] (w61.alloc (.cells ([.int .i64 x]).toArray 3))):=(HS61.out).put 3 ([.int .i64 x])
        refine hK.out _ _ ((fun j v hv=>by rw [Nat.zero_add];exact (HS62.out).at 0 rfl j hv)) (fun hHeld=>?_)
        clear hK K
        generalize (w61.alloc (.cells ([.int .i64 x]).toArray 3)) = w62 at *
        generalize w61.heap.size = B61 at *
        try simp only [z0, z1, z2, z3]
        refine tn 5 qRfWt4_15 (fun K hK=>?_)
        rw [if_pos (by rfl)]
        refine wp_append_hp (HS62.out) (.tmp 63) (.tmp 65) 38 rfl 2 rfl 3 rfl HUI.out elem_i 1 1 rfl rfl rfl (one_i _) (by omega) ?_
        intro v63 w63 hs hnil
        have HS64:=Lib.hid hs
        refine hK.out _ _ ((fun j v hv=>by rw [Nat.zero_add];exact (HS64.out).at 0 rfl j hv)) (fun hHeld=>?_)
        clear hK K hs
        try simp only [z0, z1, z2, z3]
        refine tn 7 qRfWt4_16 (fun K hK=>?_)
        have HS65 : Hid (Hp w [.ob (w.heap.size) 25 (tbCells (.slice a t.held.length cap) (.slice a2 t.wait.length cap2)), .rd R9, .sl v63 3 1 (way.length + 1) ((intRow way) ++ ([.int .i64 x]))] w63):=HS64.out.pull [0, 1, 2] rfl (pull_nd HS64.out.nd [0, 1, 2] rfl (by decide))
        clear HS64
        have hz9:=int_snoc2 (A:=[.ob (w.heap.size) 25 (tbCells (.slice a t.held.length cap) (.slice a2 t.wait.length cap2)), .rd R9]) HS65.out
        obtain ⟨R7, h7, hn7, hs7⟩:=Hp.ownrd2 (A:=[.ob (w.heap.size) 25 (tbCells (.slice a t.held.length cap) (.slice a2 t.wait.length cap2)), .rd R9]) hz9
        have HR7:=Lib.hid h7
        have HN7:=Lib.hid hn7
        have HS7o:=Lib.hid hs7.old.size
        have HS7:=Lib.hid hs7
        clear h7 hn7 hs7 hz9 HS65
        go_simp
        go_wp2_with (go_at_call 37;refine (HI.out _ R7 _ HS7.out.old HR7.out (HS7.out.reads 2 rfl)).mono ?_;rintro e w64 ⟨v8, R8, rfl, hrd2, hin2, hnew2, hb⟩)
        obtain ⟨a8, c8, rfl, hl8, hm8, hg8⟩:=hrd2.cells
        have Hrd8:=Lib.hid hrd2
        have Hnw8:=Lib.hid hnew2
        have Hgc8:=Lib.hid hg8
        clear hg8
        have HS66 : Hid (Hp w [.ob (w.heap.size) 25 (tbCells (.slice a t.held.length cap) (.slice a2 t.wait.length cap2)), .rd R9, .rd R7, .rd R8] w64):=(HS7.out).addrd hb R8 hin2 (fun r hr=>(hnew2 r hr).elim .inl (fun h=>.inr ⟨.rd R7, List.mem_of_getElem? (i:=2) rfl, h⟩))
        refine hK.out _ _ ((fun j v hv=>by rw [Nat.zero_add];exact (HS66.out).at 0 rfl j hv)) (fun hHeld=>?_)
        clear hK K hb hin2 hrd2 hnew2
        try simp only [z0, z1, z2, z3]
        refine tk 8 qRfWt4_17 (some 15) (v:=?q505v) (Or.inl ⟨by rfl, ?q505h⟩) hHeld ?q505r
        case q505h=>(intro _ h;clear h;go_simp;try with_reducible rfl)
        try simp only [z0, z1, z2, z3]
        refine wpAnyH_done (by kernel_rfl) ?_ _
        clear hHeld HI
        have HOn : Hid (∀ r ∈ R8, w.heap.size ≤ r.1):=Lib.hid (fun r hr=>by
         rcases Hnw8.out r hr with h9 | h9
         ·exact Nat.le_trans HS7o.out h9
         ·obtain ⟨r2, hr2, e2⟩:=List.mem_map.1 h9
          rw [← e2];exact HN7.out r2 hr2)
        by_cases h9 : fc x = []
        ·have HN1 : Hid (firstR fc (nx.drop (i + 1)) = res):=Lib.hid (by have:=HFn.out;rw [if_pos h9] at this;exact this)
         have hl9 : ((fc x).length : Int) = 0:=by rw [h9];rfl
         have hd9 : decide ((0 : Int) < ((fc x).length : Int)) = false:=by rw [hl9];rfl
         clear h9 HFn
         have HYe : Hid (Hp w [.ob w.heap.size 25 (tbCells (.slice a t.held.length cap) (.slice a2 t.wait.length cap2)), .rd R9] w64):=HS66.out.pull [0, 1] rfl (pull_nd HS66.out.nd [0, 1] rfl (by decide))
         go_wp2_with fail
         go_roundw
         case rel=>exact ⟨i + 1, HLt.out, by go_num, HN1.out, HYe.out⟩
         case measure=>simp [intOf];try (have:=HLt.out;omega)
        ·have HN1 : Hid (fc x = res):=Lib.hid (by have:=HFn.out;rw [if_neg h9] at this;exact this)
         have hp9 : (0 : Int) < ((fc x).length : Int):=by have:=List.length_pos_iff.2 h9;omega
         have hd9 : decide ((0 : Int) < ((fc x).length : Int)) = true:=decide_eq_true hp9
         clear h9 HFn
         go_wp2_with fail
         go_ret
         rw [← HN1.out]
         exact ⟨_, R8, rfl, Hrd8.out, HS66.out.reads 3 rfl, fun r hr=>.inl (HOn.out r hr), HS66.out.old⟩
       ·rw [if_pos (by rfl)]
        refine wp_build_vals rfl elem_i HUI.out [.int .i64 x] (by intro v hv;simp only [List.mem_cons, List.not_mem_nil, or_false] at hv;subst hv;rfl) (Nat.succ_pos _) (by simp only [List.length_cons, List.length_nil];omega) rfl (by simp only [List.map_toArray, List.map_cons, List.map_nil, List.zipIdx_cons, List.zipIdx_nil];exact rfl) ?_
        have HS61 : Hid (Hp w [.ob (w.heap.size) 25 (tbCells (.slice a t.held.length cap) (.slice a2 t.wait.length cap2)), .rd R9, .sl ((.slice none 0 0)) 3 1 (0) ([]), .ob (wr.drew.heap.size) 3 ([.int .i64 x])] (wr.drew.alloc (.cells ([.int .i64 x]).toArray 3))):=((HX0.out).drew).put 3 ([.int .i64 x])
        refine hK.out _ _ ((fun j v hv=>by rw [Nat.zero_add];exact (HS61.out).at 0 rfl j hv)) (fun hHeld=>?_)
        clear hK K
        generalize (wr.drew.alloc (.cells ([.int .i64 x]).toArray 3)) = w61 at *
        generalize wr.drew.heap.size = B61 at *
        try simp only [z0, z1, z2, z3]
        refine tn 2 qRfWt4_13 (fun K hK=>?_)
        rw [if_pos (by rfl)]
        refine wp_append_sl (HS61.out) (.const (.slice none 0 0)) (.tmp 62) 38 rfl 2 (v:=.slice none 0 0) (n:=0) (xs:=[]) rfl (xv:=.slice (some ⟨g2, off2, none⟩) way.length cap3) (m:=way.length) (ys:=intRow way) (R:=R2) HU.out (HR2.out.below (HS61.out).old) HUI.out elem_i rfl rfl (one_ir _) (by omega) ?_
        intro v5 w62 hs
        have hs2 : Hp w [.ob (w.heap.size) 25 (tbCells (.slice a t.held.length cap) (.slice a2 t.wait.length cap2)), .rd R9, .sl v5 3 1 (way.length) (intRow way), .ob B61 3 ([.int .i64 x])] w62:=by
         have h9:=hs
         simp only [Nat.zero_add, List.nil_append] at h9
         exact h9
        clear hs
        have HS62:=Lib.hid hs2
        refine hK.out _ _ ((fun j v hv=>by rw [Nat.zero_add];exact (HS62.out).at 0 rfl j hv)) (fun hHeld=>?_)
        clear hK K hs2
        try simp only [z0, z1, z2, z3]
        refine tn 5 qRfWt4_15 (fun K hK=>?_)
        rw [if_pos (by rfl)]
        refine wp_append_hp (HS62.out) (.tmp 63) (.tmp 65) 38 rfl 2 rfl 3 rfl HUI.out elem_i 1 1 rfl rfl rfl (one_i _) (by omega) ?_
        intro v63 w63 hs hnil
        have HS64:=Lib.hid hs
        refine hK.out _ _ ((fun j v hv=>by rw [Nat.zero_add];exact (HS64.out).at 0 rfl j hv)) (fun hHeld=>?_)
        clear hK K hs
        try simp only [z0, z1, z2, z3]
        refine tn 7 qRfWt4_16 (fun K hK=>?_)
        have HS65 : Hid (Hp w [.ob (w.heap.size) 25 (tbCells (.slice a t.held.length cap) (.slice a2 t.wait.length cap2)), .rd R9, .sl v63 3 1 (way.length + 1) ((intRow way) ++ ([.int .i64 x]))] w63):=HS64.out.pull [0, 1, 2] rfl (pull_nd HS64.out.nd [0, 1, 2] rfl (by decide))
        clear HS64
        have hz9:=int_snoc2 (A:=[.ob (w.heap.size) 25 (tbCells (.slice a t.held.length cap) (.slice a2 t.wait.length cap2)), .rd R9]) HS65.out
        obtain ⟨R7, h7, hn7, hs7⟩:=Hp.ownrd2 (A:=[.ob (w.heap.size) 25 (tbCells (.slice a t.held.length cap) (.slice a2 t.wait.length cap2)), .rd R9]) hz9
        have HR7:=Lib.hid h7
        have HN7:=Lib.hid hn7
        have HS7o:=Lib.hid hs7.old.size
        have HS7:=Lib.hid hs7
        clear h7 hn7 hs7 hz9 HS65
        go_simp
        go_wp2_with (go_at_call 37;refine (HI.out _ R7 _ HS7.out.old HR7.out (HS7.out.reads 2 rfl)).mono ?_;rintro e w64 ⟨v8, R8, rfl, hrd2, hin2, hnew2, hb⟩)
        obtain ⟨a8, c8, rfl, hl8, hm8, hg8⟩:=hrd2.cells
        have Hrd8:=Lib.hid hrd2
        have Hnw8:=Lib.hid hnew2
        have Hgc8:=Lib.hid hg8
        clear hg8
        have HS66 : Hid (Hp w [.ob (w.heap.size) 25 (tbCells (.slice a t.held.length cap) (.slice a2 t.wait.length cap2)), .rd R9, .rd R7, .rd R8] w64):=(HS7.out).addrd hb R8 hin2 (fun r hr=>(hnew2 r hr).elim .inl (fun h=>.inr ⟨.rd R7, List.mem_of_getElem? (i:=2) rfl, h⟩))
        refine hK.out _ _ ((fun j v hv=>by rw [Nat.zero_add];exact (HS66.out).at 0 rfl j hv)) (fun hHeld=>?_)
        clear hK K hb hin2 hrd2 hnew2
        try simp only [z0, z1, z2, z3]
        refine tk 8 qRfWt4_17 (some 15) (v:=?q506v) (Or.inl ⟨by rfl, ?q506h⟩) hHeld ?q506r
        case q506h=>(intro _ h;clear h;go_simp;try with_reducible rfl)
        try simp only [z0, z1, z2, z3]
        refine wpAnyH_done (by kernel_rfl) ?_ _
        clear hHeld HI
        have HOn : Hid (∀ r ∈ R8, w.heap.size ≤ r.1):=Lib.hid (fun r hr=>by
         rcases Hnw8.out r hr with h9 | h9
         ·exact Nat.le_trans HS7o.out h9
         ·obtain ⟨r2, hr2, e2⟩:=List.mem_map.1 h9
          rw [← e2];exact HN7.out r2 hr2)
        by_cases h9 : fc x = []
        ·have HN1 : Hid (firstR fc (nx.drop (i + 1)) = res):=Lib.hid (by have:=HFn.out;rw [if_pos h9] at this;exact this)
         have hl9 : ((fc x).length : Int) = 0:=by rw [h9];rfl
         have hd9 : decide ((0 : Int) < ((fc x).length : Int)) = false:=by rw [hl9];rfl
         clear h9 HFn
         have HYe : Hid (Hp w [.ob w.heap.size 25 (tbCells (.slice a t.held.length cap) (.slice a2 t.wait.length cap2)), .rd R9] w64):=HS66.out.pull [0, 1] rfl (pull_nd HS66.out.nd [0, 1] rfl (by decide))
         go_wp2_with fail
         go_roundw
         case rel=>exact ⟨i + 1, HLt.out, by go_num, HN1.out, HYe.out⟩
         case measure=>simp [intOf];try (have:=HLt.out;omega)
        ·have HN1 : Hid (fc x = res):=Lib.hid (by have:=HFn.out;rw [if_neg h9] at this;exact this)
         have hp9 : (0 : Int) < ((fc x).length : Int):=by have:=List.length_pos_iff.2 h9;omega
         have hd9 : decide ((0 : Int) < ((fc x).length : Int)) = true:=decide_eq_true hp9
         clear h9 HFn
         go_wp2_with fail
         go_ret
         rw [← HN1.out]
         exact ⟨_, R8, rfl, Hrd8.out, HS66.out.reads 3 rfl, fun r hr=>.inl (HOn.out r hr), HS66.out.old⟩
   ·obtain rfl : i = nx.length:=by omega
    have HE : Hid (res = []):=Lib.hid (by rw [← HFi.out, List.drop_length];rfl)
    clear hlt hi HFi
    go_wp2_with fail
    go_ret
    rw [HE.out]
    exact int_none2 HY.out.old
end Go.Proofs.Ytooaldglgkjjgaa
/- the reference's Edges of chapter 9 -/
namespace Go.Proofs.Ytooaldglgkjjgaa
open Go.RowKit
open Go.Act renaming put → z0
open List renaming setIfInBounds_toArray → z1, set_cons_zero → z2, set_cons_succ → z3
set_option maxRecDepth 20000
set_option linter.unusedSimpArgs false
set_option linter.unusedVariables false

def edgeCells (e : Int × Int) : List Value:=[.int .i64 e.1, .int .i64 e.2]
def edgeRow (l : List (Int × Int)) : List Value:=l.flatMap edgeCells
theorem elem_eg : ElemIs 37 2 16:=elem_of (z:=.agg (edgeCells (0, 0)).toArray) (by kernel_rfl) rfl (by decide) (by decide) (by decide)
theorem build_eg (x y : Int) (W : World) : Sem.run Try.prog (Instr.build 37 #[(0, .int .i64 x), (1, .int .i64 y)]) W = .ok (.agg (edgeCells (x, y)).toArray) W:=by kernel_rfl
theorem one_eg (e : Int × Int) : ∀ u ∈ edgeCells e, u.oneCell' = true:=fun u hu=>by
 simp only [edgeCells, List.mem_cons, List.not_mem_nil, or_false] at hu
 rcases hu with rfl | rfl <;> rfl
/-- a list of pairs, handed back -/
def EdgePost (w : World) (l : List (Int × Int)) (e : Ending) (w' : World) : Prop:=∃ v R, e = .returned v ∧ SlRd v 2 l.length (edgeRow l) R ∧ RdIn w' R ∧ (∀ r ∈ R, w.heap.size ≤ r.1) ∧ Below w.heap.size w w'
theorem edge_hand {w W : World} {v : Value} {l : List (Int × Int)} (h : W.ownsRow w.heap.size 37 2 v l.length (edgeRow l)) (hb : Below w.heap.size w W) : EdgePost w l (.returned v) W:=by
 obtain ⟨R, h1, h2, h3⟩:=own_reads h
 exact ⟨v, R, rfl, h1, h2, fun r hr=>(h3 r hr).1, hb⟩
theorem edge_snoc {w W : World} {A : List Th} {v : Value} {l : List (Int × Int)} {x : Int × Int} (h : Hp w (A ++ [.sl v 37 2 (l.length + 1) (edgeRow l ++ edgeCells x)]) W) : Hp w (A ++ [.sl v 37 2 (l ++ [x]).length (edgeRow (l ++ [x]))]) W:=by
 have e : edgeRow (l ++ [x]) = edgeRow l ++ edgeCells x:=by unfold edgeRow;rw [List.flatMap_append, List.flatMap_cons, List.flatMap_nil, List.append_nil]
 rw [e, List.length_append];exact h
theorem waiters_few (t : Tb) : (waitersR t).length ≤ 1024:=by
 unfold waitersR waitersL
 split
 ·next h =>
  have h1:=waitersFold_len t.wait []
  have h2:=(tbOkB_iff.1 h).few
  simp only [List.length_nil] at h1
  omega
 ·exact Nat.zero_le _
theorem for_few (t : Tb) (tx : Int) : (forR t tx).length ≤ 1024:=by
 unfold forR
 split
 ·next h =>
  have hb : tbOkB t = true:=by
   unfold waitR at h
   split at h
   ·assumption
   ·cases h
  have h1:=forFold_len (waitR t tx).1 (t.wait.takeWhile (fun x=>!decide (x.tx = tx))) (t.held.foldl (forStep (waitR t tx).1) [])
  have h2:=forFold_len (waitR t tx).1 t.held []
  have h3:=(List.takeWhile_sublist (fun x : Gr=>!decide (x.tx = tx)) (l:=t.wait)).length_le
  have h4:=(tbOkB_iff.1 hb).few
  simp only [List.length_nil] at h2
  omega
 ·exact Nat.zero_le _
set_option maxHeartbeats 16000000 in
theorem redges_any {h v : Value} {t : Tb} {R : List Rng} (w : World) (ht : TbRd h v t R) (hR : RdIn w R) (hg : GoodTb t) :
  Calls Try.prog 10 #[.agg (tbCells h v).toArray] w (EdgePost w (edgesR t)):=by
 obtain ⟨ws, hws⟩ : ∃ ws, waitersR t = ws:=⟨_, rfl⟩
 have HWl : Hid (ws.length ≤ 1024):=Lib.hid (by rw [← hws];exact waiters_few t)
 have HWs : Hid (∀ W, Below w.heap.size w W → Calls Try.prog 32 #[.agg (tbCells h v).toArray] W (IntsPost W ws)):=fun W hb=>by
  have:=rwaiters_any W ht (hR.below hb) hg
  rwa [hws] at this
 obtain ⟨ff, hff⟩ : ∃ ff, forR t = ff:=⟨_, rfl⟩
 have HFl : Hid (∀ x, (ff x).length ≤ 1024):=fun x=>by rw [← hff];exact for_few t x
 have HFr : Hid (∀ x W, Below w.heap.size w W → Calls Try.prog 13 #[.agg (tbCells h v).toArray, .int .i64 x] W (IntsPost W (ff x))):=fun x W hb=>by
  have:=rfor_any x W ht (hR.below hb) hg
  rwa [hff] at this
 have HE : Hid (edgesR t = ws.flatMap fun x=>(ff x).map fun y=>(x, y)):=Lib.hid (by unfold edgesR;rw [hws, hff])
 obtain ⟨a, cap, rfl, hnc, hcm⟩:=ht.1.shape
 obtain ⟨a2, cap2, rfl, hnc2, hcm2⟩:=ht.2.shape
 have HUX : Hid (Try.prog.underlying 35 = some (.slice 37)):=Try.underlying35
 have hws2 : (ws.length : Int) ≤ 1024:=by have:=HWl.out;omega
 clear hR hws hff ht hg
 generalize edgesR t = res at *
 have h1:=(Hp.start w).put 25 (tbCells (.slice a t.held.length cap) (.slice a2 t.wait.length cap2))
 simp only [List.nil_append] at h1
 have HS0 : Hid (Hp w [.ob w.heap.size 25 (tbCells (.slice a t.held.length cap) (.slice a2 t.wait.length cap2))] (w.alloc (.cells (tbCells (.slice a t.held.length cap) (.slice a2 t.wait.length cap2)).toArray 25))):=h1
 clear h1
 obtain ⟨fsHUG, huHUG⟩:=under_gr
 have HUG:=Lib.hid huHUG
 clear huHUG
 obtain ⟨fsHUK, huHUK⟩:=under_lk
 have HUK:=Lib.hid huHUK
 clear huHUK
 obtain ⟨fsHUT, huHUT⟩:=under_tb
 have HUT:=Lib.hid huHUT
 clear huHUT
 go_enter Try.func10, Try.ntmps10
 go_upto_region 1 with (fail)
 generalize (w.alloc (.cells (tbCells (.slice a t.held.length cap) (.slice a2 t.wait.length cap2)).toArray 25)) = w1 at *
 go_upto_region 2 with (fail)
 go_wp2_with (first | ((with_reducible refine wpList_load_ob 25 (.tmp 1) (w.heap.size) (tbCells (.slice a t.held.length cap) (.slice a2 t.wait.length cap2)) 25 HUT.out ?_ ?_ ?_ ?_ ?_);(exact rfl);(exact (HS0.out).get 0 rfl);(exact rfl);(exact info_tb);simp only [z0, z1, z2, z3]))
 refine (HWs.out _ (HS0.out).old).mono ?_
 rintro e w21 ⟨v9, R9, rfl, hrd2, hin2, hnew2, hb⟩
 obtain ⟨a9, c9, rfl, hl9, hm9, hg9⟩:=hrd2.cells
 have Hrd9:=Lib.hid hrd2
 have Hnw9:=Lib.hid hnew2
 have Hgc9:=Lib.hid hg9
 clear hg9
 have HS21 : Hid (Hp w [.ob (w.heap.size) 25 (tbCells (.slice a t.held.length cap) (.slice a2 t.wait.length cap2)), .rd R9] w21):=(HS0.out).addrd hb R9 hin2 (fun r hr=>.inl (hnew2 r hr))
 clear hb hin2 hrd2 hnew2
 clear HS0
 have HX0:=Lib.hid (HS21.out.nil 37 2)
 go_wp2_with fail
 generalize w21 = w5 at *
 clear HS21
 go_loopw [3, 11] (fun ov iv wr=>∃ (i : Nat) (acc : List (Int × Int)), i ≤ ws.length ∧ iv = .int .i64 i ∧ acc.length ≤ i * 1024 ∧ acc ++ (ws.drop i).flatMap (fun x=>(ff x).map fun y=>(x, y)) = res ∧ Hp w [.ob w.heap.size 25 (tbCells (.slice a t.held.length cap) (.slice a2 t.wait.length cap2)), .rd R9, .sl ov 37 2 acc.length (edgeRow acc)] wr) (fun _ iv _=>ws.length - (intOf iv).toNat)
 case atStart=>exact ⟨0, [], by omega, rfl, by simp, by rw [List.nil_append, List.drop_zero, HE.out], HX0.out⟩
 case round =>
  clear HX0
  obtain ⟨i, acc, hi, rfl, hal, hac, hs⟩:=hrel
  have HY:=Lib.hid hs
  have HAl:=Lib.hid hal
  have HAc:=Lib.hid hac
  clear hs hal hac
  by_cases hlt : i < ws.length
  ·obtain ⟨g0, off, rfl, hc0⟩:=Hgc9.out (by omega)
   obtain ⟨x, hx⟩ : ∃ x, ws[i]? = some x:=⟨_, List.getElem?_eq_getElem hlt⟩
   have c0 : wr.cell? ⟨g0, off + i, none⟩ = some (.int .i64 x):=hc0 wr (HY.out.reads 1 rfl) i x hx
   have hii : (i : Int) < (ws.length : Int):=by omega
   have hi0 : (0 : Int) ≤ (i : Int):=by omega
   have HLt:=Lib.hid hlt
   have HAn : Hid (acc ++ ((ff x).map (fun y=>(x, y)) ++ (ws.drop (i + 1)).flatMap (fun x=>(ff x).map fun y=>(x, y))) = res):=Lib.hid (by
    obtain ⟨h8, h9⟩:=List.getElem?_eq_some_iff.1 hx
    have:=HAc.out
    rw [List.drop_eq_getElem_cons h8, h9, List.flatMap_cons] at this
    exact this)
   clear hc0 hi hlt hx HAc Hgc9
   go_upto_region 5 with (fail)
   clear c0
   go_wp2_with (first | ((with_reducible refine wpList_load_ob 25 (.tmp 1) (w.heap.size) (tbCells (.slice a t.held.length cap) (.slice a2 t.wait.length cap2)) 25 HUT.out ?_ ?_ ?_ ?_ ?_);(exact rfl);(exact (HY.out).get 0 rfl);(exact rfl);(exact info_tb);simp only [z0, z1, z2, z3]))
   refine (HFr.out x _ (HY.out).old).mono ?_
   rintro e w41 ⟨v8, R8, rfl, hrd2, hin2, hnew2, hb⟩
   obtain ⟨a8, c8, rfl, hl8, hm8, hg8⟩:=hrd2.cells
   have Hrd8:=Lib.hid hrd2
   have Hnw8:=Lib.hid hnew2
   have Hgc8:=Lib.hid hg8
   clear hg8
   have HS41 : Hid (Hp w [.ob (w.heap.size) 25 (tbCells (.slice a t.held.length cap) (.slice a2 t.wait.length cap2)), .rd R9, .sl u3 37 2 (acc.length) (edgeRow acc), .rd R8] w41):=(HY.out).addrd hb R8 hin2 (fun r hr=>.inl (hnew2 r hr))
   clear hb hin2 hrd2 hnew2
   clear HY
   obtain ⟨nx, hnx⟩ : ∃ nx, ff x = nx:=⟨_, rfl⟩
   have HNl : Hid (nx.length ≤ 1024):=Lib.hid (by rw [← hnx];exact HFl.out x)
   have hnl : (nx.length : Int) ≤ 1024:=by have:=HNl.out;omega
   simp only [hnx] at *
   clear hnx
   go_wp2_with fail
   generalize w41 = w6 at *
   go_loopw [3, 19] (fun ov jv wr=>∃ (j : Nat) (ac : List (Int × Int)), j ≤ nx.length ∧ jv = .int .i64 j ∧ ac = acc ++ (nx.take j).map (fun y=>(x, y)) ∧ Hp w [.ob w.heap.size 25 (tbCells (.slice a t.held.length cap) (.slice a2 t.wait.length cap2)), .rd R9, .sl ov 37 2 ac.length (edgeRow ac), .rd R8] wr) (fun _ jv _=>nx.length - (intOf jv).toNat)
   case atStart=>exact ⟨0, acc, by omega, rfl, by simp, HS41.out⟩
   case round =>
    clear HS41
    obtain ⟨j, ac, hj, rfl, hac, hs⟩:=hrel
    have HY:=Lib.hid hs
    have HAc:=Lib.hid hac
    clear hs hac
    by_cases hjt : j < nx.length
    ·obtain ⟨g1, off1, rfl, hc1⟩:=Hgc8.out (by omega)
     obtain ⟨y, hy⟩ : ∃ y, nx[j]? = some y:=⟨_, List.getElem?_eq_getElem hjt⟩
     have c1 : wr.cell? ⟨g1, off1 + j, none⟩ = some (.int .i64 y):=hc1 wr (HY.out.reads 3 rfl) j y hy
     have hji : (j : Int) < (nx.length : Int):=by omega
     have hj0 : (0 : Int) ≤ (j : Int):=by omega
     have HJt:=Lib.hid hjt
     have HLa : Hid (ac.length + 1 ≤ 1048576):=Lib.hid (by
      have h1:=HAl.out;have h2:=HWl.out;have h3:=HLt.out;have h4:=HNl.out
      rw [HAc.out, List.length_append, List.length_map, List.length_take]
      omega)
     have HAn2 : Hid (ac ++ [(x, y)] = acc ++ (nx.take (j + 1)).map (fun y=>(x, y))):=Lib.hid (by
      obtain ⟨h8, h9⟩:=List.getElem?_eq_some_iff.1 hy
      rw [HAc.out, List.take_succ_eq_append_getElem h8, h9, List.map_append, List.append_assoc];rfl)
     clear hc1 hj hjt hy HAc Hgc8
     go_upto_region 8 with (fail)
     clear c1
     go_wp2_with (first | ((with_reducible refine wpList_build_v (d:=some 26) 37 (.agg (edgeCells (x, y)).toArray) ?_ ?_);(intro W;simp only [List.map_toArray, List.map_cons, List.map_nil];exact build_eg x y W);simp only [z0, z1, z2, z3]) | ((with_reducible refine wpList_build_obs 35 1 elem_eg HUX.out [edgeCells (x, y)] ?_ ?_ ?_ ?_ ?_ ?_);(exact (List.forall_mem_cons.2 ⟨rfl, (fun _ h=>absurd h List.not_mem_nil)⟩));(exact Nat.succ_pos _);(simp only [List.length_cons, List.length_nil];omega);(exact rfl);(simp only [List.map_toArray, List.map_cons, List.map_nil, List.zipIdx_cons, List.zipIdx_nil];exact rfl);simp only [z0, z1, z2, z3]) | ((with_reducible refine wpList_append_hp ((HY.out).put 37 (([edgeCells (x, y)] : List (List Value)).flatMap id)) (.tmp 23) (.tmp 27) 35 2 (v:=u3) (e:=37) (z:=2) (n:=ac.length) (xs:=edgeRow ac) ?_ 4 (b:=(wr.heap.size)) (t':=37) (ys:=([edgeCells (x, y)] : List (List Value)).flatMap id) ?_ HUX.out elem_eg 1 1 ?_ ?_ ?_ ?_ ?_ ?_);(exact rfl);(exact rfl);(exact rfl);(exact rfl);(exact rfl);(exact (by intro u hu;simp only [List.flatMap_cons, List.flatMap_nil, List.append_nil, id] at hu;exact one_eg _ u hu));(exact HLa.out)))
     intro v61 w61 hs hnil
     have HS62:=Lib.hid hs
     clear hs
     clear HY
     generalize wr.heap.size = B61 at *
     have HS63 : Hid (Hp w [.ob (w.heap.size) 25 (tbCells (.slice a t.held.length cap) (.slice a2 t.wait.length cap2)), .rd R9, .sl v61 37 2 (ac.length + 1) ((edgeRow ac) ++ (([edgeCells (x, y)] : List (List Value)).flatMap id)), .rd R8, .ob B61 37 (([edgeCells (x, y)] : List (List Value)).flatMap id)] w61):=HS62.out
     clear HS62
     have HS64 : Hid (Hp w [.ob (w.heap.size) 25 (tbCells (.slice a t.held.length cap) (.slice a2 t.wait.length cap2)), .rd R9, .rd R8, .sl v61 37 2 (ac.length + 1) ((edgeRow ac) ++ (([edgeCells (x, y)] : List (List Value)).flatMap id))] w61):=HS63.out.pull [0, 1, 3, 2] rfl (pull_nd HS63.out.nd [0, 1, 3, 2] rfl (by decide))
     clear HS63
     have HZ9:=Lib.hid (edge_snoc (A:=[.ob (w.heap.size) 25 (tbCells (.slice a t.held.length cap) (.slice a2 t.wait.length cap2)), .rd R9, .rd R8]) HS64.out)
     have HZ8 : Hid (Hp w [.ob w.heap.size 25 (tbCells (.slice a t.held.length cap) (.slice a2 t.wait.length cap2)), .rd R9, .sl v61 37 2 (ac ++ [(x, y)]).length (edgeRow (ac ++ [(x, y)])), .rd R8] w61):=HZ9.out.pull [0, 1, 3, 2] rfl (pull_nd HZ9.out.nd [0, 1, 3, 2] rfl (by decide))
     go_wp2_with fail
     go_roundw
     case rel=>exact ⟨j + 1, ac ++ [(x, y)], HJt.out, by go_num, HAn2.out, HZ8.out⟩
     case measure=>simp [intOf];try (have:=HJt.out;omega)
    ·obtain rfl : j = nx.length:=by omega
     have HAe : Hid (ac = acc ++ nx.map (fun y=>(x, y))):=Lib.hid (by have:=HAc.out;rwa [List.take_length] at this)
     clear hjt hj HAc
     have HYe : Hid (Hp w [.ob w.heap.size 25 (tbCells (.slice a t.held.length cap) (.slice a2 t.wait.length cap2)), .rd R9, .sl u3 37 2 ac.length (edgeRow ac)] wr):=HY.out.pull [0, 1, 2] rfl (pull_nd HY.out.nd [0, 1, 2] rfl (by decide))
     go_wp2_with fail
     go_roundw
     case rel =>
      refine ⟨i + 1, ac, HLt.out, by go_num, ?_, ?_, HYe.out⟩
      ·have h1:=HAl.out;have h4:=HNl.out
       rw [HAe.out, List.length_append, List.length_map];omega
      ·have:=HAn.out
       rw [HAe.out, List.append_assoc];exact this
     case measure=>simp [intOf];try (have:=HLt.out;omega)
  ·obtain rfl : i = ws.length:=by omega
   have HE2 : Hid (res = acc):=Lib.hid (by rw [← HAc.out, List.drop_length, List.flatMap_nil, List.append_nil])
   clear hlt hi HAc
   go_wp2_with fail
   go_ret
   rw [HE2.out]
   exact edge_hand (HY.out.own 2 rfl) HY.out.old
end Go.Proofs.Ytooaldglgkjjgaa
/- the program's awaited (waits) -/
namespace Go.Proofs.Ytooaldglgkjjgaa
open Go.RowKit
open Go.Act renaming put → z0
open List renaming setIfInBounds_toArray → z1, set_cons_zero → z2, set_cons_succ → z3
set_option maxRecDepth 20000
set_option linter.unusedSimpArgs false
set_option linter.unusedVariables false

theorem elem_gs : ElemIs 23 1 24:=elem_of (z:=.slice none 0 0) (by kernel_rfl) rfl (by decide) (by decide) (by decide)
theorem ob_rdin {w W : World} {L : List Th} (h : Hp w L W) (i : Nat) {b : Nat} {t : TypeId} {cs : List Value} (e : L[i]? = some (.ob b t cs)) : RdIn W [(b, 0, cs)]:=fun r hr=>by
 obtain rfl:=List.mem_singleton.1 hr
 have hg:=h.get i e
 refine ⟨(Array.getElem?_eq_some_iff.1 hg).1, fun j u hu=>?_⟩
 rw [Nat.zero_add, cell_of_row W b j _ _ _ hg, List.getElem?_toArray];exact hu
def preL (h m : List Gr) : Nat → List Gr
 | 0=>[]
 | 1=>h
 | _=>h ++ m
theorem int_snoc {w W : World} {A : List Th} {v : Value} {l : List Int} {x : Int} (h : Hp w (A ++ [.sl v 3 1 (l.length + 1) (intRow l ++ [.int .i64 x])]) W) : Hp w (A ++ [.sl v 3 1 (l ++ [x]).length (intRow (l ++ [x]))]) W:=by
 have e : intRow (l ++ [x]) = intRow l ++ [.int .i64 x]:=by unfold intRow;rw [List.map_append];rfl
 rw [e, List.length_append];exact h
abbrev qPw2_0 : Oper:={ dst:=some 17, op:=Op.fieldAddr 25 (Operand.tmp 2) 0, type:=0, pos := "waits.go:22", after:=#[], guard:=none }
abbrev qPw2_1 : Oper:={ dst:=some 18, op:=Op.load 23 (Operand.tmp 17), type:=23, pos := "waits.go:22", after:=#[{ on:=0, ground:=Ground.data }], guard:=none }
abbrev qPw2_2 : Oper:={ dst:=some 19, op:=Op.fieldAddr 25 (Operand.tmp 2) 1, type:=0, pos := "waits.go:22", after:=#[], guard:=none }
abbrev qPw2_3 : Oper:={ dst:=some 20, op:=Op.load 23 (Operand.tmp 19), type:=23, pos := "waits.go:22", after:=#[{ on:=2, ground:=Ground.data }], guard:=none }
abbrev qPw2_4 : Oper:={ dst:=some 21, op:=Op.move (Operand.tmp 5), type:=3, pos := "waits.go:22", after:=#[], guard:=none }
abbrev qPw2_5 : Oper:={ dst:=some 22, op:=Op.slice 23 (Operand.tmp 20) none (some (Operand.tmp 21)) none, type:=23, pos := "waits.go:22", after:=#[{ on:=3, ground:=Ground.data }, { on:=4, ground:=Ground.data }], guard:=none }
abbrev qPw2_6 : Oper:={ dst:=some 25, op:=Op.move (Operand.const (Value.int IntKind.i64 0)), type:=3, pos := "waits.go:22", after:=#[], guard:=none }
abbrev qPw2_7 : Oper:={ dst:=some 23, op:=Op.buildSlice 83 2 #[(0, Operand.tmp 18), (1, Operand.tmp 22)], type:=83, pos := "waits.go:22", after:=#[{ on:=1, ground:=Ground.data }, { on:=5, ground:=Ground.data }], guard:=none }
abbrev qPw2_8 : Oper:={ dst:=some 24, op:=Op.call { callee:=Callee.builtin Builtin.len, args:=#[Operand.tmp 23], argTypes:=#[83] }, type:=3, pos := "waits.go:22", after:=#[{ on:=6, ground:=Ground.data }], guard:=none }
abbrev qPw2_9 : Oper:={ dst:=some 35, op:=Op.load 29 (Operand.tmp 10), type:=29, pos := "waits.go:24", after:=#[], guard:=none }
abbrev qPw2_10 : Oper:={ dst:=some 36, op:=Op.fieldAddr 25 (Operand.tmp 2) 1, type:=0, pos := "waits.go:24", after:=#[], guard:=none }
abbrev qPw2_11 : Oper:={ dst:=some 37, op:=Op.load 23 (Operand.tmp 36), type:=23, pos := "waits.go:24", after:=#[{ on:=1, ground:=Ground.data }], guard:=none }
abbrev qPw2_12 : Oper:={ dst:=some 38, op:=Op.move (Operand.tmp 5), type:=3, pos := "waits.go:24", after:=#[], guard:=none }
abbrev qPw2_13 : Oper:={ dst:=some 39, op:=Op.indexAddr 23 (Operand.tmp 37) (Operand.tmp 38), type:=0, pos := "waits.go:24", after:=#[{ on:=2, ground:=Ground.data }, { on:=3, ground:=Ground.data }], guard:=none }
abbrev qPw2_14 : Oper:={ dst:=some 40, op:=Op.load 29 (Operand.tmp 39), type:=29, pos := "waits.go:24", after:=#[{ on:=4, ground:=Ground.data }], guard:=none }
abbrev qPw2_15 : Oper:={ dst:=some 41, op:=Op.call { callee:=Callee.value (Operand.func 61), args:=#[Operand.tmp 35, Operand.tmp 40], argTypes:=#[29, 29] }, type:=4, pos := "waits.go:24", after:=#[{ on:=0, ground:=Ground.data }, { on:=5, ground:=Ground.data }], guard:=none }
set_option maxHeartbeats 16000000 in
theorem pawait_any {h v : Value} {t : Tb} {R : List Rng} (tx : Int) (w : World) (ht : TbRd h v t R) (hR : RdIn w R) (hg : GoodTb t) (hok : tbOkB t = true) :
  Calls Try.prog 31 #[.agg (tbCells h v).toArray, .int .i64 tx] w (IntsPost w (forR t tx)):=by
 obtain ⟨a, cap, rfl, hnc, hcm⟩:=ht.1.shape
 obtain ⟨a2, cap2, rfl, hnc2, hcm2⟩:=ht.2.shape
 have HIx : Hid (∀ b W, Below w.heap.size w W → RdIn W [(b, 0, [.int .i64 tx])] → Calls Try.prog 59 #[.slice a2 t.wait.length cap2, .func (.func 60) #[] #[.pointer (some ⟨b, 0, none⟩)]] W fun e w'=>e = .returned (.int .i64 (idxR (fun x : Gr=>decide (x.tx = tx)) t.wait)) ∧ Below W.heap.size W w'):=fun b W hb hr=>idxGr_any _ _ _ t.wait _ R W eg_aw ((aw_at tx b t.wait).fn hr) ht.2 (hR.below hb) (by have:=hg.few;omega)
 have HWf:=Lib.hid (await_idx (tx:=tx) hok)
 have HFew : Hid (t.held.length ≤ 100000 ∧ t.wait.length ≤ 100000):=Lib.hid hg.few
 have HGe:=Lib.hid hg.held
 have HGw:=Lib.hid hg.wait
 have HHd:=Lib.hid ht.1
 have HWd:=Lib.hid ht.2
 have HR0:=Lib.hid hR
 have h1:=((Hp.start w).put 25 (tbCells (.slice a t.held.length cap) (.slice a2 t.wait.length cap2))).put 3 [.int .i64 tx]
 simp only [World.size_alloc, List.nil_append, List.cons_append] at h1
 have HS0 : Hid (Hp w [.ob w.heap.size 25 (tbCells (.slice a t.held.length cap) (.slice a2 t.wait.length cap2)), .ob (w.heap.size + 1) 3 [.int .i64 tx]] ((w.alloc (.cells (tbCells (.slice a t.held.length cap) (.slice a2 t.wait.length cap2)).toArray 25)).alloc (.cells #[.int .i64 tx] 3))):=h1
 have hfew:=hg.few
 have hw1 : (t.wait.length : Int) ≤ 100000:=by omega
 have HCap : Hid (t.wait.length ≤ cap2):=hnc2
 clear h1 ht hR hg hok hfew hnc hcm hnc2 hcm2
 obtain ⟨fsHUG, huHUG⟩:=under_gr
 have HUG:=Lib.hid huHUG
 clear huHUG
 obtain ⟨fsHUT, huHUT⟩:=under_tb
 have HUT:=Lib.hid huHUT
 clear huHUT
 have HUS : Hid (Try.prog.underlying 83 = some (.slice 23)):=Try.underlying83
 have HUI : Hid (Try.prog.underlying 38 = some (.slice 3)):=Try.underlying38
 generalize idxR (fun x : Gr=>decide (x.tx = tx)) t.wait = ix at *
 generalize forR t tx = res at *
 go_enter Try.func31, Try.ntmps31
 go_upto_region 1 with (fail)
 generalize ((w.alloc (.cells (tbCells (.slice a t.held.length cap) (.slice a2 t.wait.length cap2)).toArray 25)).alloc (.cells #[.int .i64 tx] 3)) = w1 at *
 generalize w.heap.size + 1 = b9 at *
 have b1 : w1.cell? ⟨w.heap.size, 1, none⟩ = some (.slice a2 t.wait.length cap2):=HS0.out.at 0 rfl 1 rfl
 go_wp2_with fail
 refine (HIx.out b9 _ (HS0.out).old (ob_rdin HS0.out 1 rfl)).mono ?_
 rintro e w21 ⟨rfl, hb⟩
 have HS21:=Lib.hid ((HS0.out).calls hb)
 clear hb
 clear HS0
 clear b1 HIx
 rcases HWf.out with ⟨hix, hres⟩ | ⟨k, x, hk, hx, hix, hres⟩
 ·subst hix
  subst hres
  clear HWf
  go_wp2_with fail
  go_ret
  exact int_none HS21.out.old
 subst hix
 have HK:=Lib.hid hk
 have HX:=Lib.hid hx
 have HRes:=Lib.hid hres
 have HGx : Hid (GoodGr x):=HGw.out x (List.mem_of_getElem? hx)
 have hk0 : (0 : Int) ≤ (k : Int):=by omega
 have hki : (k : Int) < (t.wait.length : Int):=by omega
 have hkl : (k : Int) ≤ (t.wait.length : Int):=by omega
 have hkc : (k : Int) ≤ (cap2 : Int):=by have:=HCap.out;omega
 have hlt0 : decide ((k : Int) < 0) = false:=decide_eq_false (by omega)
 obtain ⟨g2, off2, rfl, hr2⟩:=HWd.out.base (by omega)
 have HRg2 : Hid (∀ W, Below w.heap.size w W → W.rangeAt g2 (off2 + k * 4) (grCells x)):=fun W hb=>elem_rng (hr2 W (HR0.out.below hb)) hx
 obtain ⟨R2, htk, htk2, htk3⟩:=gr_take HWd.out k (by omega)
 have HTk : Hid (GrRd (.slice (some ⟨g2, off2, none⟩) (t.wait.take k).length cap2) (t.wait.take k) R2):=Lib.hid (by
  have : (t.wait.take k).length = k:=by rw [List.length_take];omega
  rw [this];exact htk)
 have HTk2:=Lib.hid htk2
 have HLs : Hid (∀ j, j < 2 → ∃ (l : List Gr) (la : Option Addr) (lc : Nat), ([.slice a t.held.length cap, .slice (some ⟨g2, off2, none⟩) k cap2] : List Value)[j]? = some (.slice la l.length lc) ∧ (∃ R', GrRd (.slice la l.length lc) l R' ∧ ∀ W, Below w.heap.size w W → RdIn W R') ∧ inWay x (preL t.held (t.wait.take k) (j + 1)) = inWay x (preL t.held (t.wait.take k) j) ++ inWay x l ∧ (∀ y ∈ l, GoodGr y) ∧ l.length ≤ 100000):=by
  have hlk : (t.wait.take k).length = k:=by rw [List.length_take];omega
  intro j hj
  rcases (show j = 0 ∨ j = 1 by omega) with rfl | rfl
  ·exact ⟨t.held, a, cap, rfl, ⟨R, HHd.out, fun W hb=>HR0.out.below hb⟩, rfl, HGe.out, HFew.out.1⟩
  ·exact ⟨t.wait.take k, some ⟨g2, off2, none⟩, cap2, by rw [hlk];rfl, ⟨R2, HTk.out, fun W hb=>HTk2.out W (HR0.out.below hb)⟩, inWay_append x t.held (t.wait.take k), fun y hy=>HGw.out y (List.mem_of_mem_take hy), by have:=HFew.out;omega⟩
 clear hk hx hres hr2 htk htk2 htk3 HWf HTk HTk2
 go_upto_region 5 with (fail)
 clear hlt0
 refine wp_region_held_drew (S:=fun w'=>w'.rangeAt w.heap.size 0 (tbCells (.slice a t.held.length cap) (.slice (some ⟨g2, off2, none⟩) t.wait.length cap2))) (by kernel_rfl) ((fun j v hv=>by rw [Nat.zero_add];exact ((HS21.out).drew).at 0 rfl j hv)) (fun hHeld=>?_)
 refine tk 0 qPw2_0 (some 17) (v:=?q1v) (Or.inl ⟨by rfl, ?q1h⟩) hHeld ?q1r
 case q1h=>(intro _ h;clear h;go_simp;try with_reducible rfl)
 try simp only [z0, z1, z2, z3]
 refine tk 1 qPw2_1 (some 18) (v:=.slice a t.held.length cap) (Or.inl ⟨by rfl, ?q2h⟩) hHeld ?q2r
 case q2h=>(intro wq hSw;have lq:=(hSw) 0 (.slice a t.held.length cap) rfl;simp only [Nat.zero_add] at lq;clear hSw;go_simp;try with_reducible rfl)
 try simp only [z0, z1, z2, z3]
 refine tk 2 qPw2_2 (some 19) (v:=?q3v) (Or.inl ⟨by rfl, ?q3h⟩) hHeld ?q3r
 case q3h=>(intro _ h;clear h;go_simp;try with_reducible rfl)
 try simp only [z0, z1, z2, z3]
 refine tk 3 qPw2_3 (some 20) (v:=.slice (some ⟨g2, off2, none⟩) t.wait.length cap2) (Or.inl ⟨by rfl, ?q4h⟩) hHeld ?q4r
 case q4h=>(intro wq hSw;have lq:=(hSw) 1 (.slice (some ⟨g2, off2, none⟩) t.wait.length cap2) rfl;simp only [Nat.zero_add] at lq;clear hSw;go_simp;try with_reducible rfl)
 try simp only [z0, z1, z2, z3]
 refine tk 4 qPw2_4 (some 21) (v:=?q5v) (Or.inl ⟨by rfl, ?q5h⟩) hHeld ?q5r
 case q5h=>(intro _ h;clear h;go_simp;try with_reducible rfl)
 try simp only [z0, z1, z2, z3]
 refine tk 5 qPw2_5 (some 22) (v:=.slice (some ⟨g2, off2, none⟩) k cap2) (Or.inl ⟨by rfl, ?q6h⟩) hHeld ?q6r
 case q6h=>(intro _ h;clear h;go_simp;try with_reducible rfl)
 try simp only [z0, z1, z2, z3]
 refine tk 8 qPw2_6 (some 25) (v:=?q7v) (Or.inl ⟨by rfl, ?q7h⟩) hHeld ?q7r
 case q7h=>(intro _ h;clear h;go_simp;try with_reducible rfl)
 try simp only [z0, z1, z2, z3]
 refine tn 6 qPw2_7 (fun K hK=>?_)
 rw [if_pos (by rfl)]
 refine wp_build_vals rfl elem_gs HUS.out [.slice a t.held.length cap, .slice (some ⟨g2, off2, none⟩) k cap2] (by intro v hv;simp only [List.mem_cons, List.not_mem_nil, or_false] at hv;rcases hv with rfl | rfl <;> rfl) (Nat.succ_pos _) (by simp only [List.length_cons, List.length_nil];omega) rfl (by simp only [List.map_toArray, List.map_cons, List.map_nil, List.zipIdx_cons, List.zipIdx_nil];exact rfl) ?_
 have HS22 : Hid (Hp w [.ob (w.heap.size) 25 (tbCells (.slice a t.held.length cap) (.slice (some ⟨g2, off2, none⟩) t.wait.length cap2)), .ob b9 3 [.int .i64 tx], .ob (w21.drew.heap.size) 23 ([.slice a t.held.length cap, .slice (some ⟨g2, off2, none⟩) k cap2])] (w21.drew.alloc (.cells ([.slice a t.held.length cap, .slice (some ⟨g2, off2, none⟩) k cap2]).toArray 23))):=((HS21.out).drew).put 23 ([.slice a t.held.length cap, .slice (some ⟨g2, off2, none⟩) k cap2])
 refine hK.out _ _ ((fun j v hv=>by rw [Nat.zero_add];exact (HS22.out).at 0 rfl j hv)) (fun hHeld=>?_)
 clear hK K
 generalize (w21.drew.alloc (.cells ([.slice a t.held.length cap, .slice (some ⟨g2, off2, none⟩) k cap2]).toArray 23)) = w22 at *
 generalize w21.drew.heap.size = B21 at *
 try simp only [z0, z1, z2, z3]
 refine tk 7 qPw2_8 (some 24) (v:=?q8v) (Or.inl ⟨by rfl, ?q8h⟩) hHeld ?q8r
 case q8h=>(intro _ h;clear h;go_simp;try with_reducible rfl)
 try simp only [z0, z1, z2, z3]
 refine wpAnyH_done (by kernel_rfl) ?_ _
 clear hHeld
 have HSn:=Lib.hid (HS22.out.nil 3 1)
 go_wp2_with fail
 go_loopw [6, 25] (fun ov jv wr=>∃ (j : Nat) (acc : List Int), j ≤ 2 ∧ jv = .int .i64 j ∧ acc = inWay x (preL t.held (t.wait.take k) j) ∧ Hp w [.ob w.heap.size 25 (tbCells (.slice a t.held.length cap) (.slice (some ⟨g2, off2, none⟩) t.wait.length cap2)), .ob b9 3 [.int .i64 tx], .ob B21 23 [.slice a t.held.length cap, .slice (some ⟨g2, off2, none⟩) k cap2], .sl ov 3 1 (acc).length (intRow (acc))] wr) (fun _ jv _=>2 - (intOf jv).toNat)
 case atStart=>exact ⟨0, [], by omega, rfl, rfl, HSn.out⟩
 case round =>
  clear HSn HS22
  obtain ⟨j, acc, hj, rfl, hac, hs⟩:=hrel
  have HY:=Lib.hid hs
  have HAc:=Lib.hid hac
  clear hs hac
  by_cases hlt : j < 2
  ·obtain ⟨l, la, lc, hcj, ⟨R3, hrd3, hin3⟩, hpre, hgo, hlen⟩:=HLs.out j hlt
   have cj : wr.cell? ⟨B21, j, none⟩ = some (.slice la l.length lc):=HY.out.at 2 rfl j hcj
   have hji : (j : Int) < 2:=by omega
   have hj0 : (0 : Int) ≤ (j : Int):=by omega
   have HJt:=Lib.hid hlt
   have HPre:=Lib.hid hpre
   have HGo:=Lib.hid hgo
   have HLen:=Lib.hid hlen
   have hl1 : (l.length : Int) ≤ 100000:=by omega
   have HRd3:=Lib.hid hrd3
   have HIn3:=Lib.hid hin3
   have HAl : Hid (acc.length ≤ 200000):=Lib.hid (by
    have h1:=inWay_len x (preL t.held (t.wait.take k) j)
    have h2:=HFew.out
    have h3 : (preL t.held (t.wait.take k) j).length ≤ 200000:=by
     rcases (show j = 0 ∨ j = 1 by omega) with rfl | rfl
     ·exact Nat.zero_le _
     ·show t.held.length ≤ _;omega
    rw [HAc.out];omega)
   clear hcj hpre hgo hlen hlt hj hrd3 hin3 HLs
   go_wp2_with fail
   clear cj
   go_loopw [6, 31] (fun ov iv wr=>∃ (i : Nat) (acc2 : List Int), i ≤ l.length ∧ iv = .int .i64 i ∧ acc2 = acc ++ inWay x (l.take i) ∧ Hp w [.ob w.heap.size 25 (tbCells (.slice a t.held.length cap) (.slice (some ⟨g2, off2, none⟩) t.wait.length cap2)), .ob b9 3 [.int .i64 tx], .ob B21 23 [.slice a t.held.length cap, .slice (some ⟨g2, off2, none⟩) k cap2], .sl ov 3 1 (acc2).length (intRow (acc2))] wr) (fun _ iv _=>l.length - (intOf iv).toNat)
   case atStart=>exact ⟨0, acc, by omega, rfl, by rw [List.take_zero];exact (List.append_nil _).symm, HY.out⟩
   case round =>
    clear HY
    obtain ⟨i, acc2, hi, rfl, hac2, hs⟩:=hrel
    have HY:=Lib.hid hs
    have HAc2:=Lib.hid hac2
    clear hs hac2
    by_cases hlt : i < l.length
    ·obtain ⟨g0, off, rfl, hr⟩:=HRd3.out.base (by omega)
     obtain ⟨y, hy⟩ : ∃ y, l[i]? = some y:=⟨_, List.getElem?_eq_getElem hlt⟩
     have HRg : Hid (∀ W, Below w.heap.size w W → W.rangeAt g0 (off + i * 4) (grCells y)):=fun W hb=>elem_rng (hr W (HIn3.out W hb)) hy
     have HYi:=Lib.hid hy
     have hii : (i : Int) < (l.length : Int):=by omega
     have hi0 : (0 : Int) ≤ (i : Int):=by omega
     have HIt:=Lib.hid hlt
     have HCf : Hid (∀ W, Calls Try.prog 61 #[.agg (grCells y).toArray, .agg (grCells x).toArray] W fun e w'=>e = .returned (.bool (confB y x)) ∧ Below W.heap.size W w'):=fun W=>wconflict_any y x W (HGo.out y (List.mem_of_getElem? hy)) HGx.out
     have HNx : Hid (acc ++ inWay x (l.take (i + 1)) = acc2 ++ if confB y x = true then [y.tx] else []):=Lib.hid (by rw [HAc2.out, List.append_assoc, ← inWay_next hy])
     have HA2 : Hid (acc2.length + 1 ≤ 1048576):=Lib.hid (by
      have h1:=inWay_len x (l.take i)
      have h2:=HAl.out
      have h3:=HLen.out
      rw [HAc2.out, List.length_append]
      rw [List.length_take] at h1
      omega)
     clear hr hy hi hlt HAc2
     go_upto_region 11 with (first | ((with_reducible refine wpList_load_at 29 (.tmp 33) g0 ((off + i * 4)) (grCells y) HUG.out ?_ ?_ ?_ ?_ ?_);(exact rfl);(exact (HRg.out _ (HY.out).old));(exact rfl);(exact info_gr);simp only [z0, z1, z2, z3]) | ((with_reducible refine wpList_alloc_ob 29 (grCells grNil) ?_ ?_);(exact alloc_gr);simp only [z0, z1, z2, z3]) | ((with_reducible refine wpList_store_ob 29 (.tmp 10) (wr.heap.size) (grCells y) (grCells grNil) 29 ?_ ?_ ?_ ?_ ?_ ?_ ?_);(exact rfl);(exact rfl);(exact ((HY.out).put 29 (grCells grNil)).get 4 rfl);(exact info_gr);(exact rfl);(exact (oneCell_gr _));skip))
     have HS61 : Hid (Hp w [.ob (w.heap.size) 25 (tbCells (.slice a t.held.length cap) (.slice (some ⟨g2, off2, none⟩) t.wait.length cap2)), .ob b9 3 [.int .i64 tx], .ob B21 23 [.slice a t.held.length cap, .slice (some ⟨g2, off2, none⟩) k cap2], .sl u6 3 1 (acc2.length) (intRow acc2), .ob (wr.heap.size) 29 (grCells y)] ((wr.alloc (.cells (grCells grNil).toArray 29)).setRow (wr.heap.size) (grCells y).toArray)):=((HY.out).put 29 (grCells grNil)).row 4 rfl (grCells y)
     clear HY
     generalize ((wr.alloc (.cells (grCells grNil).toArray 29)).setRow (wr.heap.size) (grCells y).toArray) = w61 at *
     generalize wr.heap.size = B61 at *
     generalize confB y x = cb at *
     cases cb
     case false =>
      refine wp_region_held_drew (S:=fun w'=>w'.rangeAt B61 0 (grCells y) ∧ w'.rangeAt w.heap.size 0 (tbCells (.slice a t.held.length cap) (.slice (some ⟨g2, off2, none⟩) t.wait.length cap2)) ∧ w'.rangeAt g2 (off2 + k * 4) (grCells x)) (by kernel_rfl) (⟨(fun j v hv=>by rw [Nat.zero_add];exact ((HS61.out).drew).at 4 rfl j hv), (fun j v hv=>by rw [Nat.zero_add];exact ((HS61.out).drew).at 0 rfl j hv), (HRg2.out _ ((HS61.out).drew).old)⟩) (fun hHeld=>?_)
      refine tk 0 qPw2_9 (some 35) (yieldsIf_load_mid (by rfl) 29 (.tmp 10) rfl B61 (0) rfl (grCells y) _ (fun _ h=>h.1) HUG.out rfl (info_gr)) hHeld ?_
      try simp only [z0, z1, z2, z3]
      refine tk 1 qPw2_10 (some 36) (v:=?q102v) (Or.inl ⟨by rfl, ?q102h⟩) hHeld ?q102r
      case q102h=>(intro _ h;clear h;go_simp;try with_reducible rfl)
      try simp only [z0, z1, z2, z3]
      refine tk 2 qPw2_11 (some 37) (v:=.slice (some ⟨g2, off2, none⟩) t.wait.length cap2) (Or.inl ⟨by rfl, ?q103h⟩) hHeld ?q103r
      case q103h=>(intro wq hSw;have lq:=(hSw.2.1) 1 (.slice (some ⟨g2, off2, none⟩) t.wait.length cap2) rfl;simp only [Nat.zero_add] at lq;clear hSw;go_simp;try with_reducible rfl)
      try simp only [z0, z1, z2, z3]
      refine tk 3 qPw2_12 (some 38) (v:=?q104v) (Or.inl ⟨by rfl, ?q104h⟩) hHeld ?q104r
      case q104h=>(intro _ h;clear h;go_simp;try with_reducible rfl)
      try simp only [z0, z1, z2, z3]
      refine tk 4 qPw2_13 (some 39) (v:=?q105v) (Or.inl ⟨by rfl, ?q105h⟩) hHeld ?q105r
      case q105h=>(intro _ h;clear h;go_simp;try with_reducible rfl)
      try simp only [z0, z1, z2, z3]
      refine tk 5 qPw2_14 (some 40) (yieldsIf_load_mid (by rfl) 29 (.tmp 39) rfl g2 (off2 + k * 4) rfl (grCells x) _ (fun _ h=>h.2.2) HUG.out rfl (info_gr)) hHeld ?_
      try simp only [z0, z1, z2, z3]
      refine tn 6 qPw2_15 (fun K hK=>?_)
      go_simp
      go_wp2_with (go_at_call 61;refine (HCf.out _).mono ?_;rintro e w81 ⟨rfl, hb⟩)
      have HS81:=Lib.hid (((HS61.out).drew).calls hb)
      refine hK.out _ _ (⟨(fun j v hv=>by rw [Nat.zero_add];exact (HS81.out).at 4 rfl j hv), (fun j v hv=>by rw [Nat.zero_add];exact (HS81.out).at 0 rfl j hv), (HRg2.out _ (HS81.out).old)⟩) (fun hHeld=>?_)
      clear hK K hb
      try simp only [z0, z1, z2, z3]
      refine wpAnyH_done (by kernel_rfl) ?_ _
      clear hHeld
      have HS82 : Hid (Hp w [.ob (w.heap.size) 25 (tbCells (.slice a t.held.length cap) (.slice (some ⟨g2, off2, none⟩) t.wait.length cap2)), .ob b9 3 [.int .i64 tx], .ob B21 23 [.slice a t.held.length cap, .slice (some ⟨g2, off2, none⟩) k cap2], .sl u6 3 1 (acc2.length) (intRow acc2)] w81):=HS81.out.pull [0, 1, 2, 3] rfl (pull_nd HS81.out.nd [0, 1, 2, 3] rfl (by decide))
      clear HS81
      go_wp2_with fail
      go_roundw
      case rel =>
       refine ⟨i + 1, acc2, HIt.out, by go_num, ?_, HS82.out⟩
       rw [HNx.out, if_neg (by decide), List.append_nil]
      case measure=>simp [intOf];try (have:=HIt.out;omega)
     case true =>
      refine wp_region_held_drew (S:=fun w'=>w'.rangeAt B61 0 (grCells y) ∧ w'.rangeAt w.heap.size 0 (tbCells (.slice a t.held.length cap) (.slice (some ⟨g2, off2, none⟩) t.wait.length cap2)) ∧ w'.rangeAt g2 (off2 + k * 4) (grCells x)) (by kernel_rfl) (⟨(fun j v hv=>by rw [Nat.zero_add];exact ((HS61.out).drew).at 4 rfl j hv), (fun j v hv=>by rw [Nat.zero_add];exact ((HS61.out).drew).at 0 rfl j hv), (HRg2.out _ ((HS61.out).drew).old)⟩) (fun hHeld=>?_)
      refine tk 0 qPw2_9 (some 35) (yieldsIf_load_mid (by rfl) 29 (.tmp 10) rfl B61 (0) rfl (grCells y) _ (fun _ h=>h.1) HUG.out rfl (info_gr)) hHeld ?_
      try simp only [z0, z1, z2, z3]
      refine tk 1 qPw2_10 (some 36) (v:=?q162v) (Or.inl ⟨by rfl, ?q162h⟩) hHeld ?q162r
      case q162h=>(intro _ h;clear h;go_simp;try with_reducible rfl)
      try simp only [z0, z1, z2, z3]
      refine tk 2 qPw2_11 (some 37) (v:=.slice (some ⟨g2, off2, none⟩) t.wait.length cap2) (Or.inl ⟨by rfl, ?q163h⟩) hHeld ?q163r
      case q163h=>(intro wq hSw;have lq:=(hSw.2.1) 1 (.slice (some ⟨g2, off2, none⟩) t.wait.length cap2) rfl;simp only [Nat.zero_add] at lq;clear hSw;go_simp;try with_reducible rfl)
      try simp only [z0, z1, z2, z3]
      refine tk 3 qPw2_12 (some 38) (v:=?q164v) (Or.inl ⟨by rfl, ?q164h⟩) hHeld ?q164r
      case q164h=>(intro _ h;clear h;go_simp;try with_reducible rfl)
      try simp only [z0, z1, z2, z3]
      refine tk 4 qPw2_13 (some 39) (v:=?q165v) (Or.inl ⟨by rfl, ?q165h⟩) hHeld ?q165r
      case q165h=>(intro _ h;clear h;go_simp;try with_reducible rfl)
      try simp only [z0, z1, z2, z3]
      refine tk 5 qPw2_14 (some 40) (yieldsIf_load_mid (by rfl) 29 (.tmp 39) rfl g2 (off2 + k * 4) rfl (grCells x) _ (fun _ h=>h.2.2) HUG.out rfl (info_gr)) hHeld ?_
      try simp only [z0, z1, z2, z3]
      refine tn 6 qPw2_15 (fun K hK=>?_)
      go_simp
      go_wp2_with (go_at_call 61;refine (HCf.out _).mono ?_;rintro e w141 ⟨rfl, hb⟩)
      have HS141:=Lib.hid (((HS61.out).drew).calls hb)
      refine hK.out _ _ (⟨(fun j v hv=>by rw [Nat.zero_add];exact (HS141.out).at 4 rfl j hv), (fun j v hv=>by rw [Nat.zero_add];exact (HS141.out).at 0 rfl j hv), (HRg2.out _ (HS141.out).old)⟩) (fun hHeld=>?_)
      clear hK K hb
      try simp only [z0, z1, z2, z3]
      refine wpAnyH_done (by kernel_rfl) ?_ _
      clear hHeld
      have cx0 : w141.cell? ⟨B61, 0, none⟩ = some (.int .i64 y.tx):=HS141.out.at 4 rfl 0 rfl
      go_upto_region 12 with (fail)
      go_wp2_with (first | ((with_reducible refine wpList_build_vals 38 1 elem_i HUI.out [.int .i64 y.tx] ?_ ?_ ?_ ?_ ?_ ?_);(exact (by intro v hv;simp only [List.mem_cons, List.not_mem_nil, or_false] at hv;subst hv;rfl));(exact Nat.succ_pos _);(simp only [List.length_cons, List.length_nil];omega);(exact rfl);(simp only [List.map_toArray, List.map_cons, List.map_nil, List.zipIdx_cons, List.zipIdx_nil];exact rfl);simp only [z0, z1, z2, z3]) | ((with_reducible refine wpList_append_hp ((HS141.out).put 3 ([.int .i64 y.tx])) (.tmp 42) (.tmp 45) 38 3 (v:=u6) (e:=3) (z:=1) (n:=acc2.length) (xs:=intRow acc2) ?_ 5 (b:=(w141.heap.size)) (t':=3) (ys:=[.int .i64 y.tx]) ?_ HUI.out elem_i 1 1 ?_ ?_ ?_ ?_ ?_ ?_);(exact rfl);(exact rfl);(exact rfl);(exact rfl);(exact rfl);(exact (by intro u hu;simp only [List.mem_cons, List.not_mem_nil, or_false] at hu;subst hu;rfl));(exact HA2.out)))
      intro v142 w142 hs hnil
      have HS143:=Lib.hid hs
      clear hs
      clear HS141
      generalize w141.heap.size = B141 at *
      have HS144:=HS143
      clear HS143
      have HS145 : Hid (Hp w [.ob (w.heap.size) 25 (tbCells (.slice a t.held.length cap) (.slice (some ⟨g2, off2, none⟩) t.wait.length cap2)), .ob b9 3 [.int .i64 tx], .ob B21 23 [.slice a t.held.length cap, .slice (some ⟨g2, off2, none⟩) k cap2], .sl v142 3 1 (acc2.length + 1) ((intRow acc2) ++ ([.int .i64 y.tx]))] w142):=HS144.out.pull [0, 1, 2, 3] rfl (pull_nd HS144.out.nd [0, 1, 2, 3] rfl (by decide))
      clear HS144
      have HZ9:=Lib.hid (int_snoc (A:=[.ob (w.heap.size) 25 (tbCells (.slice a t.held.length cap) (.slice (some ⟨g2, off2, none⟩) t.wait.length cap2)), .ob b9 3 [.int .i64 tx], .ob B21 23 [.slice a t.held.length cap, .slice (some ⟨g2, off2, none⟩) k cap2]]) HS145.out)
      clear cx0
      go_wp2_with fail
      go_roundw
      case rel =>
       refine ⟨i + 1, acc2 ++ [y.tx], HIt.out, by go_num, ?_, HZ9.out⟩
       first | rw [HNx.out, if_pos trivial] | rw [HNx.out, if_pos rfl]
      case measure=>simp [intOf];try (have:=HIt.out;omega)
    ·obtain rfl : i = l.length:=by omega
     have HE2 : Hid (acc2 = inWay x (preL t.held (t.wait.take k) (j + 1))):=Lib.hid (by have:=HAc2.out;rw [List.take_length, HAc.out, ← HPre.out] at this;exact this)
     clear hlt hi HAc2
     go_wp2_with fail
     go_roundw
     case rel=>exact ⟨j + 1, acc2, HJt.out, by go_num, HE2.out, HY.out⟩
     case measure=>simp [intOf];try (have:=HJt.out;omega)
  ·obtain rfl : j = 2:=by omega
   have HE : Hid (res = onceI acc):=Lib.hid (by rw [HRes.out, HAc.out];rfl)
   have HAl : Hid (acc.length ≤ 1000000):=Lib.hid (by
    have h1:=inWay_len x (t.held ++ t.wait.take k)
    have h2:=HFew.out
    have h3 : (t.held ++ t.wait.take k).length ≤ 200000:=by rw [List.length_append, List.length_take];omega
    rw [HAc.out]
    show (inWay x (t.held ++ t.wait.take k)).length ≤ _
    omega)
   clear hlt hj HAc
   go_wp2_with fail
   refine (sort_own HY.out 3 rfl HAl.out).mono ?_
   rintro e w7 ⟨rfl, hs7⟩
   have HS7:=Lib.hid hs7
   clear hs7 HY
   go_wp2_with fail
   refine (compact_own HS7.out 3 rfl (by rw [sortI_len];exact HAl.out)).mono ?_
   rintro e w8 ⟨v8, rfl, hs8⟩
   have HS8:=Lib.hid hs8
   clear hs8 HS7
   go_wp2_with fail
   go_ret
   rw [HE.out]
   exact int_hand (HS8.out.own 3 rfl) HS8.out.old
end Go.Proofs.Ytooaldglgkjjgaa
/- the program's For (waits) -/
namespace Go.Proofs.Ytooaldglgkjjgaa
open Go.RowKit
set_option maxRecDepth 20000
set_option linter.unusedSimpArgs false
set_option linter.unusedVariables false

theorem for_invalid {t : Tb} {tx : Int} (h : tbOkB t = false) : forR t tx = []:=for_no (by unfold waitR;rw [h];rfl)
set_option maxHeartbeats 8000000 in
theorem pfor_any {h v : Value} {t : Tb} {R : List Rng} (tx : Int) (w : World) (ht : TbRd h v t R) (hR : RdIn w R) (hg : GoodTb t) :
    Calls Try.prog 12 #[.agg (tbCells h v).toArray, .int .i64 tx] w (IntsPost w (forR t tx)):=by
  have HVa : Hid (∀ W, Below w.heap.size w W → Calls Try.prog 29 #[.agg (tbCells h v).toArray] W fun e w'=>e = .returned (.bool (tbOkB t)) ∧ Below W.heap.size W w'):=fun W hb=>plkvalid_any W ht (hR.below hb) hg
  have HAw : Hid (tbOkB t = true → ∀ W, Below w.heap.size w W → Calls Try.prog 31 #[.agg (tbCells h v).toArray, .int .i64 tx] W (IntsPost W (forR t tx))):=fun hok W hb=>pawait_any tx W ht (hR.below hb) hg hok
  have HNo : Hid (tbOkB t = false → forR t tx = []):=for_invalid
  obtain ⟨a, cap, rfl, hnc, hcm⟩:=ht.1.shape
  obtain ⟨a2, cap2, rfl, hnc2, hcm2⟩:=ht.2.shape
  clear ht hR hg hnc hcm hnc2 hcm2
  generalize forR t tx = res at *
  generalize tbOkB t = ok at *
  have h1:=(Hp.start w).put 25 (tbCells (.slice a t.held.length cap) (.slice a2 t.wait.length cap2))
  simp only [List.nil_append] at h1
  have HS0 : Hid (Hp w [.ob w.heap.size 25 (tbCells (.slice a t.held.length cap) (.slice a2 t.wait.length cap2))] (w.alloc (.cells (tbCells (.slice a t.held.length cap) (.slice a2 t.wait.length cap2)).toArray 25))):=h1
  clear h1
  obtain ⟨fsHUG, huHUG⟩:=under_gr
  have HUG:=Lib.hid huHUG
  clear huHUG
  obtain ⟨fsHUT, huHUT⟩:=under_tb
  have HUT:=Lib.hid huHUT
  clear huHUT
  go_enter Try.func12, Try.ntmps12
  go_upto_region 1 with (fail)
  generalize (w.alloc (.cells (tbCells (.slice a t.held.length cap) (.slice a2 t.wait.length cap2)).toArray 25)) = w1 at *
  go_wp2_with (first | ((with_reducible refine wpList_load_ob 25 (.tmp 2) (w.heap.size) (tbCells (.slice a t.held.length cap) (.slice a2 t.wait.length cap2)) 25 HUT.out ?_ ?_ ?_ ?_ ?_);(exact rfl);(exact (HS0.out).get 0 rfl);(exact rfl);(exact info_tb);simp only [Act.put, List.setIfInBounds_toArray, List.set_cons_zero, List.set_cons_succ]))
  refine (HVa.out _ (HS0.out).old).mono ?_
  rintro e w21 ⟨rfl, hb⟩
  have HS21 : Hid (Hp w [.ob (w.heap.size) 25 (tbCells (.slice a t.held.length cap) (.slice a2 t.wait.length cap2))] w21):=(HS0.out).calls hb
  clear hb
  clear HS0
  cases ok
  · have HR0:=Lib.hid (HNo.out rfl)
    go_wp2_with fail
    go_ret
    rw [HR0.out]
    exact int_none HS21.out.old
  have HAw2:=Lib.hid (HAw.out rfl)
  clear HNo HAw HVa
  go_upto_region 3 with (fail)
  go_wp2_with (first | ((with_reducible refine wpList_load_ob 25 (.tmp 2) (w.heap.size) (tbCells (.slice a t.held.length cap) (.slice a2 t.wait.length cap2)) 25 HUT.out ?_ ?_ ?_ ?_ ?_);(exact rfl);(exact (HS21.out).get 0 rfl);(exact rfl);(exact info_tb);simp only [Act.put, List.setIfInBounds_toArray, List.set_cons_zero, List.set_cons_succ]))
  have HSz:=Lib.hid HS21.out.old.size
  refine (HAw2.out _ (HS21.out).old).mono ?_
  rintro e w22 ⟨v9, R9, rfl, hrd2, hin2, hnew2, hb⟩
  obtain ⟨a9, c9, rfl, hl9, hm9, hg9⟩:=hrd2.cells
  have Hrd9:=Lib.hid hrd2
  have Hnw9:=Lib.hid hnew2
  have Hgc9:=Lib.hid hg9
  clear hg9
  have HS22 : Hid (Hp w [.ob (w.heap.size) 25 (tbCells (.slice a t.held.length cap) (.slice a2 t.wait.length cap2)), .rd R9] w22):=(HS21.out).addrd hb R9 hin2 (fun r hr=>.inl (hnew2 r hr))
  clear hb hin2 hrd2 hnew2
  clear HS21
  go_wp2_with fail
  go_ret
  exact ⟨_, R9, rfl, Hrd9.out, HS22.out.reads 1 rfl, fun r hr=>Nat.le_trans HSz.out (Hnw9.out r hr), HS22.out.old⟩
end Go.Proofs.Ytooaldglgkjjgaa
/- the program's Edges (waits) -/
namespace Go.Proofs.Ytooaldglgkjjgaa
open Go.RowKit
open Go.Act renaming put → z0
open List renaming setIfInBounds_toArray → z1, set_cons_zero → z2, set_cons_succ → z3
set_option maxRecDepth 20000
set_option linter.unusedSimpArgs false
set_option linter.unusedVariables false

theorem edges_invalid {t : Tb} (h : tbOkB t = false) : edgesR t = []:=by
 unfold edgesR waitersR
 rw [if_neg (by rw [h];decide)];rfl
theorem waiters_sort {t : Tb} (h : tbOkB t = true) : waitersR t = sortI (t.wait.map Gr.tx):=by
 unfold waitersR
 rw [if_pos h]
 have h1:=(tbOkB_iff.1 h).tin.wait.one
 have hn : (sortI (t.wait.map Gr.tx)).Nodup:=by
  have : (t.wait.map Gr.tx).Nodup:=List.pairwise_map.2 h1
  exact (List.mergeSort_perm (t.wait.map Gr.tx) _).nodup_iff.2 this
 refine asc_ext (asc_waitersFold t.wait asc_nil) ?_ fun x=>?_
 ·exact (sortI_asc (t.wait.map Gr.tx)).and hn |>.imp fun {a b} h=>by have h2:=h.2;have h3:=h.1;omega
 ·unfold waitersL
  rw [mem_waitersFold, sortI_mem, List.mem_map]
  simp
set_option maxHeartbeats 16000000 in
theorem pedges_any {h v : Value} {t : Tb} {R : List Rng} (w : World) (ht : TbRd h v t R) (hR : RdIn w R) (hg : GoodTb t) :
  Calls Try.prog 9 #[.agg (tbCells h v).toArray] w (EdgePost w (edgesR t)):=by
 have HVa : Hid (∀ W, Below w.heap.size w W → Calls Try.prog 29 #[.agg (tbCells h v).toArray] W fun e w'=>e = .returned (.bool (tbOkB t)) ∧ Below W.heap.size W w'):=fun W hb=>plkvalid_any W ht (hR.below hb) hg
 obtain ⟨ff, hff⟩ : ∃ ff, forR t = ff:=⟨_, rfl⟩
 have HFl : Hid (∀ x, (ff x).length ≤ 1024):=fun x=>by rw [← hff];exact for_few t x
 have HFr : Hid (tbOkB t = true → ∀ x W, Below w.heap.size w W → Calls Try.prog 31 #[.agg (tbCells h v).toArray, .int .i64 x] W (IntsPost W (ff x))):=fun hok x W hb=>by
  have:=pawait_any x W ht (hR.below hb) hg hok
  rwa [hff] at this
 have HNo : Hid (tbOkB t = false → edgesR t = []):=edges_invalid
 have HE0 : Hid (tbOkB t = true → edgesR t = (sortI (t.wait.map Gr.tx)).flatMap fun x=>(ff x).map fun y=>(x, y)):=fun hok=>by unfold edgesR;rw [waiters_sort hok, hff]
 have HWl0 : Hid (tbOkB t = true → (sortI (t.wait.map Gr.tx)).length ≤ 1024):=fun hok=>by rw [← waiters_sort hok];exact waiters_few t
 have HFw : Hid (t.wait.length ≤ 100000):=Lib.hid hg.few.2
 have hw1 : (t.wait.length : Int) ≤ 100000:=by have:=HFw.out;omega
 obtain ⟨a, cap, rfl, hnc, hcm⟩:=ht.1.shape
 obtain ⟨a2, cap2, rfl, hnc2, hcm2⟩:=ht.2.shape
 have HWd:=Lib.hid ht.2
 have HR0:=Lib.hid hR
 have HUX : Hid (Try.prog.underlying 35 = some (.slice 37)):=Try.underlying35
 have HUI : Hid (Try.prog.underlying 38 = some (.slice 3)):=Try.underlying38
 clear ht hR hg hnc hcm hnc2 hcm2 hff
 generalize edgesR t = res at *
 generalize tbOkB t = ok at *
 have h1:=(Hp.start w).put 25 (tbCells (.slice a t.held.length cap) (.slice a2 t.wait.length cap2))
 simp only [List.nil_append] at h1
 have HS0 : Hid (Hp w [.ob w.heap.size 25 (tbCells (.slice a t.held.length cap) (.slice a2 t.wait.length cap2))] (w.alloc (.cells (tbCells (.slice a t.held.length cap) (.slice a2 t.wait.length cap2)).toArray 25))):=h1
 clear h1
 obtain ⟨fsHUG, huHUG⟩:=under_gr
 have HUG:=Lib.hid huHUG
 clear huHUG
 obtain ⟨fsHUT, huHUT⟩:=under_tb
 have HUT:=Lib.hid huHUT
 clear huHUT
 go_enter Try.func9, Try.ntmps9
 go_upto_region 1 with (fail)
 generalize (w.alloc (.cells (tbCells (.slice a t.held.length cap) (.slice a2 t.wait.length cap2)).toArray 25)) = w1 at *
 go_wp2_with (first | ((with_reducible refine wpList_load_ob 25 (.tmp 1) (w.heap.size) (tbCells (.slice a t.held.length cap) (.slice a2 t.wait.length cap2)) 25 HUT.out ?_ ?_ ?_ ?_ ?_);(exact rfl);(exact (HS0.out).get 0 rfl);(exact rfl);(exact info_tb);simp only [z0, z1, z2, z3]))
 refine (HVa.out _ (HS0.out).old).mono ?_
 rintro e w21 ⟨rfl, hb⟩
 have HS21 : Hid (Hp w [.ob (w.heap.size) 25 (tbCells (.slice a t.held.length cap) (.slice a2 t.wait.length cap2))] w21):=(HS0.out).calls hb
 clear hb
 clear HS0
 cases ok
 ·have HR1:=Lib.hid (HNo.out rfl)
  go_wp2_with fail
  go_ret
  rw [HR1.out]
  exact edge_hand (l:=[]) (HS21.out.nil 37 2 |>.own 1 rfl) HS21.out.old
 have HFr2:=Lib.hid (HFr.out rfl)
 have HE:=Lib.hid (HE0.out rfl)
 have HWl:=Lib.hid (HWl0.out rfl)
 clear HNo HFr HVa HE0 HWl0
 have b1 : w21.cell? ⟨w.heap.size, 1, none⟩ = some (.slice a2 t.wait.length cap2):=HS21.out.at 0 rfl 1 rfl
 have HSn:=Lib.hid (HS21.out.nil 3 1)
 go_wp2_with fail
 clear b1
 go_loopw [3, 17] (fun ov iv wr=>∃ (i : Nat) (acc : List Int), i ≤ t.wait.length ∧ iv = .int .i64 i ∧ acc = (t.wait.take i).map Gr.tx ∧ Hp w [.ob w.heap.size 25 (tbCells (.slice a t.held.length cap) (.slice a2 t.wait.length cap2)), .sl ov 3 1 acc.length (intRow acc)] wr) (fun _ iv _=>t.wait.length - (intOf iv).toNat)
 case atStart=>exact ⟨0, [], by omega, rfl, rfl, HSn.out⟩
 case round =>
  clear HSn HS21
  obtain ⟨i, acc, hi, rfl, hac, hs⟩:=hrel
  have HY:=Lib.hid hs
  have HAc:=Lib.hid hac
  clear hs hac
  by_cases hlt : i < t.wait.length
  ·obtain ⟨g0, off, rfl, hr⟩:=HWd.out.base (by omega)
   obtain ⟨y, hy⟩ : ∃ y, t.wait[i]? = some y:=⟨_, List.getElem?_eq_getElem hlt⟩
   have HRg : Hid (∀ W, Below w.heap.size w W → W.rangeAt g0 (off + i * 4) (grCells y)):=fun W hb=>elem_rng (hr W (HR0.out.below hb)) hy
   have hii : (i : Int) < (t.wait.length : Int):=by omega
   have hi0 : (0 : Int) ≤ (i : Int):=by omega
   have HIt:=Lib.hid hlt
   have HNx : Hid (acc ++ [y.tx] = (t.wait.take (i + 1)).map Gr.tx):=Lib.hid (by rw [HAc.out, lk_take_snoc hy, List.map_append];rfl)
   have HA2 : Hid (acc.length + 1 ≤ 1048576):=Lib.hid (by
    have h2:=HFw.out
    rw [HAc.out, List.length_map, List.length_take]
    omega)
   clear hr hy hi hlt HAc
   go_upto_region 7 with (first | ((with_reducible refine wpList_load_at 29 (.tmp 19) g0 ((off + i * 4)) (grCells y) HUG.out ?_ ?_ ?_ ?_ ?_);(exact rfl);(exact (HRg.out _ (HY.out).old));(exact rfl);(exact info_gr);simp only [z0, z1, z2, z3]) | ((with_reducible refine wpList_alloc_ob 29 (grCells grNil) ?_ ?_);(exact alloc_gr);simp only [z0, z1, z2, z3]) | ((with_reducible refine wpList_store_ob 29 (.tmp 5) (wr.heap.size) (grCells y) (grCells grNil) 29 ?_ ?_ ?_ ?_ ?_ ?_ ?_);(exact rfl);(exact rfl);(exact ((HY.out).put 29 (grCells grNil)).get 2 rfl);(exact info_gr);(exact rfl);(exact (oneCell_gr _));skip))
   have HS61 : Hid (Hp w [.ob (w.heap.size) 25 (tbCells (.slice a t.held.length cap) (.slice (some ⟨g0, off, none⟩) t.wait.length cap2)), .sl u3 3 1 (acc.length) (intRow acc), .ob (wr.heap.size) 29 (grCells y)] ((wr.alloc (.cells (grCells grNil).toArray 29)).setRow (wr.heap.size) (grCells y).toArray)):=((HY.out).put 29 (grCells grNil)).row 2 rfl (grCells y)
   clear HY
   generalize ((wr.alloc (.cells (grCells grNil).toArray 29)).setRow (wr.heap.size) (grCells y).toArray) = w61 at *
   generalize wr.heap.size = B61 at *
   have cx0 : w61.cell? ⟨B61, 0, none⟩ = some (.int .i64 y.tx):=HS61.out.at 2 rfl 0 rfl
   go_wp2_with (first | ((with_reducible refine wpList_build_vals 38 1 elem_i HUI.out [.int .i64 y.tx] ?_ ?_ ?_ ?_ ?_ ?_);(exact (by intro v hv;simp only [List.mem_cons, List.not_mem_nil, or_false] at hv;subst hv;rfl));(exact Nat.succ_pos _);(simp only [List.length_cons, List.length_nil];omega);(exact rfl);(simp only [List.map_toArray, List.map_cons, List.map_nil, List.zipIdx_cons, List.zipIdx_nil];exact rfl);simp only [z0, z1, z2, z3]) | ((with_reducible refine wpList_append_hp ((HS61.out).put 3 ([.int .i64 y.tx])) (.tmp 21) (.tmp 24) 38 1 (v:=u3) (e:=3) (z:=1) (n:=acc.length) (xs:=intRow acc) ?_ 3 (b:=(w61.heap.size)) (t':=3) (ys:=[.int .i64 y.tx]) ?_ HUI.out elem_i 1 1 ?_ ?_ ?_ ?_ ?_ ?_);(exact rfl);(exact rfl);(exact rfl);(exact rfl);(exact rfl);(exact (by intro u hu;simp only [List.mem_cons, List.not_mem_nil, or_false] at hu;subst hu;rfl));(exact HA2.out)))
   intro v62 w62 hs hnil
   have HS63:=Lib.hid hs
   clear hs
   clear HS61
   generalize w61.heap.size = B62 at *
   have HS64 : Hid (Hp w [.ob (w.heap.size) 25 (tbCells (.slice a t.held.length cap) (.slice (some ⟨g0, off, none⟩) t.wait.length cap2)), .sl v62 3 1 (acc.length + 1) ((intRow acc) ++ ([.int .i64 y.tx])), .ob B61 29 (grCells y), .ob B62 3 ([.int .i64 y.tx])] w62):=HS63.out
   clear HS63
   have HS65 : Hid (Hp w [.ob (w.heap.size) 25 (tbCells (.slice a t.held.length cap) (.slice (some ⟨g0, off, none⟩) t.wait.length cap2)), .sl v62 3 1 (acc.length + 1) ((intRow acc) ++ ([.int .i64 y.tx]))] w62):=HS64.out.pull [0, 1] rfl (pull_nd HS64.out.nd [0, 1] rfl (by decide))
   clear HS64
   have HZ9:=Lib.hid (int_snoc (A:=[.ob (w.heap.size) 25 (tbCells (.slice a t.held.length cap) (.slice (some ⟨g0, off, none⟩) t.wait.length cap2))]) HS65.out)
   clear cx0
   go_wp2_with fail
   go_roundw
   case rel=>exact ⟨i + 1, acc ++ [y.tx], HIt.out, by go_num, HNx.out, HZ9.out⟩
   case measure=>simp [intOf];try (have:=HIt.out;omega)
  ·obtain rfl : i = t.wait.length:=by omega
   have HSe : Hid (acc = t.wait.map Gr.tx):=Lib.hid (by have:=HAc.out;rwa [List.take_length] at this)
   have HAl : Hid (acc.length ≤ 1000000):=Lib.hid (by have:=HFw.out;rw [HSe.out, List.length_map];omega)
   clear hlt hi HAc HR0 HWd hw1
   rw [← HSe.out] at HE HWl
   clear HSe HFw
   go_wp2_with fail
   refine (sort_own HY.out 1 rfl HAl.out).mono ?_
   rintro e w7 ⟨rfl, hs7⟩
   obtain ⟨ws, hws⟩ : ∃ ws, sortI acc = ws:=⟨_, rfl⟩
   have hs7' : Hp w ([.ob w.heap.size 25 (tbCells (.slice a t.held.length cap) (.slice a2 t.wait.length cap2))] ++ [.sl u3 3 1 (sortI acc).length (intRow (sortI acc))]) w7:=hs7
   rw [hws] at hs7'
   simp only [hws] at HE HWl
   obtain ⟨R9, hrd2, hnew2, hs8⟩:=Hp.ownrd2 hs7'
   obtain ⟨a9, c9, rfl, hl9, hm9, hg9⟩:=IntRd.cells hrd2
   have HS8:=Lib.hid hs8
   have Hgc9:=Lib.hid hg9
   have hws2 : (ws.length : Int) ≤ 1024:=by have:=HWl.out;omega
   clear hs7 hs7' hws hrd2 hnew2 hs8 hg9 HY HAl hl9 hm9
   have HX0:=Lib.hid (HS8.out.nil 37 2)
   go_wp2_with fail
   clear HS8
   go_loopw [6, 31] (fun ov iv wr=>∃ (i : Nat) (acc : List (Int × Int)), i ≤ ws.length ∧ iv = .int .i64 i ∧ acc.length ≤ i * 1024 ∧ acc ++ (ws.drop i).flatMap (fun x=>(ff x).map fun y=>(x, y)) = res ∧ Hp w [.ob w.heap.size 25 (tbCells (.slice a t.held.length cap) (.slice a2 t.wait.length cap2)), .rd R9, .sl ov 37 2 acc.length (edgeRow acc)] wr) (fun _ iv _=>ws.length - (intOf iv).toNat)
   case atStart=>exact ⟨0, [], by omega, rfl, by simp, by rw [List.nil_append, List.drop_zero, HE.out], HX0.out⟩
   case round =>
    clear HX0
    obtain ⟨i, acc, hi, rfl, hal, hac, hs⟩:=hrel
    have HY:=Lib.hid hs
    have HAl:=Lib.hid hal
    have HAc:=Lib.hid hac
    clear hs hal hac
    by_cases hlt : i < ws.length
    ·obtain ⟨g0, off, rfl, hc0⟩:=Hgc9.out (by omega)
     obtain ⟨x, hx⟩ : ∃ x, ws[i]? = some x:=⟨_, List.getElem?_eq_getElem hlt⟩
     have c0 : wr.cell? ⟨g0, off + i, none⟩ = some (.int .i64 x):=hc0 wr (HY.out.reads 1 rfl) i x hx
     have hii : (i : Int) < (ws.length : Int):=by omega
     have hi0 : (0 : Int) ≤ (i : Int):=by omega
     have HLt:=Lib.hid hlt
     have HAn : Hid (acc ++ ((ff x).map (fun y=>(x, y)) ++ (ws.drop (i + 1)).flatMap (fun x=>(ff x).map fun y=>(x, y))) = res):=Lib.hid (by
      obtain ⟨h8, h9⟩:=List.getElem?_eq_some_iff.1 hx
      have:=HAc.out
      rw [List.drop_eq_getElem_cons h8, h9, List.flatMap_cons] at this
      exact this)
     clear hc0 hi hlt hx HAc Hgc9
     go_upto_region 14 with (fail)
     clear c0
     go_wp2_with (first | ((with_reducible refine wpList_load_ob 25 (.tmp 1) (w.heap.size) (tbCells (.slice a t.held.length cap) (.slice a2 t.wait.length cap2)) 25 HUT.out ?_ ?_ ?_ ?_ ?_);(exact rfl);(exact (HY.out).get 0 rfl);(exact rfl);(exact info_tb);simp only [z0, z1, z2, z3]))
     refine (HFr2.out x _ (HY.out).old).mono ?_
     rintro e w141 ⟨v8, R8, rfl, hrd2, hin2, hnew2, hb⟩
     obtain ⟨a8, c8, rfl, hl8, hm8, hg8⟩:=hrd2.cells
     have Hrd8:=Lib.hid hrd2
     have Hnw8:=Lib.hid hnew2
     have Hgc8:=Lib.hid hg8
     clear hg8
     have HS141 : Hid (Hp w [.ob (w.heap.size) 25 (tbCells (.slice a t.held.length cap) (.slice a2 t.wait.length cap2)), .rd R9, .sl u6 37 2 (acc.length) (edgeRow acc), .rd R8] w141):=(HY.out).addrd hb R8 hin2 (fun r hr=>.inl (hnew2 r hr))
     clear hb hin2 hrd2 hnew2
     clear HY
     obtain ⟨nx, hnx⟩ : ∃ nx, ff x = nx:=⟨_, rfl⟩
     have HNl : Hid (nx.length ≤ 1024):=Lib.hid (by rw [← hnx];exact HFl.out x)
     have hnl : (nx.length : Int) ≤ 1024:=by have:=HNl.out;omega
     simp only [hnx] at *
     clear hnx
     go_wp2_with fail
     generalize w141 = w6 at *
     go_loopw [6, 39] (fun ov jv wr=>∃ (j : Nat) (ac : List (Int × Int)), j ≤ nx.length ∧ jv = .int .i64 j ∧ ac = acc ++ (nx.take j).map (fun y=>(x, y)) ∧ Hp w [.ob w.heap.size 25 (tbCells (.slice a t.held.length cap) (.slice a2 t.wait.length cap2)), .rd R9, .sl ov 37 2 ac.length (edgeRow ac), .rd R8] wr) (fun _ jv _=>nx.length - (intOf jv).toNat)
     case atStart=>exact ⟨0, acc, by omega, rfl, by simp, HS141.out⟩
     case round =>
      clear HS141
      obtain ⟨j, ac, hj, rfl, hac, hs⟩:=hrel
      have HY:=Lib.hid hs
      have HAc:=Lib.hid hac
      clear hs hac
      by_cases hjt : j < nx.length
      ·obtain ⟨g1, off1, rfl, hc1⟩:=Hgc8.out (by omega)
       obtain ⟨y, hy⟩ : ∃ y, nx[j]? = some y:=⟨_, List.getElem?_eq_getElem hjt⟩
       have c1 : wr.cell? ⟨g1, off1 + j, none⟩ = some (.int .i64 y):=hc1 wr (HY.out.reads 3 rfl) j y hy
       have hji : (j : Int) < (nx.length : Int):=by omega
       have hj0 : (0 : Int) ≤ (j : Int):=by omega
       have HJt:=Lib.hid hjt
       have HLa : Hid (ac.length + 1 ≤ 1048576):=Lib.hid (by
        have h1:=HAl.out;have h2:=HWl.out;have h3:=HLt.out;have h4:=HNl.out
        rw [HAc.out, List.length_append, List.length_map, List.length_take]
        omega)
       have HAn2 : Hid (ac ++ [(x, y)] = acc ++ (nx.take (j + 1)).map (fun y=>(x, y))):=Lib.hid (by
        obtain ⟨h8, h9⟩:=List.getElem?_eq_some_iff.1 hy
        rw [HAc.out, List.take_succ_eq_append_getElem h8, h9, List.map_append, List.append_assoc];rfl)
       clear hc1 hj hjt hy HAc Hgc8
       go_upto_region 17 with (fail)
       clear c1
       go_wp2_with (first | ((with_reducible refine wpList_build_v (d:=some 46) 37 (.agg (edgeCells (x, y)).toArray) ?_ ?_);(intro W;simp only [List.map_toArray, List.map_cons, List.map_nil];exact build_eg x y W);simp only [z0, z1, z2, z3]) | ((with_reducible refine wpList_build_obs 35 1 elem_eg HUX.out [edgeCells (x, y)] ?_ ?_ ?_ ?_ ?_ ?_);(exact (List.forall_mem_cons.2 ⟨rfl, (fun _ h=>absurd h List.not_mem_nil)⟩));(exact Nat.succ_pos _);(simp only [List.length_cons, List.length_nil];omega);(exact rfl);(simp only [List.map_toArray, List.map_cons, List.map_nil, List.zipIdx_cons, List.zipIdx_nil];exact rfl);simp only [z0, z1, z2, z3]) | ((with_reducible refine wpList_append_hp ((HY.out).put 37 (([edgeCells (x, y)] : List (List Value)).flatMap id)) (.tmp 43) (.tmp 47) 35 2 (v:=u6) (e:=37) (z:=2) (n:=ac.length) (xs:=edgeRow ac) ?_ 4 (b:=(wr.heap.size)) (t':=37) (ys:=([edgeCells (x, y)] : List (List Value)).flatMap id) ?_ HUX.out elem_eg 1 1 ?_ ?_ ?_ ?_ ?_ ?_);(exact rfl);(exact rfl);(exact rfl);(exact rfl);(exact rfl);(exact (by intro u hu;simp only [List.flatMap_cons, List.flatMap_nil, List.append_nil, id] at hu;exact one_eg _ u hu));(exact HLa.out)))
       intro v161 w161 hs hnil
       have HS162:=Lib.hid hs
       clear hs
       clear HY
       generalize wr.heap.size = B161 at *
       have HS163 : Hid (Hp w [.ob (w.heap.size) 25 (tbCells (.slice a t.held.length cap) (.slice a2 t.wait.length cap2)), .rd R9, .sl v161 37 2 (ac.length + 1) ((edgeRow ac) ++ (([edgeCells (x, y)] : List (List Value)).flatMap id)), .rd R8, .ob B161 37 (([edgeCells (x, y)] : List (List Value)).flatMap id)] w161):=HS162.out
       clear HS162
       have HS164 : Hid (Hp w [.ob (w.heap.size) 25 (tbCells (.slice a t.held.length cap) (.slice a2 t.wait.length cap2)), .rd R9, .rd R8, .sl v161 37 2 (ac.length + 1) ((edgeRow ac) ++ (([edgeCells (x, y)] : List (List Value)).flatMap id))] w161):=HS163.out.pull [0, 1, 3, 2] rfl (pull_nd HS163.out.nd [0, 1, 3, 2] rfl (by decide))
       clear HS163
       have HZ9:=Lib.hid (edge_snoc (A:=[.ob (w.heap.size) 25 (tbCells (.slice a t.held.length cap) (.slice a2 t.wait.length cap2)), .rd R9, .rd R8]) HS164.out)
       have HZ8 : Hid (Hp w [.ob w.heap.size 25 (tbCells (.slice a t.held.length cap) (.slice a2 t.wait.length cap2)), .rd R9, .sl v161 37 2 (ac ++ [(x, y)]).length (edgeRow (ac ++ [(x, y)])), .rd R8] w161):=HZ9.out.pull [0, 1, 3, 2] rfl (pull_nd HZ9.out.nd [0, 1, 3, 2] rfl (by decide))
       go_wp2_with fail
       go_roundw
       case rel=>exact ⟨j + 1, ac ++ [(x, y)], HJt.out, by go_num, HAn2.out, HZ8.out⟩
       case measure=>simp [intOf];try (have:=HJt.out;omega)
      ·obtain rfl : j = nx.length:=by omega
       have HAe : Hid (ac = acc ++ nx.map (fun y=>(x, y))):=Lib.hid (by have:=HAc.out;rwa [List.take_length] at this)
       clear hjt hj HAc
       have HYe : Hid (Hp w [.ob w.heap.size 25 (tbCells (.slice a t.held.length cap) (.slice a2 t.wait.length cap2)), .rd R9, .sl u6 37 2 ac.length (edgeRow ac)] wr):=HY.out.pull [0, 1, 2] rfl (pull_nd HY.out.nd [0, 1, 2] rfl (by decide))
       go_wp2_with fail
       go_roundw
       case rel =>
        refine ⟨i + 1, ac, HLt.out, by go_num, ?_, ?_, HYe.out⟩
        ·have h1:=HAl.out;have h4:=HNl.out
         rw [HAe.out, List.length_append, List.length_map];omega
        ·have:=HAn.out
         rw [HAe.out, List.append_assoc];exact this
       case measure=>simp [intOf];try (have:=HLt.out;omega)
    ·obtain rfl : i = ws.length:=by omega
     have HE2 : Hid (res = acc):=Lib.hid (by rw [← HAc.out, List.drop_length, List.flatMap_nil, List.append_nil])
     clear hlt hi HAc
     go_wp2_with fail
     go_ret
     rw [HE2.out]
     exact edge_hand (HY.out.own 2 rfl) HY.out.old
end Go.Proofs.Ytooaldglgkjjgaa
/- the walk of the reference's Copy -/
namespace Go.Proofs.Ytooaldglgkjjgaa
open Go.RowKit
set_option maxRecDepth 20000

theorem one_ints (l : List Int) : ∀ u ∈ intRow l, u.oneCell' = true:=fun u hu=>by
  obtain ⟨s, _, rfl⟩:=List.mem_map.1 hu
  rfl
theorem SlRd.one {v : Value} {z n : Nat} {xs : List Value} {R : List Rng} (h : SlRd v z n xs R) : v.oneCell' = true:=by
  obtain ⟨a, cap, rfl, _⟩:=h
  rfl
end Go.Proofs.Ytooaldglgkjjgaa
/- the library's Grow of a nil list of numbers, and Concat of two lists of numbers -/
namespace Go.Proofs.Ytooaldglgkjjgaa
open Go.RowKit
set_option maxRecDepth 20000
set_option linter.unusedSimpArgs false
set_option linter.unusedVariables false

theorem info_iz : (Try.prog.info? 3).map (fun i=>(i.zero, i.size, i.bytes)) = some (some (.int .i64 0), 1, 8):=by kernel_rfl
theorem info_full {t : TypeId} {z : Value} {s b : Nat} (h : (Try.prog.info? t).map (fun i=>(i.zero, i.size, i.bytes)) = some (some z, s, b)) : ∃ i, Try.prog.info? t = some i ∧ i.zero = some z ∧ i.size = s ∧ i.bytes = b:=by
 cases hi : Try.prog.info? t with
 | none=>rw [hi] at h;cases h
 | some i =>
  rw [hi] at h
  simp only [Option.map_some, Option.some.injEq, Prod.mk.injEq] at h
  exact ⟨i, rfl, h.1, h.2.1, h.2.2⟩
set_option maxHeartbeats 8000000 in
theorem growI_any (n : Nat) (w : World) (h0 : 0 < n) (hn : n ≤ 1000000) :
  Calls Try.prog 63 #[.slice none 0 0, .int .i64 n] w fun e w'=>∃ u, e = .returned u ∧ w'.ownsRow w.heap.size 3 1 u 0 [] ∧ Below w.heap.size w w':=by
 obtain ⟨i0, hi0, hz0, hzs, hzb⟩:=info_full info_iz
 obtain ⟨G, hG⟩ : ∃ G, G = grownCap w n 0 3:=⟨_, rfl⟩
 have hGn : n ≤ G:=by rw [hG];exact grownCap_ge w _ _ _
 have hGm : G ≤ maxLen:=by rw [hG];exact grownCap_le_maxLen w _ _ _ (by unfold maxLen;omega)
 have hr:=Lib.run_append_nil_zeros (P:=Try.prog) w 38 3 38 3 i0 _ .i64 .i64 Try.underlying38 Try.underlying3 hi0 hz0 n h0 (by omega) (by omega) (by rw [hzb];omega)
 rw [← hG] at hr
 obtain ⟨Z, hZ⟩ : ∃ Z, Z = Builtin.zeroCells (Value.int .i64 0).cells n ++ Builtin.zeroCells (Value.int .i64 0).cells (G - n):=⟨_, rfl⟩
 rw [← hZ] at hr
 have hZs : Z.size = G:=by
  rw [hZ, Array.size_append]
  simp [Builtin.zeroCells, Value.cells]
  omega
 obtain ⟨w1, hw1⟩ : ∃ w1, w1 = w.drew.alloc (.cells Z 3):=⟨_, rfl⟩
 rw [← hw1] at hr
 have HG1 : Hid (w1.ownsRow w.heap.size 3 1 (.slice (some ⟨w.heap.size, 0, none⟩) 0 G) 0 []):=by
  refine ⟨rfl, .inr ⟨w.heap.size, G, Z, rfl, Nat.le_refl _, ?_, Nat.zero_le _, hGm, by rw [hZs, Nat.mul_one], by simp⟩⟩
  rw [hw1]
  exact heap_alloc_last w.drew _
 have HB1 : Hid (Below w.heap.size w w1):=by
  rw [hw1]
  exact (Below.refl w.heap.size w).drew.alloc (Nat.le_refl _) _
 have hni : (0 : Int) < (n : Int):=by omega
 have hn0 : ¬ (n : Int) < 0:=by omega
 have hnm : (n : Int) ≤ 1000000:=by omega
 have hG0 : ¬ G = 0:=by omega
 clear hw1 hZ hZs hGm hG hi0 hz0 hzs hzb hn h0
 go_enter Try.func63, Try.ntmps63
 go_wp2_with (at_builtin;refine Lib.wpList_append_run _ rfl (.tmp 20) (.tmp 21) _ _ rfl _ _ rfl rfl _ _ hr ?_)
 go_ret
 exact ⟨_, rfl, HG1.out, HB1.out⟩
/-- what stands in the list of the two -/
def lenTo (a b : List Int) : Nat → List Int
 | 0=>[]
 | 1=>a
 | _=>a ++ b
set_option maxHeartbeats 16000000 in
theorem concat_any (l1 l2 : List Int) (v1 v2 : Value) (b : Nat) (R : List Rng) (w : World) (hb : RdIn w [(b, 0, [v1, v2])]) (h1 : IntRd v1 l1 R) (h2 : IntRd v2 l2 R) (hR : RdIn w R) (hl : l1.length + l2.length ≤ 1000000) (h0 : 0 < l1.length + l2.length) :
  Calls Try.prog 36 #[.slice (some ⟨b, 0, none⟩) 2 2] w fun e w'=>∃ u, e = .returned u ∧ w'.ownsRow w.heap.size 3 1 u (l1 ++ l2).length (intRow (l1 ++ l2)) ∧ Below w.heap.size w w':=by
 have HLs : Hid (∀ j, j < 2 → ∃ (l : List Int) (a : Option Addr) (c : Nat), ([v1, v2] : List Value)[j]? = some (.slice a l.length c) ∧ IntRd (.slice a l.length c) l R ∧ lenTo l1 l2 (j + 1) = lenTo l1 l2 j ++ l):=by
  intro j hj
  obtain ⟨a, c, e1, _⟩:=IntRd.cells h1
  obtain ⟨a', c', e2, _⟩:=IntRd.cells h2
  rcases (show j = 0 ∨ j = 1 by omega) with rfl | rfl
  ·exact ⟨l1, a, c, by rw [e1];rfl, by rw [← e1];exact h1, rfl⟩
  ·exact ⟨l2, a', c', by rw [e2];rfl, by rw [← e2];exact h2, rfl⟩
 have HLe : Hid (∀ j, j ≤ 2 → (lenTo l1 l2 j).length ≤ 1000000):=by
  intro j hj
  rcases (show j = 0 ∨ j = 1 ∨ j = 2 by omega) with rfl | rfl | rfl
  ·exact Nat.zero_le _
  ·show l1.length ≤ _;omega
  ·show (l1 ++ l2).length ≤ _;rw [List.length_append];omega
 have HTo : Hid (lenTo l1 l2 2 = l1 ++ l2):=rfl
 have HT0 : Hid (lenTo l1 l2 0 = []):=rfl
 have HP0 : Hid (0 < (l1 ++ l2).length):=Lib.hid (by rw [List.length_append];exact h0)
 have HS0:=Lib.hid (Hp.startrd w ((b, 0, [v1, v2]) :: R) (fun r hr=>(List.mem_cons.1 hr).elim (fun e=>hb r (by rw [e];exact List.mem_cons_self ..)) (hR r)))
 have HUI : Hid (Try.prog.underlying 38 = some (.slice 3)):=Try.underlying38
 generalize lenTo l1 l2 = lt at *
 generalize l1 ++ l2 = lr at *
 have hbl : Hid (∀ W, RdIn W ((b, 0, [v1, v2]) :: R) → ∀ (j : Nat) v, ([v1, v2] : List Value)[j]? = some v → W.cell? ⟨b, j, none⟩ = some v):=fun W h j v hv=>by
  have:=(h _ (List.mem_cons_self ..)).2 j v hv
  rwa [Nat.zero_add] at this
 clear hb h1 h2 hR hl h0
 go_enter Try.func36, Try.ntmps36
 go_wp2_with fail
 go_loopw [3, 11] (fun sv jv wr=>∃ j : Nat, j ≤ 2 ∧ jv = .int .i64 j ∧ sv = .int .i64 ((lt j).length : Nat) ∧ Hp w [.rd ((b, 0, [v1, v2]) :: R)] wr) (fun _ jv _=>2 - (intOf jv).toNat)
 case atStart=>exact ⟨0, by omega, rfl, by rw [HT0.out];rfl, HS0.out⟩
 case round =>
  clear HS0
  obtain ⟨j, hj, rfl, rfl, hs⟩:=hrel
  have HY:=Lib.hid hs
  clear hs
  by_cases hlt : j < 2
  ·obtain ⟨l, a, c, hcj, hrd, hto⟩:=HLs.out j hlt
   have cj : wr.cell? ⟨b, j, none⟩ = some (.slice a l.length c):=hbl.out wr (HY.out.reads 0 rfl) j _ hcj
   have hln:=HLe.out (j + 1) (by omega)
   have hle : ((lt (j + 1)).length : Int) = ((lt j).length : Int) + (l.length : Int):=by rw [hto, List.length_append];omega
   have HLn : Hid ((lt (j + 1)).length = (lt j).length + l.length):=Lib.hid (by rw [hto, List.length_append])
   have hw1 : IntKind.i64.wrap (((lt j).length : Int) + (l.length : Int)) = ((lt j).length : Int) + (l.length : Int):=by rw [IntKind.wrap_i64];omega
   have hnn : decide (((lt j).length : Int) + (l.length : Int) < 0) = false:=decide_eq_false (by omega)
   have hnn2 : ¬ (((lt j).length : Int) + (l.length : Int) < 0):=by omega
   have hji : (j : Int) < 2:=by omega
   have hj0 : (0 : Int) ≤ (j : Int):=by omega
   have HJt:=Lib.hid hlt
   clear hcj hrd hto hln hle hlt hj
   go_wp2_with fail
   go_roundw
   case rel=>exact ⟨j + 1, HJt.out, by go_num, by rw [HLn.out];rfl, HY.out⟩
   case measure=>simp [intOf];try (have:=HJt.out;omega)
  ·obtain rfl : j = 2:=by omega
   have hto : lt 2 = lr:=HTo.out
   rw [hto]
   have hpos : 0 < lr.length:=HP0.out
   have hln : lr.length ≤ 1000000:=by rw [← hto];exact HLe.out 2 (by omega)
   have HGr : Hid (∀ W, Calls Try.prog 63 #[.slice none 0 0, .int .i64 lr.length] W fun e w'=>∃ u, e = .returned u ∧ w'.ownsRow W.heap.size 3 1 u 0 [] ∧ Below W.heap.size W w'):=fun W=>growI_any lr.length W hpos hln
   clear hto hpos hln hlt hj
   go_wp2_with (go_at_call 63;refine (HGr.out _).mono ?_;rintro e w2 ⟨u0, rfl, ho, hb⟩)
   have HX0:=Lib.hid (HY.out.addown hb ho)
   clear HY hb ho HGr
   go_loopw [6, 27] (fun ov jv wr=>∃ (j : Nat) (acc : List Int), j ≤ 2 ∧ jv = .int .i64 j ∧ acc = lt j ∧ Hp w [.rd ((b, 0, [v1, v2]) :: R), .sl ov 3 1 acc.length (intRow acc)] wr) (fun _ jv _=>2 - (intOf jv).toNat)
   case atStart=>exact ⟨0, [], by omega, rfl, HT0.out.symm, HX0.out⟩
   case round =>
    clear HX0
    obtain ⟨j, acc, hj, rfl, hac, hs⟩:=hrel
    have HY:=Lib.hid hs
    have HAc:=Lib.hid hac
    clear hs hac
    by_cases hlt : j < 2
    ·obtain ⟨l, a, c, hcj, hrd, hto⟩:=HLs.out j hlt
     have cj : wr.cell? ⟨b, j, none⟩ = some (.slice a l.length c):=hbl.out wr (HY.out.reads 0 rfl) j _ hcj
     have HRd:=Lib.hid hrd
     have HLn : Hid (acc.length + l.length ≤ 1048576):=Lib.hid (by
      have:=HLe.out (j + 1) (by omega)
      rw [hto, List.length_append, ← HAc.out] at this
      omega)
     have HTo2 : Hid (lt (j + 1) = acc ++ l):=Lib.hid (by rw [hto, HAc.out])
     have hji : (j : Int) < 2:=by omega
     have hj0 : (0 : Int) ≤ (j : Int):=by omega
     have HJt:=Lib.hid hlt
     clear hcj hrd hto hlt hj
     go_wp2_with (first | ((with_reducible refine wpList_append_sl (HY.out) (.tmp 31) (.tmp 32) 38 1 (v:=u6) (n:=acc.length) (xs:=intRow acc) ?_ (xv:=.slice a l.length c) (m:=l.length) (ys:=intRow l) (R:=R) ?_ ?_ HUI.out elem_i ?_ ?_ ?_ ?_ ?_);(exact rfl);(exact HRd.out);(exact (HY.out.reads 0 rfl).sub (fun r hr=>List.mem_cons_of_mem _ hr));(exact rfl);(exact rfl);(exact (one_ints _));(exact HLn.out)))
     intro v9 w9 hs9
     have hs8 : Hp w [.rd ((b, 0, [v1, v2]) :: R), .sl v9 3 1 (acc ++ l).length (intRow (acc ++ l))] w9:=by
      have e : intRow (acc ++ l) = intRow acc ++ intRow l:=by unfold intRow;rw [List.map_append]
      rw [e, List.length_append];exact hs9
     have HS8:=Lib.hid hs8
     clear hs8 hs9 cj
     go_wp2_with fail
     go_roundw
     case rel=>exact ⟨j + 1, acc ++ l, HJt.out, by go_num, HTo2.out.symm, HS8.out⟩
     case measure=>simp [intOf];try (have:=HJt.out;omega)
    ·obtain rfl : j = 2:=by omega
     have HE : Hid (acc = lr):=Lib.hid (by rw [HAc.out, HTo.out])
     clear hlt hj HAc
     go_wp2_with fail
     go_ret
     rw [← HE.out]
     exact ⟨_, rfl, HY.out.own 1 rfl, HY.out.old⟩
end Go.Proofs.Ytooaldglgkjjgaa
/- an element of a slice of its own is written, whole -/
namespace Go.Proofs.Ytooaldglgkjjgaa
open Go.RowKit
set_option maxRecDepth 20000

theorem run_injA {a b : World} (h : (Result.ok () a : Result Unit) = .ok () b) : a = b:=by injection h
theorem setCells_rowA {W : World} {g o : Nat} {cs cur : List Value} {t : TypeId} (hg : W.heap[g]? = some (.cells cur.toArray t (0, 0))) (hfit : o + cs.length ≤ cur.length) (h1 : ∀ v ∈ cs, v.oneCell' = true) :
    W.setCells g o cs = W.setRow g (cur.take o ++ cs ++ cur.drop (o + cs.length)).toArray:=by
  have a:=run_storeCells_at Try.prog g o t cs 0 cur.toArray W hg (by simpa using hfit) h1
  have b:=run_storeCells_cells (P:=Try.prog) g o cs 0 W (fun j hj=>by
    rw [Nat.add_zero, cell_of_row W g (o + j) _ _ _ hg, List.getElem?_toArray, List.getElem?_eq_getElem (by omega)];rfl) (fun j hj=>frozen_of_row _ _ _ _ _ hg) h1
  rw [a] at b
  simp only [Nat.add_zero] at b
  rw [← run_injA b]
end Go.Proofs.Ytooaldglgkjjgaa
/- the reference's Cycle and Would of chapter 9 -/
namespace Go.Proofs.Ytooaldglgkjjgaa
open Go.RowKit
open Go.Act renaming put → z0
open List renaming setIfInBounds_toArray → z1, set_cons_zero → z2, set_cons_succ → z3
set_option maxRecDepth 20000
set_option linter.unusedSimpArgs false
set_option linter.unusedVariables false

/-- a block of one's own is read from now on -/
theorem Hp.obrd {w W : World} {A : List Th} {b : Nat} {e : TypeId} {cs : List Value} (h : Hp w (A ++ [.ob b e cs]) W) : w.heap.size ≤ b ∧ Hp w (A ++ [.rd [(b, 0, cs)]]) W:=by
 have ho : (Th.ob b e cs).In w.heap.size W:=h.all _ (List.mem_append_right _ (List.mem_singleton.2 rfl))
 obtain ⟨ha, _, hc⟩:=List.pairwise_append.1 h.nd
 refine ⟨ho.1, h.old, fun x hx=>?_, ?_⟩
 ·rcases List.mem_append.1 hx with hx | hx
  ·exact h.all x (List.mem_append_left _ hx)
  ·obtain rfl:=List.mem_singleton.1 hx
   intro r hr
   obtain rfl:=List.mem_singleton.1 hr
   refine ⟨(Array.getElem?_eq_some_iff.1 ho.2).1, fun j u hu=>?_⟩
   rw [Nat.zero_add, cell_of_row W b j _ _ _ ho.2, List.getElem?_toArray];exact hu
 ·rw [List.pairwise_append]
  refine ⟨ha, List.pairwise_singleton _ _, fun a ham c hb=>?_⟩
  obtain rfl:=List.mem_singleton.1 hb
  have hap:=hc a ham _ (List.mem_singleton.2 rfl)
  refine ⟨fun c hac=>⟨fun hbc=>(by cases hbc), fun hbr=>?_⟩, fun c hbc=>(by cases hbc)⟩
  obtain ⟨r, hr, rfl⟩:=List.mem_map.1 hbr
  obtain rfl:=List.mem_singleton.1 hr
  exact (hap.1 _ hac).1 rfl
theorem one_rd (b : Nat) (x : Int) : IntRd (.slice (some ⟨b, 0, none⟩) 1 1) [x] [(b, 0, [.int .i64 x])] :=
 ⟨some ⟨b, 0, none⟩, 1, rfl, rfl, Nat.le_refl _, by decide, fun _=>⟨b, 0, rfl, List.mem_singleton.2 rfl⟩, fun h=>by cases h⟩
theorem waiters_len {t : Tb} (hg : GoodTb t) : (waitersR t).length ≤ 100000:=by
 unfold waitersR waitersL
 split
 ·have:=waitersFold_len t.wait []
  have:=hg.few
  simp only [List.length_nil] at *
  omega
 ·exact Nat.zero_le _
theorem cycGo_next (f : Int → List Int) (tx : Int) (n k : Nat) : cycGo f tx n (k + 1) = if closedF f n [tx] = [] then cycGo f tx (n + 1) k else closedF f n [tx]:=rfl
set_option maxHeartbeats 16000000 in
theorem rcycle_any {h v : Value} {t : Tb} {R : List Rng} (tx : Int) (w : World) (ht : TbRd h v t R) (hR : RdIn w R) (hg : GoodTb t) :
  Calls Try.prog 15 #[.agg (tbCells h v).toArray, .int .i64 tx] w (IntsPost w (cycR t tx)):=by
 obtain ⟨ws, hws⟩ : ∃ ws, waitersR t = ws:=⟨_, rfl⟩
 have HWl : Hid (ws.length ≤ 100000):=Lib.hid (by rw [← hws];exact waiters_len hg)
 have HWs : Hid (∀ W, Below w.heap.size w W → Calls Try.prog 32 #[.agg (tbCells h v).toArray] W (IntsPost W ws)):=fun W hb=>by
  have:=rwaiters_any W ht (hR.below hb) hg
  rwa [hws] at this
 obtain ⟨fc, hfc⟩ : ∃ fc : Nat → List Int, (fun n=>closedF (forR t) (n - 1) [tx]) = fc:=⟨_, rfl⟩
 have HCl : Hid (∀ (n : Nat) u R' W, 1 ≤ n → n ≤ 100000 → Below w.heap.size w W → IntRd u [tx] R' → RdIn W R' → Calls Try.prog 37 #[.agg (tbCells h v).toArray, u, .int .i64 (n : Int)] W (IntPost2 W R' (fc n))):=fun n u R' W h1 h2 hb h3 h4=>by
  have:=rclosed_any ht hg (n - 1) [tx] u R' W (hR.below hb) h3 h4 (by simp) (by rw [List.length_singleton];omega)
  rw [List.length_singleton, show 1 + (n - 1) = n by omega] at this
  rw [← hfc];exact this
 obtain ⟨go, hgo⟩ : ∃ go : Nat → Nat → List Int, cycGo (forR t) tx = go:=⟨_, rfl⟩
 have HGn : Hid (∀ n k, 1 ≤ n → go (n - 1) (k + 1) = if fc n = [] then go n k else fc n):=fun n k h1=>by
  rw [← hgo, ← hfc, cycGo_next, show n - 1 + 1 = n by omega]
 have HG0 : Hid (∀ n, go n 0 = []):=fun n=>by rw [← hgo];rfl
 have HE : Hid (cycR t tx = go 0 ws.length):=Lib.hid (by rw [← hgo, ← hws];rfl)
 obtain ⟨a, cap, rfl, hnc, hcm⟩:=ht.1.shape
 obtain ⟨a2, cap2, rfl, hnc2, hcm2⟩:=ht.2.shape
 have HUI : Hid (Try.prog.underlying 38 = some (.slice 3)):=Try.underlying38
 have hws2 : (ws.length : Int) ≤ 100000:=by have:=HWl.out;omega
 clear hR hws hfc hgo
 generalize cycR t tx = res at *
 have h1:=(Hp.start w).put 25 (tbCells (.slice a t.held.length cap) (.slice a2 t.wait.length cap2))
 simp only [List.nil_append] at h1
 have HS0 : Hid (Hp w [.ob w.heap.size 25 (tbCells (.slice a t.held.length cap) (.slice a2 t.wait.length cap2))] (w.alloc (.cells (tbCells (.slice a t.held.length cap) (.slice a2 t.wait.length cap2)).toArray 25))):=h1
 clear h1
 obtain ⟨fsHUG, huHUG⟩:=under_gr
 have HUG:=Lib.hid huHUG
 clear huHUG
 obtain ⟨fsHUK, huHUK⟩:=under_lk
 have HUK:=Lib.hid huHUK
 clear huHUK
 obtain ⟨fsHUT, huHUT⟩:=under_tb
 have HUT:=Lib.hid huHUT
 clear huHUT
 go_enter Try.func15, Try.ntmps15
 go_upto_region 1 with (fail)
 generalize (w.alloc (.cells (tbCells (.slice a t.held.length cap) (.slice a2 t.wait.length cap2)).toArray 25)) = w1 at *
 go_wp2_with fail
 go_loopw [5] (fun iv wr=>∃ n : Nat, 1 ≤ n ∧ n ≤ ws.length + 1 ∧ iv = .int .i64 n ∧ go (n - 1) (ws.length + 1 - n) = res ∧ Hp w [.ob w.heap.size 25 (tbCells (.slice a t.held.length cap) (.slice a2 t.wait.length cap2))] wr) (fun iv _=>ws.length + 1 - (intOf iv).toNat)
 case atStart=>exact ⟨1, by omega, by omega, rfl, by rw [HE.out];rfl, HS0.out⟩
 case round =>
  clear HS0
  obtain ⟨n, hn1, hn2, rfl, hgo, hs⟩:=hrel
  have HY:=Lib.hid hs
  have HGo:=Lib.hid hgo
  clear hs hgo
  go_wp2_with (first | ((with_reducible refine wpList_load_ob 25 (.tmp 2) (w.heap.size) (tbCells (.slice a t.held.length cap) (.slice a2 t.wait.length cap2)) 25 HUT.out ?_ ?_ ?_ ?_ ?_);(exact rfl);(exact (HY.out).get 0 rfl);(exact rfl);(exact info_tb);simp only [z0, z1, z2, z3]))
  refine (HWs.out _ (HY.out).old).mono ?_
  rintro e w21 ⟨v9, R9, rfl, hrd2, hin2, hnew2, hb⟩
  obtain ⟨a9, c9, rfl, hl9, hm9, hg9⟩:=hrd2.cells
  have Hrd9:=Lib.hid hrd2
  have Hnw9:=Lib.hid hnew2
  have Hgc9:=Lib.hid hg9
  clear hg9
  have HS21 : Hid (Hp w [.ob (w.heap.size) 25 (tbCells (.slice a t.held.length cap) (.slice a2 t.wait.length cap2)), .rd R9] w21):=(HY.out).addrd hb R9 hin2 (fun r hr=>.inl (hnew2 r hr))
  clear hb hin2 hrd2 hnew2
  clear HY
  have HS22 : Hid (Hp w [.ob (w.heap.size) 25 (tbCells (.slice a t.held.length cap) (.slice a2 t.wait.length cap2))] w21):=HS21.out.pull [0] rfl (pull_nd HS21.out.nd [0] rfl (by decide))
  clear HS21
  by_cases hle : n ≤ ws.length
  ·have HLe:=Lib.hid hle
   have HN1:=Lib.hid hn1
   have dl : decide ((n : Int) ≤ (ws.length : Int)) = true:=decide_eq_true (by omega)
   have dln : decide (n ≤ ws.length) = true:=decide_eq_true hle
   have hGx : Hid (if fc n = [] then go n (ws.length - n) = res else fc n = res):=Lib.hid (by
    have h8:=HGo.out
    rw [show ws.length + 1 - n = (ws.length - n) + 1 by omega, HGn.out n _ hn1] at h8
    by_cases h9 : fc n = []
    ·rw [if_pos h9] at h8 ⊢;exact h8
    ·rw [if_neg h9] at h8 ⊢;exact h8)
   have hn64 : (n : Int) ≤ 100000:=by omega
   have hn0 : (0 : Int) ≤ (n : Int):=by omega
   clear hle hn1 hn2 HGo
   go_upto_region 4 with (fail)
   clear dl dln
   go_wp2_with (first | ((with_reducible refine wpList_load_ob 25 (.tmp 2) (w.heap.size) (tbCells (.slice a t.held.length cap) (.slice a2 t.wait.length cap2)) 25 HUT.out ?_ ?_ ?_ ?_ ?_);(exact rfl);(exact (HS22.out).get 0 rfl);(exact rfl);(exact info_tb);simp only [z0, z1, z2, z3]) | ((with_reducible refine wpList_build_vals 38 1 elem_i HUI.out [.int .i64 tx] ?_ ?_ ?_ ?_ ?_ ?_);(exact (by intro v hv;simp only [List.mem_cons, List.not_mem_nil, or_false] at hv;subst hv;rfl));(exact Nat.succ_pos _);(simp only [List.length_cons, List.length_nil];omega);(exact rfl);(simp only [List.map_toArray, List.map_cons, List.map_nil, List.zipIdx_cons, List.zipIdx_nil];exact rfl);simp only [z0, z1, z2, z3]))
   have HS23 : Hid (Hp w [.ob (w.heap.size) 25 (tbCells (.slice a t.held.length cap) (.slice a2 t.wait.length cap2)), .ob (w21.heap.size) 3 ([.int .i64 tx])] (w21.alloc (.cells ([.int .i64 tx]).toArray 3))):=(HS22.out).put 3 ([.int .i64 tx])
   clear HS22
   generalize (w21.alloc (.cells ([.int .i64 tx]).toArray 3)) = w22 at *
   generalize w21.heap.size = B21 at *
   have HS24 : Hid (Hp w [.ob (w.heap.size) 25 (tbCells (.slice a t.held.length cap) (.slice a2 t.wait.length cap2)), .ob B21 3 ([.int .i64 tx])] w22):=HS23.out.pull [0, 1] rfl (pull_nd HS23.out.nd [0, 1] rfl (by decide))
   clear HS23
   obtain ⟨hB7, hs7⟩:=Hp.obrd (A:=[.ob (w.heap.size) 25 (tbCells (.slice a t.held.length cap) (.slice a2 t.wait.length cap2))]) HS24.out
   have HB7:=Lib.hid hB7
   have HS7o:=Lib.hid hs7.old.size
   have HS7:=Lib.hid hs7
   clear hs7 hB7 HS24
   go_wp2_with fail
   refine (HCl.out n _ [(B21, 0, [.int .i64 tx])] _ HN1.out (by have:=HLe.out;have:=HWl.out;omega) HS7.out.old (one_rd B21 tx) (HS7.out.reads 1 rfl)).mono ?_
   rintro e w23 ⟨v8, R8, rfl, hrd2, hin2, hnew2, hb⟩
   obtain ⟨a8, c8, rfl, hl8, hm8, hg8⟩:=hrd2.cells
   have Hrd8:=Lib.hid hrd2
   have Hnw8:=Lib.hid hnew2
   have Hgc8:=Lib.hid hg8
   clear hg8
   have HS25 : Hid (Hp w [.ob (w.heap.size) 25 (tbCells (.slice a t.held.length cap) (.slice a2 t.wait.length cap2)), .rd [(B21, 0, [.int .i64 tx])], .rd R8] w23):=(HS7.out).addrd hb R8 hin2 (fun r hr=>(hnew2 r hr).elim .inl (fun h=>.inr ⟨.rd [(B21, 0, [.int .i64 tx])], List.mem_of_getElem? (i:=1) rfl, h⟩))
   clear hb hin2 hrd2 hnew2
   clear HS7
   have HOn : Hid (∀ r ∈ R8, w.heap.size ≤ r.1):=Lib.hid (fun r hr=>by
    rcases Hnw8.out r hr with h9 | h9
    ·exact Nat.le_trans HS7o.out h9
    ·obtain ⟨r2, hr2, e2⟩:=List.mem_map.1 h9
     obtain rfl:=List.mem_singleton.1 hr2
     rw [← e2];exact HB7.out)
   by_cases h9 : fc n = []
   ·have HN2 : Hid (go n (ws.length - n) = res):=Lib.hid (by have:=hGx.out;rw [if_pos h9] at this;exact this)
    have hl9 : ((fc n).length : Int) = 0:=by rw [h9];rfl
    have hd9 : decide ((0 : Int) < ((fc n).length : Int)) = false:=by rw [hl9];rfl
    clear h9 hGx
    have HYe : Hid (Hp w [.ob w.heap.size 25 (tbCells (.slice a t.held.length cap) (.slice a2 t.wait.length cap2))] w23):=HS25.out.pull [0] rfl (pull_nd HS25.out.nd [0] rfl (by decide))
    go_wp2_with fail
    go_roundw
    case rel=>exact ⟨n + 1, by omega, by have:=HLe.out;omega, by go_num, by rw [show n + 1 - 1 = n by omega, show ws.length + 1 - (n + 1) = ws.length - n by omega];exact HN2.out, HYe.out⟩
    case measure=>simp [intOf];try (have:=HLe.out;omega)
   ·have HN2 : Hid (fc n = res):=Lib.hid (by have:=hGx.out;rw [if_neg h9] at this;exact this)
    have hp9 : (0 : Int) < ((fc n).length : Int):=by have:=List.length_pos_iff.2 h9;omega
    have hd9 : decide ((0 : Int) < ((fc n).length : Int)) = true:=decide_eq_true hp9
    clear h9 hGx
    go_wp2_with fail
    go_ret
    rw [← HN2.out]
    exact ⟨_, R8, rfl, Hrd8.out, HS25.out.reads 2 rfl, HOn.out, HS25.out.old⟩
  ·have dl : decide ((n : Int) ≤ (ws.length : Int)) = false:=decide_eq_false (by omega)
   have dln : decide (n ≤ ws.length) = false:=decide_eq_false hle
   have HE2 : Hid (res = []):=Lib.hid (by rw [← HGo.out, show ws.length + 1 - n = 0 by omega];exact HG0.out _)
   clear hle hn1 hn2 HGo
   go_wp2_with fail
   go_ret
   rw [HE2.out]
   exact int_none HS22.out.old
theorem req_ok {t : Tb} {g : Gr} (h : (requestR t g).2.2 = 0) : TbOk t:=by
 refine tbOkB_iff.1 ?_
 unfold requestR at h
 split at h
 ·exact absurd h (by decide)
 ·next h9=>simpa using h9
/-- a list and an error, handed back -/
def WouldPost (w : World) (x : List Int × Int) (e : Ending) (w' : World) : Prop:=∃ v R, e = .returned (.tuple #[v, .int .i64 x.2]) ∧ IntRd v x.1 R ∧ RdIn w' R ∧ (∀ r ∈ R, w.heap.size ≤ r.1) ∧ Below w.heap.size w w'
set_option maxHeartbeats 16000000 in
theorem rwould_any {h v : Value} {t : Tb} {R : List Rng} (g : Gr) (w : World) (ht : TbRd h v t R) (hR : RdIn w R) (hg : GoodTb t) (hk : GoodGr g) :
  Calls Try.prog 18 #[.agg (tbCells h v).toArray, .agg (grCells g).toArray] w (WouldPost w (wouldR t g)):=by
 obtain ⟨u, bb, cd, hu⟩ : ∃ u bb cd, requestR t g = (u, bb, cd):=⟨_, _, _, rfl⟩
 have HRq : Hid (∀ W, RdIn W R → Calls Try.prog 28 #[.agg (tbCells h v).toArray, .agg (grCells g).toArray] W (TbPost3 W R (u, bb, cd))):=fun W h9=>by
  have:=rrequest_any g W ht h9 hg hk
  rwa [hu] at this
 have HGu : Hid (cd = 0 → GoodTb u):=fun h0=>by
  have h9 : (requestR t g).2.2 = 0:=by rw [hu];exact h0
  have:=(request_ok (req_ok h9) h9).1.good
  rwa [hu] at this
 have HE : Hid (wouldR t g = if cd = 0 then (cycR u g.tx, 0) else ([], cd)):=Lib.hid (by unfold wouldR;rw [hu])
 obtain ⟨a, cap, rfl, hnc, hcm⟩:=ht.1.shape
 obtain ⟨a2, cap2, rfl, hnc2, hcm2⟩:=ht.2.shape
 have HR0:=Lib.hid (Hp.startrd w R hR)
 clear hu hR ht hg hk
 generalize wouldR t g = res at *
 have h1:=(HR0.out.put 25 (tbCells (.slice a t.held.length cap) (.slice a2 t.wait.length cap2))).put 29 (grCells g)
 simp only [List.nil_append, List.cons_append] at h1
 have e9 : (w.alloc (.cells (tbCells (.slice a t.held.length cap) (.slice a2 t.wait.length cap2)).toArray 25)).heap.size = w.heap.size + 1:=by simp only [World.alloc, Array.size_push]
 rw [e9] at h1
 have HS0:=Lib.hid h1
 clear e9
 clear h1 HR0
 obtain ⟨fsHUG, huHUG⟩:=under_gr
 have HUG:=Lib.hid huHUG
 clear huHUG
 obtain ⟨fsHUK, huHUK⟩:=under_lk
 have HUK:=Lib.hid huHUK
 clear huHUK
 obtain ⟨fsHUT, huHUT⟩:=under_tb
 have HUT:=Lib.hid huHUT
 clear huHUT
 go_enter Try.func18, Try.ntmps18
 go_upto_region 1 with (fail)
 generalize ((w.alloc (.cells (tbCells (.slice a t.held.length cap) (.slice a2 t.wait.length cap2)).toArray 25)).alloc (.cells (grCells g).toArray 29)) = w1 at *
 generalize w.heap.size + 1 = b3 at *
 go_wp2_with (first | ((with_reducible refine wpList_load_ob 25 (.tmp 2) (w.heap.size) (tbCells (.slice a t.held.length cap) (.slice a2 t.wait.length cap2)) 25 HUT.out ?_ ?_ ?_ ?_ ?_);(exact rfl);(exact (HS0.out).get 1 rfl);(exact rfl);(exact info_tb);simp only [z0, z1, z2, z3]) | ((with_reducible refine wpList_load_ob 29 (.tmp 3) b3 (grCells g) 29 HUG.out ?_ ?_ ?_ ?_ ?_);(exact rfl);(exact (HS0.out).get 2 rfl);(exact rfl);(exact info_gr);simp only [z0, z1, z2, z3]))
 refine (HRq.out _ ((HS0.out).reads 0 rfl)).mono ?_
 rintro e w21 ⟨h9, v9, R9, rfl, hrd2, hin2, hnew2, hb⟩
 obtain ⟨a9, c9, rfl, _, _⟩:=hrd2.1.shape
 obtain ⟨b9, d9, rfl, _, _⟩:=hrd2.2.shape
 have Hrd9:=Lib.hid hrd2
 have HS21 : Hid (Hp w [.rd R, .ob (w.heap.size) 25 (tbCells (.slice a t.held.length cap) (.slice a2 t.wait.length cap2)), .ob b3 29 (grCells g), .rd R9] w21):=(HS0.out).addrd hb R9 hin2 (fun r hr=>(hnew2 r hr).elim .inl (fun h=>.inr ⟨.rd R, List.mem_of_getElem? (i:=0) rfl, h⟩))
 clear hb hin2 hrd2 hnew2
 clear HS0
 go_upto_region 2 with (first | ((with_reducible refine wpList_alloc_ob 25 (tbCells (.slice none 0 0) (.slice none 0 0)) ?_ ?_);(exact alloc_tb);simp only [z0, z1, z2, z3]) | ((with_reducible refine wpList_store_ob 25 (.tmp 6) (w21.heap.size) (tbCells (.slice a9 u.held.length c9) (.slice b9 u.wait.length d9)) (tbCells (.slice none 0 0) (.slice none 0 0)) 25 ?_ ?_ ?_ ?_ ?_ ?_ ?_);(exact rfl);(exact rfl);(exact ((HS21.out).put 25 (tbCells (.slice none 0 0) (.slice none 0 0))).get 4 rfl);(exact info_tb);(exact rfl);(exact (oneCell_tb _ _ _ _ _ _));skip))
 have HS22 : Hid (Hp w [.rd R, .ob (w.heap.size) 25 (tbCells (.slice a t.held.length cap) (.slice a2 t.wait.length cap2)), .ob b3 29 (grCells g), .rd R9, .ob (w21.heap.size) 25 (tbCells (.slice a9 u.held.length c9) (.slice b9 u.wait.length d9))] ((w21.alloc (.cells (tbCells (.slice none 0 0) (.slice none 0 0)).toArray 25)).setRow (w21.heap.size) (tbCells (.slice a9 u.held.length c9) (.slice b9 u.wait.length d9)).toArray)):=((HS21.out).put 25 (tbCells (.slice none 0 0) (.slice none 0 0))).row 4 rfl (tbCells (.slice a9 u.held.length c9) (.slice b9 u.wait.length d9))
 clear HS21
 generalize ((w21.alloc (.cells (tbCells (.slice none 0 0) (.slice none 0 0)).toArray 25)).setRow (w21.heap.size) (tbCells (.slice a9 u.held.length c9) (.slice b9 u.wait.length d9)).toArray) = w22 at *
 generalize w21.heap.size = B21 at *
 by_cases hc0 : cd = 0
 ·obtain ⟨e1, n1⟩:=eq_facts hc0
  have HGU:=Lib.hid (HGu.out hc0)
  have HE2 : Hid (res = (cycR u g.tx, 0)):=Lib.hid (by rw [HE.out, if_pos hc0])
  clear hc0 HGu
  go_upto_region 4 with (fail)
  clear e1 n1
  have cg : w22.cell? ⟨b3, 0, none⟩ = some (.int .i64 g.tx):=HS22.out.at 2 rfl 0 rfl
  go_wp2_with (first | ((with_reducible refine wpList_load_ob 25 (.tmp 6) B21 (tbCells (.slice a9 u.held.length c9) (.slice b9 u.wait.length d9)) 25 HUT.out ?_ ?_ ?_ ?_ ?_);(exact rfl);(exact (HS22.out).get 4 rfl);(exact rfl);(exact info_tb);simp only [z0, z1, z2, z3]))
  have HS23 : Hid (Hp w [.rd R, .ob (w.heap.size) 25 (tbCells (.slice a t.held.length cap) (.slice a2 t.wait.length cap2)), .ob b3 29 (grCells g), .rd R9, .ob B21 25 (tbCells (.slice a9 u.held.length c9) (.slice b9 u.wait.length d9))] w22):=HS22.out
  clear HS22
  have HSz:=Lib.hid HS23.out.old.size
  go_wp2_with fail
  refine (rcycle_any g.tx _ Hrd9.out ((HS23.out).reads 3 rfl) HGU.out).mono ?_
  rintro e w23 ⟨v8, R8, rfl, hrd2, hin2, hnew2, hb⟩
  obtain ⟨a8, c8, rfl, hl8, hm8, hg8⟩:=hrd2.cells
  have Hrd8:=Lib.hid hrd2
  have Hnw8:=Lib.hid hnew2
  have Hgc8:=Lib.hid hg8
  clear hg8
  have HS24 : Hid (Hp w [.rd R, .ob (w.heap.size) 25 (tbCells (.slice a t.held.length cap) (.slice a2 t.wait.length cap2)), .ob b3 29 (grCells g), .rd R9, .ob B21 25 (tbCells (.slice a9 u.held.length c9) (.slice b9 u.wait.length d9)), .rd R8] w23):=(HS23.out).addrd hb R8 hin2 (fun r hr=>.inl (hnew2 r hr))
  clear hb hin2 hrd2 hnew2
  clear HS23
  go_wp2_with fail
  go_ret2
  rw [HE2.out]
  exact ⟨_, R8, rfl, Hrd8.out, HS24.out.reads 5 rfl, fun r hr=>Nat.le_trans HSz.out (Hnw8.out r hr), HS24.out.old⟩
 ·obtain ⟨e1, n1⟩:=ne_facts hc0
  have HE2 : Hid (res = ([], cd)):=Lib.hid (by rw [HE.out, if_neg hc0])
  clear hc0 HGu
  go_wp2_with fail
  go_ret2
  rw [HE2.out]
  exact ⟨_, [], rfl, IntRd.nil _, RdIn.nil _, by simp, HS22.out.old⟩
end Go.Proofs.Ytooaldglgkjjgaa
/- a queue of ways in memory, and a set of those who have been reached -/
namespace Go.Proofs.Ytooaldglgkjjgaa
open Go.RowKit
set_option maxRecDepth 20000
set_option linter.unusedSimpArgs false
set_option linter.unusedVariables false

theorem elem_is : ElemIs 38 1 24:=elem_of (z:=.slice none 0 0) (by kernel_rfl) rfl (by decide) (by decide) (by decide)
theorem run_makeSet0 (w : World) : (Instr.makeMap 63 none).run Try.prog w = .ok (.map (some w.heap.size)) (w.alloc (.map #[] 0)):=by
 simp [Instr.makeMap, run_underlying Try.underlying63, asInt, asIntOf]
/-- what is beside a block that is written -/
theorem Hp.others {w W W' : World} {L : List Th} (h : Hp w L W) {b : Nat} (hb : w.heap.size ≤ b) (hn : ∀ x ∈ L, x.blk ≠ some b ∧ b ∉ x.reads) (hg : W.grownBy W' (some b)) : Hp w L W':=by
 have hold : ∀ k, k < w.heap.size → W'.heap[k]? = W.heap[k]?:=fun k hk=>hg.block k (Nat.lt_of_lt_of_le hk h.old.size) (fun e=>by have:=Option.some.inj e;omega)
 refine ⟨⟨hg.os.trans h.old.os, hg.tape.trans h.old.tape, hg.output.trans h.old.output, Nat.le_trans h.old.size hg.size, fun k hk=>(hold k hk).trans (h.old.block k hk)⟩, fun x hx=>?_, h.nd⟩
 exact (h.all x hx).keep hg.size (fun c hc=>hg.block c ((h.all x hx).from hc).2 (fun e=>(hn x hx).1 (by rw [hc];exact e))) hold (fun c hc=>hg.block c ((h.all x hx).reads_lt hc) (fun e=>(hn x hx).2 (by rw [← Option.some.inj e];exact hc)))
/-- what was there, and what has come since -/
theorem Hp.meet {w W0 W : World} {L M : List Th} (h : Hp w L W0) (k : Hp W0 M W) (hM : ∀ x ∈ M, x.In w.heap.size W) (hr : ∀ x ∈ M, ∀ b ∈ x.reads, W0.heap.size ≤ b ∨ ∃ z ∈ L, b ∈ z.reads) : Hp w (L ++ M) W:=by
 have h2:=h.calls k.old
 refine ⟨h2.old, fun x hx=>?_, ?_⟩
 ·rcases List.mem_append.1 hx with hx | hx
  ·exact h2.all x hx
  ·exact hM x hx
 ·rw [List.pairwise_append]
  refine ⟨h.nd, k.nd, fun x hx y hy=>⟨fun b hb=>⟨fun hyb=>?_, fun hyr=>?_⟩, fun b hyb hxr=>?_⟩⟩
  ·have h3:=((h.all x hx).from hb).2
   have h4:=((k.all y hy).from hyb).1
   omega
  ·rcases hr y hy b hyr with h3 | ⟨z, hz, hzr⟩
   ·have h4:=((h.all x hx).from hb).2
    omega
   ·exact h.reads_apart hx hz hb hzr
  ·have h3:=(h.all x hx).reads_lt hxr
   have h4:=((k.all y hy).from hyb).1
   omega
/-- what appending to a queue has done -/
structure QueOut (w W : World) (L : List Th) (i g off n : Nat) (cs : List Value) (u : Value) (g' off' cap' : Nat) (cs' : List Value) (W' : World) : Prop where
 hp : Hp w (L.set i (.ob g' 38 cs')) W'
 fit : off' + cap' ≤ cs'.length ∧ n + 1 ≤ cap' ∧ cap' ≤ maxLen
 same : ∀ k, k < n → cs'[off' + k]? = cs[off + k]?
 last : cs'[off' + n]? = some u
 grown : W.grownBy W' (some g)
 blk : g' = g ∨ W.heap.size ≤ g'
theorem que_append {w W : World} {L : List Th} (h : Hp w L W) (i : Nat) {g : Nat} {cs : List Value} (ei : L[i]? = some (.ob g 38 cs)) (j : Nat) {b : Nat} {t' : TypeId} {u : Value} (ej : L[j]? = some (.ob b t' [u])) (hu : u.oneCell' = true) (ty : TypeId) {off n cap : Nat} (hcap : off + cap ≤ cs.length) (hn : n ≤ cap) (hm : cap ≤ maxLen) (hb : n + 1 ≤ 1048576) :
  ∃ g' off' cap' cs' W', (Builtin.append_ #[64, 64] ty #[.slice (some ⟨g, off, none⟩) n cap, .slice (some ⟨b, 0, none⟩) 1 1]).run Try.prog W = .ok (.slice (some ⟨g', off', none⟩) (n + 1) cap') W' ∧ QueOut w W L i g off n cs u g' off' cap' cs' W':=by
 obtain ⟨inf, zv, hi, hz, hsize, hby, hzs⟩:=elem_is.is
 have hroom:=elem_is.room
 have ht:=Try.underlying64
 have hg:=h.get i ei
 have hcell : ∀ q v, ([u] : List Value)[q]? = some v → W.cell? ((⟨b, 0, none⟩ : Addr).add q) = some v:=fun q v hv=>by
  rw [Addr.add_mid, Nat.zero_add]
  exact h.at j ej q hv
 by_cases hc : n + 1 ≤ cap
 ·have hlt : off + n < cs.length:=by omega
  have hr:=run_append_room_cells (P:=Try.prog) W 64 ty 38 inf ht hi g off n cap ⟨b, 0, none⟩ 1 1 [u] (by rw [hsize];rfl) hcell (fun v hv=>by rw [List.mem_singleton.1 hv];exact hu) hc
   (fun q hq=>by
    obtain rfl : q = 0:=by simpa using hq
    rw [hsize, Nat.mul_one, Nat.add_zero, cell_of_row W g (off + n) _ _ _ hg, List.getElem?_toArray, List.getElem?_eq_getElem hlt];rfl)
   (fun q hq=>frozen_of_row _ _ _ _ _ hg)
  rw [hsize, Nat.mul_one] at hr
  have hrow:=setCells_rowA (o:=off + n) (cs:=[u]) hg (by rw [List.length_singleton];omega) (fun v hv=>by rw [List.mem_singleton.1 hv];exact hu)
  rw [hrow] at hr
  have ll : (cs.take (off + n)).length = off + n:=by rw [List.length_take];omega
  refine ⟨g, off, cap, _, _, hr, h.row i ei _, ⟨?_, hc, hm⟩, fun k hk=>?_, ?_, ⟨rfl, rfl, rfl, by simp [World.setRow], fun q hq hne=>setRow_other W g q _ (fun e=>hne (by rw [e]))⟩, .inl rfl⟩
  ·rw [List.length_append, List.length_append, List.length_drop, ll, List.length_singleton];omega
  ·rw [List.append_assoc, List.getElem?_append_left (by rw [ll];omega), List.getElem?_take_of_lt (by omega)]
  ·rw [List.append_assoc, List.getElem?_append_right (by rw [ll];omega), ll, Nat.sub_self];rfl
 ·obtain rfl : cap = n:=by omega
  have hol : ((cs.drop off).take cap).length = cap * 1:=by rw [List.length_take, List.length_drop];omega
  obtain ⟨v', W', hr, ho, hgr⟩:=run_append_arg_grows (P:=Try.prog) W 64 ty 38 inf zv 1 24 ht hi hz hsize hby hzs elem_is.pos ⟨g, off, none⟩ cap cap ((cs.drop off).take cap) hol (fun q v hv=>by
   rw [Addr.add_mid]
   rw [List.getElem?_take] at hv
   split at hv
   ·rw [List.getElem?_drop] at hv
    exact h.at i ei _ hv
   ·cases hv) ⟨b, 0, none⟩ 1 1 [u] rfl hcell (by omega) (by unfold maxLen;omega) (by
   have:=Nat.mul_le_mul hb hroom
   omega)
  obtain ⟨hlen, ⟨_, h0⟩ | ⟨g', cap', cur, rfl, hB, hg', hn', hm', hs', ht'⟩⟩:=ho
  ·omega
  ·have hg2 : W'.heap[g']? = some (.cells cur.toList.toArray 38 (0, 0)):=by rw [Array.toArray_toList];exact hg'
   rw [Nat.mul_one] at ht' hs' hol
   have hlt : ∀ k, k < cap + 1 → cur.toList[k]? = ((cs.drop off).take cap ++ [u])[k]?:=fun k hk=>by
    rw [← ht', List.getElem?_take_of_lt hk]
   refine ⟨g', 0, cap', cur.toList, W', hr, ⟨h.swap i ei _ ⟨Nat.le_trans h.old.size hB, hg2⟩ (fun c hc=>.inr (by obtain rfl : g' = c:=Option.some.inj hc;exact hB)) rfl (fun k hk _=>hgr.block k hk (by simp)) hgr.os hgr.tape hgr.output hgr.size, ⟨?_, hn', hm'⟩, fun k hk=>?_, ?_, ⟨hgr.os, hgr.tape, hgr.output, hgr.size, fun k hk _=>hgr.block k hk (by simp)⟩, ?_⟩⟩
   ·rw [Array.length_toList, hs'];omega
   ·rw [Nat.zero_add, hlt k (by omega), List.getElem?_append_left (by omega), List.getElem?_take_of_lt hk, List.getElem?_drop]
   ·rw [Nat.zero_add, hlt cap (by omega), List.getElem?_append_right (by omega), hol, Nat.sub_self];rfl
   ·exact .inr hB
theorem wpList_append_que {ops : Array Oper} {rest : List Oper} {a : Act} {w W : World} {Q : Exit → Act → World → Prop} {d : Option Tmp} {ty : TypeId} {pos : String} {aft : Array Go.Edge} {L : List Th} (h : Hp w L W) (s x : Operand)
  (i : Nat) {g : Nat} {cs : List Value} (ei : L[i]? = some (.ob g 38 cs)) (j : Nat) {b : Nat} {t' : TypeId} {u : Value} (ej : L[j]? = some (.ob b t' [u])) (hu : u.oneCell' = true) {off n cap : Nat} (hcap : off + cap ≤ cs.length) (hn : n ≤ cap) (hm : cap ≤ maxLen) (hb : n + 1 ≤ 1048576)
  (hs : a.eval s = .slice (some ⟨g, off, none⟩) n cap) (hx : a.eval x = .slice (some ⟨b, 0, none⟩) 1 1)
  (hk : ∀ g' off' cap' cs' W', QueOut w W L i g off n cs u g' off' cap' cs' W' → wpList Try.prog ops Q rest (a.put d (.slice (some ⟨g', off', none⟩) (n + 1) cap')) W') :
  wpList Try.prog ops Q ({ dst:=d, op:=.call { callee:=.builtin .append, args:=#[s, x], argTypes:=#[64, 64] }, type:=ty, pos:=pos, after:=aft, guard:=none } :: rest) a W:=by
 refine wpList_plain rfl fun K' hK'=>?_
 obtain ⟨g', off', cap', cs', W', hr, ho⟩:=que_append h i ei j ej hu ty hcap hn hm hb
 unfold Oper.wp execOp
 simp only [resolve, invoke, builtin, Sem.run_bind, Sem.run_pure, Result.andThen_ok, List.map_toArray, List.map_cons, List.map_nil, hs, hx, hr]
 exact hK' _ _ (hk g' off' cap' cs' W' ho)
/-- how the search stands in memory -/
structure CyAt (w wr : World) (box : List Value) (g off cap : Nat) (cs : List Value) (q : List (List Int)) (r : List Int) (bm k : Nat) (RR : List Rng) : Prop where
 hp : Hp w [.ob w.heap.size 25 box, .ob g 38 cs, .rd RR] wr
 seen : SeenM wr bm k r
 low : w.heap.size ≤ bm
 apart : bm ≠ w.heap.size ∧ bm ≠ g ∧ bm ∉ RR.map (·.1)
 fit : off + cap ≤ cs.length ∧ q.length ≤ cap ∧ cap ≤ maxLen
 rows : ∀ (i : Nat) (p : List Int), q[i]? = some p → ∃ v, cs[off + i]? = some v ∧ IntRd v p RR
 fresh : ∀ x ∈ RR, w.heap.size ≤ x.1
theorem CyAt.head {w wr : World} {box : List Value} {g off cap : Nat} {cs : List Value} {p : List Int} {q : List (List Int)} {r : List Int} {bm k : Nat} {RR : List Rng} (h : CyAt w wr box g off cap cs (p :: q) r bm k RR) : ∃ v, cs[off]? = some v ∧ IntRd v p RR:=h.rows 0 p rfl
theorem CyAt.pop {w wr : World} {box : List Value} {g off cap : Nat} {cs : List Value} {p : List Int} {q : List (List Int)} {r : List Int} {bm k : Nat} {RR : List Rng} (h : CyAt w wr box g off cap cs (p :: q) r bm k RR) : CyAt w wr box g (if cap = 1 then off else off + 1) (cap - 1) cs q r bm k RR:=by
 obtain ⟨f1, f2, f3⟩:=h.fit
 rw [List.length_cons] at f2
 refine ⟨h.hp, h.seen, h.low, h.apart, ⟨by split <;> omega, by omega, by omega⟩, fun i p' hp'=>?_, h.fresh⟩
 have hi:=(List.getElem?_eq_some_iff.1 hp').1
 rw [if_neg (by omega), Nat.add_assoc, Nat.add_comm 1 i]
 exact h.rows (i + 1) p' hp'
theorem CyAt.calls {w wr W : World} {box : List Value} {g off cap : Nat} {cs : List Value} {q : List (List Int)} {r : List Int} {bm k : Nat} {RR : List Rng} (h : CyAt w wr box g off cap cs q r bm k RR) (hb : Below wr.heap.size wr W) : CyAt w W box g off cap cs q r bm k RR :=
 ⟨h.hp.calls hb, h.seen.below hb, h.low, h.apart, h.fit, h.rows, h.fresh⟩
theorem CyAt.addrd {w wr W : World} {box : List Value} {g off cap : Nat} {cs : List Value} {q : List (List Int)} {r : List Int} {bm k : Nat} {RR R8 : List Rng} (h : CyAt w wr box g off cap cs q r bm k RR) (hb : Below wr.heap.size wr W) (h8 : RdIn W R8) (hn : ∀ x ∈ R8, wr.heap.size ≤ x.1) : CyAt w W box g off cap cs q r bm k (RR ++ R8):=by
 have h1:=h.hp.addrd hb R8 h8 (fun x hx=>.inl (hn x hx))
 have h2 : Hp w ([.ob w.heap.size 25 box, .ob g 38 cs] ++ [.rd RR, .rd R8]) W:=h1
 refine ⟨Hp.rdmerge h2, h.seen.below hb, h.low, ⟨h.apart.1, h.apart.2.1, fun hm=>?_⟩, h.fit, fun i p hp=>?_, fun x hx=>?_⟩
 ·rw [List.map_append] at hm
  rcases List.mem_append.1 hm with hm | hm
  ·exact h.apart.2.2 hm
  ·obtain ⟨x, hx, e⟩:=List.mem_map.1 hm
   have h3:=hn x hx
   have h4:=h.seen.lt
   omega
 ·obtain ⟨v, h3, h4⟩:=h.rows i p hp
  exact ⟨v, h3, SlRd.mono h4 (fun x hx=>List.mem_append_left _ hx)⟩
 ·rcases List.mem_append.1 hx with hx | hx
  ·exact h.fresh x hx
  ·exact Nat.le_trans h.hp.old.size (hn x hx)
theorem CyAt.mark {w wr W : World} {box : List Value} {g off cap : Nat} {cs : List Value} {q : List (List Int)} {r : List Int} {bm k : Nat} {RR : List Rng} {x : Int} (h : CyAt w wr box g off cap cs q r bm k RR) (hs : SeenM W bm (k + 1) (r ++ [x])) (hg : wr.grownBy W (some bm)) : CyAt w W box g off cap cs q (r ++ [x]) bm (k + 1) RR:=by
 refine ⟨h.hp.others h.low (fun y hy=>?_) hg, hs, h.low, h.apart, h.fit, h.rows, h.fresh⟩
 simp only [List.mem_cons, List.not_mem_nil, or_false] at hy
 rcases hy with rfl | rfl | rfl
 ·exact ⟨fun e=>h.apart.1 (Option.some.inj e).symm, (fun e=>by cases e)⟩
 ·exact ⟨fun e=>h.apart.2.1 (Option.some.inj e).symm, (fun e=>by cases e)⟩
 ·exact ⟨(fun e=>by cases e), h.apart.2.2⟩
/-- beside it: a new list that is read, and what has it -/
theorem CyAt.beside {w W0 W : World} {box : List Value} {g off cap : Nat} {cs : List Value} {q : List (List Int)} {r : List Int} {bm k : Nat} {RR Ru : List Rng} {b : Nat} {t' : TypeId} {u : Value} (h : CyAt w W0 box g off cap cs q r bm k RR) (hm : Hp W0 [.ob b t' [u], .rd Ru] W) (hu : ∀ x ∈ Ru, W0.heap.size ≤ x.1) :
  Hp w [.ob w.heap.size 25 box, .ob g 38 cs, .ob b t' [u], .rd (RR ++ Ru)] W:=by
 have h1:=h.hp.meet hm (fun x hx=>by
  simp only [List.mem_cons, List.not_mem_nil, or_false] at hx
  rcases hx with rfl | rfl
  ·exact ⟨Nat.le_trans h.hp.old.size (hm.in 0 rfl).1, (hm.in 0 rfl).2⟩
  ·exact hm.reads 1 rfl) (fun x hx c hc=>by
  simp only [List.mem_cons, List.not_mem_nil, or_false] at hx
  rcases hx with rfl | rfl
  ·cases hc
  ·obtain ⟨y, hy, rfl⟩:=List.mem_map.1 hc
   exact .inl (hu y hy))
 have h2 : Hp w ([.ob w.heap.size 25 box, .ob g 38 cs, .ob b t' [u]] ++ [.rd RR, .rd Ru]) W:=h1.pull [0, 1, 3, 2, 4] rfl (pull_nd h1.nd [0, 1, 3, 2, 4] rfl (by decide))
 exact Hp.rdmerge h2
theorem CyAt.push {w W0 W W' : World} {box : List Value} {g off cap : Nat} {cs : List Value} {q : List (List Int)} {r p : List Int} {bm k : Nat} {RR Ru : List Rng} {b : Nat} {t' : TypeId} {u : Value} {g' off' cap' : Nat} {cs' : List Value} (h : CyAt w W0 box g off cap cs q r bm k RR) (hm : Hp W0 [.ob b t' [u], .rd Ru] W) (hu : ∀ x ∈ Ru, W0.heap.size ≤ x.1) (hp : IntRd u p Ru)
  (ho : QueOut w W [.ob w.heap.size 25 box, .ob g 38 cs, .ob b t' [u], .rd (RR ++ Ru)] 1 g off q.length cs u g' off' cap' cs' W') : CyAt w W' box g' off' cap' cs' (q ++ [p]) r bm k (RR ++ Ru):=by
 have hs:=h.seen.below hm.old
 have hlt:=h.seen.lt
 refine ⟨ho.hp.pull [0, 1, 3] rfl (pull_nd ho.hp.nd [0, 1, 3] rfl (by decide)), hs.kept ho.grown (fun e=>h.apart.2.1 (Option.some.inj e)), h.low, ⟨h.apart.1, ?_, fun hm'=>?_⟩, ⟨ho.fit.1, by rw [List.length_append];exact ho.fit.2.1, ho.fit.2.2⟩, fun i p' hp'=>?_, fun x hx=>?_⟩
 ·rcases ho.blk with rfl | hge
  ·exact h.apart.2.1
  ·have:=hm.old.size;omega
 ·rw [List.map_append] at hm'
  rcases List.mem_append.1 hm' with hm' | hm'
  ·exact h.apart.2.2 hm'
  ·obtain ⟨x, hx, e⟩:=List.mem_map.1 hm'
   have h3:=hu x hx
   omega
 ·rcases Nat.lt_or_ge i q.length with hi | hi
  ·rw [List.getElem?_append_left hi] at hp'
   obtain ⟨v, h3, h4⟩:=h.rows i p' hp'
   exact ⟨v, by rw [ho.same i hi];exact h3, SlRd.mono h4 (fun x hx=>List.mem_append_left _ hx)⟩
  ·have hi2 : i < q.length + 1:=by
    have:=(List.getElem?_eq_some_iff.1 hp').1
    rwa [List.length_append, List.length_singleton] at this
   obtain rfl : i = q.length:=by omega
   rw [List.getElem?_append_right (Nat.le_refl _), Nat.sub_self] at hp'
   obtain rfl : p = p':=by simpa using hp'
   exact ⟨u, ho.last, SlRd.mono hp (fun x hx=>List.mem_append_right _ hx)⟩
 ·rcases List.mem_append.1 hx with hx | hx
  ·exact h.fresh x hx
  ·exact Nat.le_trans h.hp.old.size (hu x hx)
end Go.Proofs.Ytooaldglgkjjgaa
/- the ways of a length, in their order: a search in breadth over whole ways finds what Cycle answers -/
namespace Go.Proofs.Ytooaldglgkjjgaa
set_option maxRecDepth 20000

/-- a way's extensions by k more, in the order of their last ones -/
def levF (f : Int → List Int) : Nat → List Int → List (List Int)
 | 0, way=>[way]
 | k + 1, way=>(f (way.getLastD 0)).flatMap fun x=>if x ∈ way then [] else levF f k (way ++ [x])
def closesB (f : Int → List Int) (way : List Int) : Bool:=decide (way.headD 0 ∈ f (way.getLastD 0))
/-- one more -/
def moreF (f : Int → List Int) (way : List Int) : List (List Int):=(f (way.getLastD 0)).flatMap fun x=>if x ∈ way then [] else [way ++ [x]]
theorem lev_ne {f : Int → List Int} : ∀ {k : Nat} {way w : List Int}, way ≠ [] → w ∈ levF f k way → w ≠ []
 | 0, way, w, h, hw=>by rw [List.mem_singleton.1 hw];exact h
 | k + 1, way, w, h, hw=>by
  obtain ⟨x, _, hx⟩:=List.mem_flatMap.1 hw
  split at hx
  ·cases hx
  ·exact lev_ne (by simp) hx
theorem first_find {f : Int → List Int} {h : Int → List (List Int)} {p : List Int → Bool} (hf : ∀ x, f x = ((h x).find? p).getD []) (hn : ∀ x, ∀ w ∈ h x, w ≠ []) : ∀ l : List Int, firstR f l = ((l.flatMap h).find? p).getD []
 | []=>rfl
 | x :: l=>by
  unfold firstR
  rw [List.flatMap_cons, List.find?_append]
  cases hx : (h x).find? p with
  | none =>
   rw [hf, hx, if_pos (by rfl), first_find hf hn l];rfl
  | some w =>
   have h1 : w ≠ []:=hn x w (List.mem_of_find?_eq_some hx)
   rw [hf, hx, if_neg (by exact h1)];rfl
theorem closedF_lev {f : Int → List Int} : ∀ {k : Nat} {way : List Int}, way ≠ [] → closedF f k way = ((levF f k way).find? (closesB f)).getD []
 | 0, way, h=>by
  unfold closedF levF
  rw [List.find?_cons, List.find?_nil]
  unfold closesB
  by_cases hc : way.headD 0 ∈ f (way.getLastD 0)
  ·rw [if_pos hc, decide_eq_true hc];rfl
  ·rw [if_neg hc, decide_eq_false hc];rfl
 | k + 1, way, h=>by
  unfold closedF levF
  refine first_find (fun x=>?_) (fun x w hw=>?_) _
  ·by_cases hx : x ∈ way
   ·rw [if_pos hx, if_pos hx];rfl
   ·rw [if_neg hx, if_neg hx];exact closedF_lev (by simp)
  ·split at hw
   ·cases hw
   ·exact lev_ne (by simp) hw
theorem lev_next {f : Int → List Int} : ∀ (k : Nat) (way : List Int), levF f (k + 1) way = (levF f k way).flatMap (moreF f)
 | 0, way=>by
  show _ = [way].flatMap (moreF f)
  rw [List.flatMap_cons, List.flatMap_nil, List.append_nil];rfl
 | k + 1, way=>by
  have e1 : levF f (k + 1 + 1) way = (f (way.getLastD 0)).flatMap fun x=>if x ∈ way then [] else levF f (k + 1) (way ++ [x]):=rfl
  have e2 : levF f (k + 1) way = (f (way.getLastD 0)).flatMap fun x=>if x ∈ way then [] else levF f k (way ++ [x]):=rfl
  rw [e1, e2, List.flatMap_assoc]
  congr 1
  funext x
  split
  ·rfl
  ·exact lev_next k _
/-- all ways of at most n + 1, the shorter ones first -/
def levsF (f : Int → List Int) (tx : Int) : Nat → List (List Int)
 | 0=>[]
 | n + 1=>levsF f tx n ++ levF f n [tx]
theorem cycGo_from {f : Int → List Int} {tx : Int} : ∀ k n, ((levsF f tx n).find? (closesB f)).getD [] = [] → cycGo f tx n k = ((levsF f tx (n + k)).find? (closesB f)).getD []
 | 0, n, h=>by rw [Nat.add_zero, h];rfl
 | k + 1, n, h=>by
  unfold cycGo
  have e : closedF f n [tx] = ((levF f n [tx]).find? (closesB f)).getD []:=closedF_lev (by simp)
  have hno : (levsF f tx n).find? (closesB f) = none:=by
   cases hq : (levsF f tx n).find? (closesB f) with
   | none=>rfl
   | some w =>
    exfalso
    rw [hq] at h
    have h1 : w = []:=h
    have hm:=List.mem_of_find?_eq_some hq
    have hall : ∀ n, ∀ w ∈ levsF f tx n, w ≠ []:=by
     intro n
     induction n with
     | zero=>intro w hw;cases hw
     | succ n ih =>
      intro w hw
      rcases List.mem_append.1 hw with hw | hw
      ·exact ih w hw
      ·exact lev_ne (by simp) hw
    exact hall n w hm h1
  have hs : (levsF f tx (n + 1)).find? (closesB f) = (levF f n [tx]).find? (closesB f):=by
   show (levsF f tx n ++ levF f n [tx]).find? (closesB f) = _
   rw [List.find?_append, hno];rfl
  by_cases hc : closedF f n [tx] = []
  ·rw [if_pos hc, show n + (k + 1) = (n + 1) + k by omega]
   exact cycGo_from k (n + 1) (by rw [hs, ← e];exact hc)
  ·rw [if_neg hc, e]
   have hmono : ∀ k, (levsF f tx (n + 1 + k)).find? (closesB f) = (levF f n [tx]).find? (closesB f):=by
    intro k
    induction k with
    | zero=>exact hs
    | succ k ih =>
     show (levsF f tx (n + 1 + k) ++ levF f (n + 1 + k) [tx]).find? (closesB f) = _
     rw [List.find?_append, ih]
     cases hq : (levF f n [tx]).find? (closesB f) with
     | none=>rw [e, hq] at hc;exact absurd rfl hc
     | some w=>rfl
   rw [show n + (k + 1) = n + 1 + k by omega, hmono k]
theorem cycGo_levs (f : Int → List Int) (tx : Int) (k : Nat) : cycGo f tx 0 k = ((levsF f tx k).find? (closesB f)).getD []:=by
 rw [cycGo_from k 0 rfl, Nat.zero_add]
/-- longer ways find nothing else -/
theorem cycGo_more {f : Int → List Int} {tx : Int} {W : List Int} (hW : ∀ a, f a ≠ [] → a ∈ W) (k : Nat) : cycGo f tx 0 (W.length + k) = cycGo f tx 0 W.length:=by
 by_cases h : cycGo f tx 0 W.length = []
 ·rw [h]
  rcases Classical.em (cycGo f tx 0 (W.length + k) = []) with h1 | h1
  ·exact h1
  ·obtain ⟨j, _, _, h2⟩:=cycGo_ne.1 h1
   obtain ⟨s, _, h3⟩:=(closedF_ne (by simp)).1 h2
   exact absurd h ((cycGo_walk hW).2 ⟨s, of_ext (E:=fun a b=>b ∈ f a) (fun _ _ h=>h) (by simp) h3⟩)
 ·rw [cycGo_levs] at h ⊢
  rw [cycGo_levs]
  congr 1
  induction k with
  | zero=>rfl
  | succ k ih =>
   show (levsF f tx (W.length + k) ++ levF f (W.length + k) [tx]).find? (closesB f) = _
   rw [List.find?_append, ih]
   cases hq : (levsF f tx W.length).find? (closesB f) with
   | none=>rw [hq] at h;exact absurd rfl h
   | some w=>rfl
end Go.Proofs.Ytooaldglgkjjgaa
/- a search in breadth that goes to each one once finds what Cycle answers -/
namespace Go.Proofs.Ytooaldglgkjjgaa
set_option maxRecDepth 20000

/-- those whom the last one of a way waits for: none if the asked one is among them, else what waits to be looked at, and who has been reached -/
def bfsIn (tx : Int) (p : List Int) : List Int → List (List Int) → List Int → Option (List (List Int) × List Int)
 | [], q, r=>some (q, r)
 | x :: l, q, r=>if x = tx then none else if x ∈ r then bfsIn tx p l q r else bfsIn tx p l (q ++ [p ++ [x]]) (r ++ [x])
def bfs (f : Int → List Int) (tx : Int) : Nat → List (List Int) → List Int → List Int
 | 0, _, _=>[]
 | _ + 1, [], _=>[]
 | n + 1, p :: q, r=>match bfsIn tx p (f (p.getLastD 0)) q r with
  | none=>p
  | some (q', r')=>bfs f tx n q' r'
def newsL (r l : List Int) : List Int:=l.filter fun x=>!decide (x ∈ r)
theorem mem_news {r l : List Int} {x : Int} : x ∈ newsL r l ↔ x ∈ l ∧ x ∉ r:=by
 unfold newsL;rw [List.mem_filter];simp
theorem bfsIn_none {tx : Int} {p : List Int} : ∀ {l : List Int} {q : List (List Int)} {r : List Int}, tx ∈ l → bfsIn tx p l q r = none
 | [], _, _, h=>by cases h
 | x :: l, q, r, h=>by
  unfold bfsIn
  by_cases hx : x = tx
  ·rw [if_pos hx]
  ·have hl : tx ∈ l:=by
    rcases List.mem_cons.1 h with e | e
    ·exact absurd e.symm hx
    ·exact e
   rw [if_neg hx]
   split
   ·exact bfsIn_none hl
   ·exact bfsIn_none hl
theorem news_cons {r l : List Int} {x : Int} (hx : x ∉ l) : newsL (r ++ [x]) l = newsL r l:=by
 unfold newsL
 refine List.filter_congr fun y hy=>?_
 have : y ≠ x:=fun e=>hx (e ▸ hy)
 simp [this]
theorem bfsIn_some {tx : Int} {p : List Int} : ∀ {l : List Int} {q : List (List Int)} {r : List Int}, tx ∉ l → l.Nodup → bfsIn tx p l q r = some (q ++ (newsL r l).map (fun x=>p ++ [x]), r ++ newsL r l)
 | [], q, r, _, _=>by simp [bfsIn, newsL]
 | x :: l, q, r, h, hn=>by
  obtain ⟨hx, hn'⟩:=List.nodup_cons.1 hn
  unfold bfsIn
  have h1 : x ≠ tx:=fun e=>h (by rw [e];exact List.mem_cons_self ..)
  have h2 : tx ∉ l:=fun e=>h (List.mem_cons_of_mem _ e)
  rw [if_neg h1]
  by_cases hr : x ∈ r
  ·rw [if_pos hr, bfsIn_some h2 hn']
   have e : newsL r (x :: l) = newsL r l:=by unfold newsL;rw [List.filter_cons, if_neg (by simp [hr])]
   rw [e]
  ·rw [if_neg hr, bfsIn_some h2 hn', news_cons hx]
   have e : newsL r (x :: l) = x :: newsL r l:=by unfold newsL;rw [List.filter_cons, if_pos (by simp [hr])]
   rw [e, List.map_cons, List.append_assoc, List.append_assoc];rfl

/-- of the ways that end alike the first one -/
def ddl : List Int → List (List Int) → List (List Int)
 | _, []=>[]
 | D, w :: l=>if w.getLastD 0 ∈ D then ddl D l else w :: ddl (w.getLastD 0 :: D) l
theorem ddl_congr : ∀ {l : List (List Int)} {D E : List Int}, (∀ x, x ∈ D ↔ x ∈ E) → ddl D l = ddl E l
 | [], _, _, _=>rfl
 | w :: l, D, E, h=>by
  unfold ddl
  by_cases hw : w.getLastD 0 ∈ D
  ·rw [if_pos hw, if_pos ((h _).1 hw), ddl_congr h]
  ·rw [if_neg hw, if_neg (fun e=>hw ((h _).2 e)), ddl_congr (D:=w.getLastD 0 :: D) (E:=w.getLastD 0 :: E) fun x=>by rw [List.mem_cons, List.mem_cons, h]]
theorem ddl_pos {D w : List Int} {l : List (List Int)} (h : w.getLastD 0 ∈ D) : ddl D (w :: l) = ddl D l:=by show (if _ then _ else _) = _;rw [if_pos h]
theorem ddl_neg {D w : List Int} {l : List (List Int)} (h : w.getLastD 0 ∉ D) : ddl D (w :: l) = w :: ddl (w.getLastD 0 :: D) l:=by show (if _ then _ else _) = _;rw [if_neg h]
theorem ddl_append : ∀ {l m : List (List Int)} {D E : List Int}, (∀ x, x ∈ E ↔ x ∈ D ∨ ∃ w ∈ l, w.getLastD 0 = x) → ddl D (l ++ m) = ddl D l ++ ddl E m
 | [], m, D, E, h=>by
  rw [List.nil_append]
  show ddl D m = [] ++ ddl E m
  rw [List.nil_append]
  exact ddl_congr fun x=>by rw [h];simp
 | w :: l, m, D, E, h=>by
  rw [List.cons_append]
  by_cases hw : w.getLastD 0 ∈ D
  ·rw [ddl_pos hw, ddl_pos hw]
   refine ddl_append fun x=>?_
   rw [h]
   constructor
   ·rintro (k | ⟨v, hv, rfl⟩)
    ·exact .inl k
    ·rcases List.mem_cons.1 hv with rfl | hv
     ·exact .inl hw
     ·exact .inr ⟨v, hv, rfl⟩
   ·rintro (k | ⟨v, hv, rfl⟩)
    ·exact .inl k
    ·exact .inr ⟨v, List.mem_cons_of_mem _ hv, rfl⟩
  ·rw [ddl_neg hw, ddl_neg hw, List.cons_append]
   congr 1
   refine ddl_append fun x=>?_
   rw [h, List.mem_cons]
   constructor
   ·rintro (k | ⟨v, hv, rfl⟩)
    ·exact .inl (.inr k)
    ·rcases List.mem_cons.1 hv with rfl | hv
     ·exact .inl (.inl rfl)
     ·exact .inr ⟨v, hv, rfl⟩
   ·rintro ((rfl | k) | ⟨v, hv, rfl⟩)
    ·exact .inr ⟨w, List.mem_cons_self .., rfl⟩
    ·exact .inl k
    ·exact .inr ⟨v, List.mem_cons_of_mem _ hv, rfl⟩
theorem ddl_none : ∀ {m : List (List Int)} {E : List Int}, (∀ w ∈ m, w.getLastD 0 ∈ E) → ddl E m = []
 | [], _, _=>rfl
 | w :: m, E, h=>by
  unfold ddl
  rw [if_pos (h w (List.mem_cons_self ..)), ddl_none fun v hv=>h v (List.mem_cons_of_mem _ hv)]
theorem last_snoc (w : List Int) (x : Int) : (w ++ [x]).getLastD 0 = x:=getLastD_snoc w x 0
theorem ddl_more {w : List Int} : ∀ {l : List Int} {E : List Int}, l.Nodup → (∀ x ∈ l, x ∈ w → x ∈ E) → ddl E (l.flatMap fun x=>if x ∈ w then [] else [w ++ [x]]) = (newsL E l).map fun x=>w ++ [x]
 | [], _, _, _=>rfl
 | x :: l, E, hn, h=>by
  obtain ⟨hx, hn'⟩:=List.nodup_cons.1 hn
  have hl : ∀ y ∈ l, y ∈ w → y ∈ E:=fun y hy=>h y (List.mem_cons_of_mem _ hy)
  rw [List.flatMap_cons]
  by_cases he : x ∈ E
  ·have e : newsL E (x :: l) = newsL E l:=by unfold newsL;rw [List.filter_cons, if_neg (by simp [he])]
   rw [e, ← ddl_more hn' hl]
   by_cases hw : x ∈ w
   ·rw [if_pos hw, List.nil_append]
   ·rw [if_neg hw, List.singleton_append, ddl, last_snoc, if_pos he]
  ·have e : newsL E (x :: l) = x :: newsL E l:=by unfold newsL;rw [List.filter_cons, if_pos (by simp [he])]
   have hw : x ∉ w:=fun k=>he (h x (List.mem_cons_self ..) k)
   rw [e, if_neg hw, List.singleton_append, ddl, last_snoc, if_neg he, List.map_cons, ddl_more hn' fun y hy k=>List.mem_cons_of_mem _ (hl y hy k)]
   congr 2
   unfold newsL
   refine List.filter_congr fun y hy=>?_
   have : y ≠ x:=fun e=>hx (e ▸ hy)
   simp [this]
/-- all that comes of ways, the nearer ones first -/
def deepF (f : Int → List Int) : Nat → List (List Int) → List (List Int)
 | 0, _=>[]
 | n + 1, q=>q ++ deepF f n (q.flatMap (moreF f))
theorem deep_levs (f : Int → List Int) (tx : Int) : ∀ n k, levsF f tx k ++ deepF f n (levF f k [tx]) = levsF f tx (k + n)
 | 0, k=>by show _ ++ [] = _;rw [List.append_nil];rfl
 | n + 1, k=>by
  show levsF f tx k ++ (levF f k [tx] ++ deepF f n ((levF f k [tx]).flatMap (moreF f))) = _
  rw [← lev_next, ← List.append_assoc, show k + (n + 1) = (k + 1) + n by omega, ← deep_levs f tx n (k + 1)]
  rfl
structure Sim (f : Int → List Int) (tx : Int) (V D : List Int) (k : Nat) (A B : List (List Int)) (r : List Int) : Prop where
 reached : ∀ x, x ≠ tx → (x ∈ r ↔ x ∈ D ∨ ∃ w ∈ A ++ B, w.getLastD 0 = x)
 ways : ∀ w ∈ A ++ B, w.headD 0 = tx ∧ w.Nodup ∧ (∀ x ∈ w, x ∈ V) ∧ (∀ x ∈ w, x ∈ D ∨ x = w.getLastD 0)
 lenA : ∀ w ∈ A, w.length = k + 1
 lenB : ∀ w ∈ B, w.length = k + 2
 out : ∀ u ∈ D, tx ∉ f u ∧ ∀ x ∈ f u, x ∈ D ∨ ∃ w ∈ A ++ B, w.getLastD 0 = x
theorem mem_more {f : Int → List Int} {w v : List Int} (h : v ∈ moreF f w) : ∃ x, x ∈ f (w.getLastD 0) ∧ x ∉ w ∧ v = w ++ [x]:=by
 unfold moreF at h
 obtain ⟨x, hx, hv⟩:=List.mem_flatMap.1 h
 split at hv
 ·cases hv
 ·rename_i hw;exact ⟨x, hx, hw, by simpa using hv⟩
theorem more_mem {f : Int → List Int} {w : List Int} {x : Int} (h : x ∈ f (w.getLastD 0)) (hw : x ∉ w) : w ++ [x] ∈ moreF f w:=by
 unfold moreF
 exact List.mem_flatMap.2 ⟨x, h, by rw [if_neg hw];exact List.mem_singleton.2 rfl⟩
def cntV (V r : List Int) : Nat:=(V.filter fun x=>!decide (x ∈ r)).length
theorem cnt_news {V r l : List Int} (hV : V.Nodup) (hl : l.Nodup) (h : ∀ x ∈ l, x ∈ V) : cntV V (r ++ newsL r l) + (newsL r l).length ≤ cntV V r:=by
 have h1 : ((V.filter fun x=>!decide (x ∈ r ++ newsL r l)) ++ newsL r l).Nodup:=by
  refine List.nodup_append.2 ⟨hV.filter _, hl.filter _, fun x hx y hy e=>?_⟩
  subst e
  have:=(List.mem_filter.1 hx).2
  simp [hy] at this
 have:=nodup_len (m:=V.filter fun x=>!decide (x ∈ r)) h1 fun x hx=>by
  rcases List.mem_append.1 hx with hx | hx
  ·obtain ⟨a, b⟩:=List.mem_filter.1 hx
   refine List.mem_filter.2 ⟨a, ?_⟩
   have : x ∉ r ++ newsL r l:=by simpa using b
   have h2 : x ∉ r:=fun e=>this (List.mem_append.2 (.inl e))
   simp [h2]
  ·obtain ⟨a, b⟩:=mem_news.1 hx
   exact List.mem_filter.2 ⟨h x a, by simp [b]⟩
 rw [List.length_append] at this
 exact this
theorem bfs_nil (f : Int → List Int) (tx : Int) (r : List Int) : ∀ m, bfs f tx m [] r = []
 | 0=>rfl
 | _ + 1=>rfl
theorem sim_step {f : Int → List Int} {tx : Int} {V D r : List Int} {k : Nat} {w : List Int} {A B : List (List Int)} (hfV : ∀ a, ∀ x ∈ f a, x ∈ V) (h : Sim f tx V D k (w :: A) B r) (hu : tx ∉ f (w.getLastD 0)) (D' r' : List Int)
  (hD : ∀ x, x ∈ D' ↔ x ∈ D ∨ x = w.getLastD 0) (hr : ∀ x, x ≠ tx → (x ∈ r' ↔ x ∈ r ∨ x ∈ f (w.getLastD 0))) : Sim f tx V D' k A (B ++ moreF f w) r':=by
 have hw0:=h.ways w (by simp)
 have hlw:=h.lenA w (List.mem_cons_self ..)
 have hall : ∀ x, (x ∈ D ∨ ∃ v ∈ (w :: A) ++ B, v.getLastD 0 = x) → (x ∈ D' ∨ ∃ v ∈ A ++ (B ++ moreF f w), v.getLastD 0 = x):=by
  rintro x (k | ⟨v, hv, rfl⟩)
  ·exact .inl ((hD x).2 (.inl k))
  ·rcases List.mem_append.1 hv with hv | hv
   ·rcases List.mem_cons.1 hv with rfl | hv
    ·exact .inl ((hD _).2 (.inr rfl))
    ·exact .inr ⟨v, List.mem_append.2 (.inl hv), rfl⟩
   ·exact .inr ⟨v, List.mem_append.2 (.inr (List.mem_append.2 (.inl hv))), rfl⟩
 have hnext : ∀ x ∈ f (w.getLastD 0), x ∈ D' ∨ ∃ v ∈ A ++ (B ++ moreF f w), v.getLastD 0 = x:=by
  intro x hx
  by_cases hxw : x ∈ w
  ·exact .inl ((hD x).2 (hw0.2.2.2 x hxw))
  ·exact .inr ⟨_, List.mem_append.2 (.inr (List.mem_append.2 (.inr (more_mem hx hxw)))), last_snoc w x⟩
 refine ⟨fun x hx=>?_, fun v hv=>?_, fun v hv=>h.lenA v (List.mem_cons_of_mem _ hv), fun v hv=>?_, fun u hu'=>?_⟩
 ·rw [hr x hx, h.reached x hx]
  constructor
  ·rintro (k | k)
   ·exact hall x k
   ·exact hnext x k
  ·rintro (k | ⟨v, hv, rfl⟩)
   ·rcases (hD x).1 k with k | k
    ·exact .inl (.inl k)
    ·exact .inl (.inr ⟨w, by simp, k.symm⟩)
   ·rcases List.mem_append.1 hv with hv | hv
    ·exact .inl (.inr ⟨v, by simp [hv], rfl⟩)
    ·rcases List.mem_append.1 hv with hv | hv
     ·exact .inl (.inr ⟨v, by simp [hv], rfl⟩)
     ·obtain ⟨x, hx', _, rfl⟩:=mem_more hv
      rw [last_snoc];exact .inr hx'
 ·rcases List.mem_append.1 hv with hv' | hv'
  ·obtain ⟨a, b, c, d⟩:=h.ways v (by simp [hv'])
   exact ⟨a, b, c, fun x hx=>(d x hx).imp (fun e=>(hD x).2 (.inl e)) id⟩
  ·rcases List.mem_append.1 hv' with hv' | hv'
   ·obtain ⟨a, b, c, d⟩:=h.ways v (by simp [hv'])
    exact ⟨a, b, c, fun x hx=>(d x hx).imp (fun e=>(hD x).2 (.inl e)) id⟩
   ·obtain ⟨x, hx, hxw, rfl⟩:=mem_more hv'
    refine ⟨?_, ?_, fun y hy=>?_, fun y hy=>?_⟩
    ·rw [headD_snoc (fun e=>by rw [e] at hlw;cases hlw)];exact hw0.1
    ·refine List.nodup_append.2 ⟨hw0.2.1, by simp, fun y hy z hz e=>?_⟩
     obtain rfl : z = x:=by simpa using hz
     exact hxw (e ▸ hy)
    ·rcases List.mem_append.1 hy with hy | hy
     ·exact hw0.2.2.1 y hy
     ·obtain rfl : y = x:=by simpa using hy
      exact hfV _ _ hx
    ·rw [last_snoc]
     rcases List.mem_append.1 hy with hy | hy
     ·exact .inl ((hD y).2 (hw0.2.2.2 y hy))
     ·exact .inr (by simpa using hy)
 ·rcases List.mem_append.1 hv with hv | hv
  ·exact h.lenB v hv
  ·obtain ⟨x, _, _, rfl⟩:=mem_more hv
   rw [List.length_append, hlw];rfl
 ·rcases (hD u).1 hu' with hu' | rfl
  ·exact ⟨(h.out u hu').1, fun x hx=>hall x ((h.out u hu').2 x hx)⟩
  ·exact ⟨hu, hnext⟩
theorem bfs_sim {f : Int → List Int} {tx : Int} {V : List Int} (hV : V.Nodup) (hf : ∀ a, (f a).Nodup) (hfV : ∀ a, ∀ x ∈ f a, x ∈ V) (n : Nat) (A : List (List Int)) : ∀ (B : List (List Int)) (D r : List Int) (k m : Nat),
  Sim f tx V D k A B r → V.length ≤ n + k → cntV V r + (ddl D (A ++ B)).length ≤ m → bfs f tx m (ddl D (A ++ B)) r = ((A ++ deepF f n (B ++ A.flatMap (moreF f))).find? (closesB f)).getD []:=by
 match A with
 | [] =>
  intro B D r k m h hn hm
  rw [List.nil_append, List.nil_append, List.flatMap_nil, List.append_nil]
  match n with
  | 0 =>
   have hB : B = []:=by
    cases B with
    | nil=>rfl
    | cons w B =>
     exfalso
     have h1:=h.lenB w (List.mem_cons_self ..)
     have h2:=h.ways w (by simp)
     have:=nodup_len h2.2.1 h2.2.2.1
     omega
   subst hB
   exact bfs_nil f tx r m
  | n + 1 =>
   have:=bfs_sim hV hf hfV n B [] D r (k + 1) m ⟨fun x hx=>by rw [h.reached x hx, List.append_nil];rfl, fun w hw=>h.ways w (by simpa using hw), h.lenB, (fun w hw=>by cases hw), fun u hu=>⟨(h.out u hu).1, fun x hx=>by rw [List.append_nil];exact (h.out u hu).2 x hx⟩⟩ (by omega) (by rw [List.append_nil];exact hm)
   rw [List.append_nil, List.nil_append] at this
   exact this
 | w :: A =>
  intro B D r k m h hn hm
  have efut : (w :: A) ++ deepF f n (B ++ (w :: A).flatMap (moreF f)) = w :: (A ++ deepF f n ((B ++ moreF f w) ++ A.flatMap (moreF f))):=by
   rw [List.flatMap_cons, List.cons_append, List.append_assoc]
  have hhead:=(h.ways w (by simp)).1
  have hin:=(h.ways w (by simp)).2.2.2
  rw [efut]
  by_cases hu : w.getLastD 0 ∈ D
  ·have hout:=h.out _ hu
   have hcl : closesB f w = false:=by unfold closesB;rw [hhead];exact decide_eq_false hout.1
   have hrd : ∀ x ∈ f (w.getLastD 0), x ∈ D ∨ ∃ v ∈ A ++ B, v.getLastD 0 = x:=fun x hx=>by
    rcases hout.2 x hx with k | ⟨v, hv, rfl⟩
    ·exact .inl k
    ·rcases List.mem_append.1 hv with hv | hv
     ·rcases List.mem_cons.1 hv with rfl | hv
      ·exact .inl hu
      ·exact .inr ⟨v, List.mem_append.2 (.inl hv), rfl⟩
     ·exact .inr ⟨v, List.mem_append.2 (.inr hv), rfl⟩
   have hs:=sim_step hfV h hout.1 D r (fun x=>⟨.inl, fun k=>k.elim id fun e=>e ▸ hu⟩) fun x hx=>⟨.inl, fun k=>k.elim id fun e=>(h.reached x hx).2 (hout.2 x e)⟩
   have ed : ddl D (A ++ (B ++ moreF f w)) = ddl D (A ++ B):=by
    obtain ⟨E, hE⟩ : ∃ E : List Int, ∀ x, x ∈ E ↔ x ∈ D ∨ ∃ v ∈ A ++ B, v.getLastD 0 = x:=⟨D ++ (A ++ B).map (fun v=>v.getLastD 0), fun x=>by rw [List.mem_append, List.mem_map]⟩
    rw [← List.append_assoc, ddl_append hE, ddl_none (m:=moreF f w), List.append_nil]
    intro v hv
    obtain ⟨x, hx, _, rfl⟩:=mem_more hv
    rw [last_snoc, hE];exact hrd x hx
   have e1 : ddl D (w :: A ++ B) = ddl D (A ++ B):=by rw [List.cons_append, ddl, if_pos hu]
   rw [e1] at hm ⊢
   rw [List.find?_cons, hcl, ← ed]
   exact bfs_sim hV hf hfV n A (B ++ moreF f w) D r k m hs hn (by rw [ed];exact hm)
  ·have e1 : ddl D (w :: A ++ B) = w :: ddl (w.getLastD 0 :: D) (A ++ B):=by rw [List.cons_append, ddl, if_neg hu]
   rw [e1] at hm ⊢
   rw [List.length_cons] at hm
   obtain ⟨m, rfl⟩ : ∃ j, m = j + 1:=⟨m - 1, by omega⟩
   by_cases hc : tx ∈ f (w.getLastD 0)
   ·have hcl : closesB f w = true:=by unfold closesB;rw [hhead];exact decide_eq_true hc
    rw [List.find?_cons, hcl]
    show (match bfsIn tx w (f (w.getLastD 0)) _ r with | none=>w | some (q', r')=>bfs f tx m q' r') = w
    rw [bfsIn_none hc]
   ·have hcl : closesB f w = false:=by unfold closesB;rw [hhead];exact decide_eq_false hc
    rw [List.find?_cons, hcl]
    show (match bfsIn tx w (f (w.getLastD 0)) _ r with | none=>w | some (q', r')=>bfs f tx m q' r') = _
    rw [bfsIn_some hc (hf _)]
    show bfs f tx m _ _ = _
    have hs:=sim_step hfV h hc (w.getLastD 0 :: D) (r ++ newsL r (f (w.getLastD 0))) (fun x=>by rw [List.mem_cons];exact or_comm) fun x hx=>by
     rw [List.mem_append, mem_news]
     constructor
     ·rintro (e | e)
      ·exact .inl e
      ·exact .inr e.1
     ·rintro (e | e)
      ·exact .inl e
      ·by_cases hr : x ∈ r
       ·exact .inl hr
       ·exact .inr ⟨e, hr⟩
    obtain ⟨E, hE⟩ : ∃ E : List Int, ∀ x, x ∈ E ↔ x ∈ w.getLastD 0 :: D ∨ ∃ v ∈ A ++ B, v.getLastD 0 = x:=⟨(w.getLastD 0 :: D) ++ (A ++ B).map (fun v=>v.getLastD 0), fun x=>by rw [List.mem_append, List.mem_map]⟩
    have hEr : newsL E (f (w.getLastD 0)) = newsL r (f (w.getLastD 0)):=by
     unfold newsL
     refine List.filter_congr fun x hx=>?_
     have hne : x ≠ tx:=fun e=>hc (e ▸ hx)
     have : x ∈ E ↔ x ∈ r:=by
      rw [hE, h.reached x hne, List.mem_cons]
      constructor
      ·rintro ((rfl | e) | ⟨v, hv, rfl⟩)
       ·exact .inr ⟨w, by simp, rfl⟩
       ·exact .inl e
       ·exact .inr ⟨v, by rw [List.cons_append];exact List.mem_cons_of_mem _ hv, rfl⟩
      ·rintro (e | ⟨v, hv, rfl⟩)
       ·exact .inl (.inr e)
       ·rw [List.cons_append] at hv
        rcases List.mem_cons.1 hv with rfl | hv
        ·exact .inl (.inl rfl)
        ·exact .inr ⟨v, hv, rfl⟩
     rw [show decide (x ∈ E) = decide (x ∈ r) from by simp only [this]]
    have ed : ddl (w.getLastD 0 :: D) (A ++ (B ++ moreF f w)) = ddl (w.getLastD 0 :: D) (A ++ B) ++ (newsL r (f (w.getLastD 0))).map (fun x=>w ++ [x]):=by
     rw [← List.append_assoc, ddl_append hE]
     congr 1
     unfold moreF
     rw [ddl_more (hf _) fun x hx hxw=>?_, hEr]
     refine (hE x).2 (.inl (List.mem_cons.2 ?_))
     exact (hin x hxw).symm
    have hcnt:=cnt_news (r:=r) hV (hf (w.getLastD 0)) (hfV _)
    rw [← ed]
    exact bfs_sim hV hf hfV n A (B ++ moreF f w) _ _ k m hs hn (by rw [ed, List.length_append, List.length_map];omega)
termination_by (n, A.length)
/-- the search finds what Cycle answers -/
theorem bfs_cyc {f : Int → List Int} {tx : Int} {V W : List Int} (hV : V.Nodup) (ht : tx ∈ V) (hf : ∀ a, (f a).Nodup) (hfV : ∀ a, ∀ x ∈ f a, x ∈ V) (hW : ∀ a, f a ≠ [] → a ∈ W) (m : Nat) (hm : V.length + 1 ≤ m) :
  bfs f tx m [[tx]] [] = cycGo f tx 0 W.length:=by
 rw [← cycGo_more hW (V.length + 1), cycGo_levs]
 have hlen:=deep_levs f tx (W.length + (V.length + 1)) 0
 rw [Nat.zero_add] at hlen
 have hpos : 0 < V.length:=List.length_pos_of_mem ht
 obtain ⟨n, hn⟩ : ∃ n, W.length + (V.length + 1) = n + 1:=⟨W.length + V.length, by omega⟩
 rw [← hlen, hn]
 show _ = (([] ++ ([[tx]] ++ deepF f n ([[tx]].flatMap (moreF f)))).find? (closesB f)).getD []
 have hs : Sim f tx V [] 0 [[tx]] [] []:=by
  refine ⟨fun x hx=>?_, fun w hw=>?_, fun w hw=>?_, (fun w hw=>by cases hw), (fun u hu=>by cases hu)⟩
  ·constructor
   ·intro e;cases e
   ·rintro (e | ⟨w, hw, rfl⟩)
    ·cases e
    ·obtain rfl : w = [tx]:=by simpa using hw
     exact absurd rfl hx
  ·obtain rfl : w = [tx]:=by simpa using hw
   refine ⟨rfl, by simp, fun x hx=>?_, fun x hx=>.inr ?_⟩
   ·obtain rfl : x = tx:=by simpa using hx
    exact ht
   ·obtain rfl : x = tx:=by simpa using hx
    rfl
  ·obtain rfl : w = [tx]:=by simpa using hw
   rfl
 have:=bfs_sim hV hf hfV n [[tx]] [] [] [] 0 m hs (by omega) (by
  have : cntV V [] ≤ V.length:=List.length_filter_le ..
  show cntV V [] + 1 ≤ m
  omega)
 rw [List.nil_append]
 exact this
/-- where the search stands -/
structure BfsAt (f : Int → List Int) (tx : Int) (V : List Int) (K m : Nat) (q : List (List Int)) (r res : List Int) : Prop where
 cnt : cntV V r + q.length ≤ m
 ways : ∀ p ∈ q, 0 < p.length ∧ p.length + m ≤ K
 res : bfs f tx m q r = res
theorem BfsAt.done {f : Int → List Int} {tx : Int} {V : List Int} {K m : Nat} {r res : List Int} (h : BfsAt f tx V K m [] r res) : res = []:=by rw [← h.res, bfs_nil]
theorem BfsAt.pos {f : Int → List Int} {tx : Int} {V : List Int} {K m : Nat} {p : List Int} {q : List (List Int)} {r res : List Int} (h : BfsAt f tx V K m (p :: q) r res) : 0 < m:=by
 have:=h.cnt;rw [List.length_cons] at this;omega
theorem BfsAt.closed {f : Int → List Int} {tx : Int} {V : List Int} {K m : Nat} {p : List Int} {q : List (List Int)} {r res : List Int} (h : BfsAt f tx V K m (p :: q) r res) (hx : bfsIn tx p (f (p.getLastD 0)) q r = none) : res = p:=by
 have:=h.pos
 obtain ⟨j, rfl⟩ : ∃ j, m = j + 1:=⟨m - 1, by omega⟩
 rw [← h.res]
 show (match bfsIn tx p (f (p.getLastD 0)) q r with | none=>p | some (q', r')=>bfs f tx j q' r') = p
 rw [hx]
theorem BfsAt.next {f : Int → List Int} {tx : Int} {V : List Int} {K m : Nat} {p : List Int} {q q' : List (List Int)} {r r' res : List Int} (hV : V.Nodup) (hf : ∀ a, (f a).Nodup) (hfV : ∀ a, ∀ x ∈ f a, x ∈ V) (h : BfsAt f tx V K (m + 1) (p :: q) r res) (hx : bfsIn tx p (f (p.getLastD 0)) q r = some (q', r')) : BfsAt f tx V K m q' r' res:=by
 have hc : tx ∉ f (p.getLastD 0):=fun e=>by rw [bfsIn_none e] at hx;cases hx
 have hx':=hx
 rw [bfsIn_some hc (hf _)] at hx'
 obtain ⟨rfl, rfl⟩ : q ++ (newsL r (f (p.getLastD 0))).map (fun x=>p ++ [x]) = q' ∧ r ++ newsL r (f (p.getLastD 0)) = r':=by
  have:=Option.some.inj hx';exact ⟨congrArg Prod.fst this, congrArg Prod.snd this⟩
 have hcnt:=cnt_news (r:=r) hV (hf (p.getLastD 0)) (hfV _)
 refine ⟨?_, fun v hv=>?_, ?_⟩
 ·have:=h.cnt;rw [List.length_cons] at this;rw [List.length_append, List.length_map];omega
 ·rcases List.mem_append.1 hv with hv | hv
  ·have:=h.ways v (List.mem_cons_of_mem _ hv);exact ⟨this.1, by omega⟩
  ·obtain ⟨x, _, rfl⟩:=List.mem_map.1 hv
   have:=h.ways p (List.mem_cons_self ..)
   rw [List.length_append, List.length_singleton];exact ⟨by omega, by omega⟩
 ·rw [← h.res]
  show _ = (match bfsIn tx p (f (p.getLastD 0)) q r with | none=>p | some (q', r')=>bfs f tx m q' r')
  rw [hx]
theorem bfs_start {f : Int → List Int} {tx : Int} {V W : List Int} (hV : V.Nodup) (ht : tx ∈ V) (hf : ∀ a, (f a).Nodup) (hfV : ∀ a, ∀ x ∈ f a, x ∈ V) (hW : ∀ a, f a ≠ [] → a ∈ W) : BfsAt f tx V (V.length + 2) (V.length + 1) [[tx]] [] (cycGo f tx 0 W.length) :=
 ⟨by
   have : cntV V [] ≤ V.length:=List.length_filter_le ..
   show cntV V [] + 1 ≤ _
   omega, fun p hp=>by
   obtain rfl : p = [tx]:=by simpa using hp
   show 0 < 1 ∧ 1 + _ ≤ _
   omega, bfs_cyc hV ht hf hfV hW _ (Nat.le_refl _)⟩
end Go.Proofs.Ytooaldglgkjjgaa
/- the program's Cycle (waits) -/
namespace Go.Proofs.Ytooaldglgkjjgaa
open Go.RowKit
open Go.Act renaming put → z0
open List renaming setIfInBounds_toArray → z1, set_cons_zero → z2, set_cons_succ → z3
set_option maxRecDepth 20000
set_option linter.unusedSimpArgs false
set_option linter.unusedVariables false

theorem cyc_invalid {t : Tb} {tx : Int} (h : tbOkB t = false) : cycR t tx = []:=by
 unfold cycR waitersR
 rw [if_neg (by rw [h];decide)];rfl
theorem asc_nodup {l : List Int} (h : Asc l) : l.Nodup:=h.imp fun {a b} h=>by omega
theorem cyc_start {t : Tb} (h : TbOk t) (tx : Int) : ∃ V : List Int, V.Nodup ∧ (∀ a, ∀ x ∈ forR t a, x ∈ V) ∧ V.length ≤ 2000 ∧ BfsAt (forR t) tx V (V.length + 2) (V.length + 1) [[tx]] [] (cycR t tx):=by
 have hV : (wtR (waitersL (t.held ++ t.wait)) tx).Nodup:=asc_nodup (asc_with (asc_waitersFold _ asc_nil))
 have hin : ∀ a, ∀ x ∈ forR t a, x ∈ wtR (waitersL (t.held ++ t.wait)) tx:=fun a x hx=>by
  refine mem_with.2 (.inr ?_)
  unfold waitersL
  rw [mem_waitersFold]
  right
  obtain ⟨p, g, q, hw, _, ⟨y, hy, _, he⟩ | ⟨y, hy, _, he⟩⟩:=(mem_for h).1 hx
  ·exact ⟨y, List.mem_append_left _ hy, he⟩
  ·exact ⟨y, List.mem_append_right _ (by rw [hw];exact List.mem_append_left _ hy), he⟩
 have hW : ∀ a, forR t a ≠ [] → a ∈ waitersR t:=fun a ha=>by
  obtain ⟨x, hx⟩:=List.exists_mem_of_ne_nil _ ha
  obtain ⟨p, g, q, hw, hg, _⟩:=(mem_for h).1 hx
  exact (mem_waiters h).2 ⟨g, by rw [hw];simp, hg⟩
 refine ⟨_, hV, hin, ?_, bfs_start hV (mem_with.2 (.inl rfl)) (fun a=>asc_nodup (asc_for t a)) hin hW⟩
 have h1:=wtR_len (waitersL (t.held ++ t.wait)) tx
 have h2:=waitersFold_len (t.held ++ t.wait) []
 have h3:=h.few
 unfold waitersL at h1 ⊢
 rw [List.length_append, List.length_nil] at h2
 omega
theorem for_wf {t : Tb} (hg : GoodTb t) (h : TbOk t) {a x : Int} (hx : x ∈ forR t a) : (Lit.int .i64 x).wf = true:=by
 obtain ⟨p, g, q, hw, _, ⟨y, hy, _, rfl⟩ | ⟨y, hy, _, rfl⟩⟩:=(mem_for h).1 hx
 ·exact (hg.held y hy).tx
 ·exact (hg.wait y (by rw [hw];exact List.mem_append_left _ hy)).tx
theorem CyAt.start {w w3 w4 : World} {box : List Value} {bm b1 g : Nat} {tx : Int} (h : Hp w [.ob w.heap.size 25 box] w3) (hs : SeenM w3 bm 0 []) (hl : w.heap.size < bm) (hm : Hp w3 [.ob b1 3 [.int .i64 tx], .ob g 38 [.slice (some ⟨b1, 0, none⟩) 1 1]] w4) :
  CyAt w w4 box g 0 1 [.slice (some ⟨b1, 0, none⟩) 1 1] [[tx]] [] bm 0 [(b1, 0, [.int .i64 tx])]:=by
 have hm2 : Hp w3 ([.ob g 38 [.slice (some ⟨b1, 0, none⟩) 1 1]] ++ [.ob b1 3 [.int .i64 tx]]) w4:=hm.pull [1, 0] rfl (pull_nd hm.nd [1, 0] rfl (by decide))
 obtain ⟨hb1, hm3⟩:=Hp.obrd hm2
 have hg:=(hm3.in 0 rfl).1
 have h1:=h.meet hm3 (fun x hx=>by
  simp only [List.mem_append, List.mem_cons, List.not_mem_nil, or_false] at hx
  rcases hx with rfl | rfl
  ·exact ⟨Nat.le_trans h.old.size (hm3.in 0 rfl).1, (hm3.in 0 rfl).2⟩
  ·exact hm3.reads 1 rfl) (fun x hx c hc=>by
  simp only [List.mem_append, List.mem_cons, List.not_mem_nil, or_false] at hx
  rcases hx with rfl | rfl
  ·cases hc
  ·obtain rfl : c = b1:=by simpa [Th.reads] using hc
   exact .inl hb1)
 have hlt:=hs.lt
 refine ⟨h1, hs.below hm.old, Nat.le_of_lt hl, ⟨by omega, by omega, fun e=>?_⟩, ⟨Nat.le_refl _, Nat.le_refl _, by decide⟩, fun i p hp=>?_, fun x hx=>?_⟩
 ·have : bm = b1:=by simpa using e
  omega
 ·have hi:=(List.getElem?_eq_some_iff.1 hp).1
  obtain rfl : i = 0:=by simpa using hi
  obtain rfl : [tx] = p:=by simpa using hp
  exact ⟨_, rfl, one_rd b1 tx⟩
 ·obtain rfl:=List.mem_singleton.1 hx
  exact Nat.le_trans h.old.size hb1
theorem bfs_head {tx : Int} {p l : List Int} {i : Nat} {x : Int} {q : List (List Int)} {r : List Int} (h : l[i]? = some x) : bfsIn tx p (l.drop i) q r = if x = tx then none else if x ∈ r then bfsIn tx p (l.drop (i + 1)) q r else bfsIn tx p (l.drop (i + 1)) (q ++ [p ++ [x]]) (r ++ [x]):=by
 obtain ⟨hi, rfl⟩:=List.getElem?_eq_some_iff.1 h
 rw [List.drop_eq_getElem_cons hi];rfl
abbrev qPw7_0 : Oper:={ dst:=some 25, op:=Op.load 25 (Operand.tmp 2), type:=25, pos := "waits.go:71", after:=#[], guard:=none }
abbrev qPw7_1 : Oper:={ dst:=some 26, op:=Op.move (Operand.tmp 7), type:=38, pos := "waits.go:71", after:=#[], guard:=none }
abbrev qPw7_2 : Oper:={ dst:=some 27, op:=Op.move (Operand.tmp 7), type:=38, pos := "waits.go:71", after:=#[], guard:=none }
abbrev qPw7_3 : Oper:={ dst:=some 28, op:=Op.call { callee:=Callee.builtin Builtin.len, args:=#[Operand.tmp 27], argTypes:=#[38] }, type:=3, pos := "waits.go:71", after:=#[{ on:=2, ground:=Ground.data }], guard:=none }
abbrev qPw7_4 : Oper:={ dst:=some 29, op:=Op.binOp BinOp.sub 3 (Operand.tmp 28) (Operand.const (Value.int IntKind.i64 1)) 3, type:=3, pos := "waits.go:71", after:=#[{ on:=3, ground:=Ground.data }], guard:=none }
abbrev qPw7_5 : Oper:={ dst:=some 30, op:=Op.indexAddr 38 (Operand.tmp 26) (Operand.tmp 29), type:=0, pos := "waits.go:71", after:=#[{ on:=1, ground:=Ground.data }, { on:=4, ground:=Ground.data }], guard:=none }
abbrev qPw7_6 : Oper:={ dst:=some 31, op:=Op.load 3 (Operand.tmp 30), type:=3, pos := "waits.go:71", after:=#[{ on:=5, ground:=Ground.data }], guard:=none }
abbrev qPw7_7 : Oper:={ dst:=some 34, op:=Op.move (Operand.const (Value.int IntKind.i64 0)), type:=3, pos := "waits.go:71", after:=#[], guard:=none }
abbrev qPw7_8 : Oper:={ dst:=some 32, op:=Op.call { callee:=Callee.value (Operand.func 31), args:=#[Operand.tmp 25, Operand.tmp 31], argTypes:=#[25, 3] }, type:=38, pos := "waits.go:71", after:=#[{ on:=0, ground:=Ground.data }, { on:=6, ground:=Ground.data }], guard:=none }
abbrev qPw7_9 : Oper:={ dst:=some 33, op:=Op.call { callee:=Callee.builtin Builtin.len, args:=#[Operand.tmp 32], argTypes:=#[38] }, type:=3, pos := "waits.go:71", after:=#[{ on:=7, ground:=Ground.data }], guard:=none }
set_option maxHeartbeats 16000000 in
theorem pcycle_any {h v : Value} {t : Tb} {R : List Rng} (tx : Int) (w : World) (ht : TbRd h v t R) (hR : RdIn w R) (hg : GoodTb t) :
  Calls Try.prog 14 #[.agg (tbCells h v).toArray, .int .i64 tx] w (IntsPost w (cycR t tx)):=by
 have HVa : Hid (∀ W, Below w.heap.size w W → Calls Try.prog 29 #[.agg (tbCells h v).toArray] W fun e w'=>e = .returned (.bool (tbOkB t)) ∧ Below W.heap.size W w'):=fun W hb=>plkvalid_any W ht (hR.below hb) hg
 have HSt : Hid (tbOkB t = true → ∃ V : List Int, V.Nodup ∧ (∀ a, ∀ x ∈ forR t a, x ∈ V) ∧ V.length ≤ 2000 ∧ BfsAt (forR t) tx V (V.length + 2) (V.length + 1) [[tx]] [] (cycR t tx)):=fun hok=>cyc_start (tbOkB_iff.1 hok) tx
 have HWf : Hid (tbOkB t = true → ∀ a, ∀ x ∈ forR t a, (Lit.int .i64 x).wf = true):=fun hok a x hx=>for_wf hg (tbOkB_iff.1 hok) hx
 have HNd : Hid (∀ a, (forR t a).Nodup):=fun a=>asc_nodup (asc_for t a)
 have HFl : Hid (∀ x, (forR t x).length ≤ 1024):=fun x=>for_few t x
 have HFr : Hid (tbOkB t = true → ∀ x W, Below w.heap.size w W → Calls Try.prog 31 #[.agg (tbCells h v).toArray, .int .i64 x] W (IntsPost W (forR t x))):=fun hok x W hb=>pawait_any x W ht (hR.below hb) hg hok
 have HNo : Hid (tbOkB t = false → cycR t tx = []):=cyc_invalid
 obtain ⟨a, cap, rfl, hnc, hcm⟩:=ht.1.shape
 obtain ⟨a2, cap2, rfl, hnc2, hcm2⟩:=ht.2.shape
 have HUI : Hid (Try.prog.underlying 38 = some (.slice 3)):=Try.underlying38
 have HUJ : Hid (Try.prog.underlying 64 = some (.slice 38)):=Try.underlying64
 clear ht hR hg hnc hcm hnc2 hcm2
 generalize cycR t tx = res at *
 generalize forR t = ff at *
 generalize tbOkB t = ok at *
 have hmk:=run_makeSet0
 have h1:=(Hp.start w).put 25 (tbCells (.slice a t.held.length cap) (.slice a2 t.wait.length cap2))
 simp only [List.nil_append] at h1
 have HS0 : Hid (Hp w [.ob w.heap.size 25 (tbCells (.slice a t.held.length cap) (.slice a2 t.wait.length cap2))] (w.alloc (.cells (tbCells (.slice a t.held.length cap) (.slice a2 t.wait.length cap2)).toArray 25))):=h1
 clear h1
 obtain ⟨fsHUG, huHUG⟩:=under_gr
 have HUG:=Lib.hid huHUG
 clear huHUG
 obtain ⟨fsHUT, huHUT⟩:=under_tb
 have HUT:=Lib.hid huHUT
 clear huHUT
 go_enter Try.func14, Try.ntmps14
 go_upto_region 1 with (fail)
 generalize (w.alloc (.cells (tbCells (.slice a t.held.length cap) (.slice a2 t.wait.length cap2)).toArray 25)) = w1 at *
 go_wp2_with (first | ((with_reducible refine wpList_load_ob 25 (.tmp 2) (w.heap.size) (tbCells (.slice a t.held.length cap) (.slice a2 t.wait.length cap2)) 25 HUT.out ?_ ?_ ?_ ?_ ?_);(exact rfl);(exact (HS0.out).get 0 rfl);(exact rfl);(exact info_tb);simp only [z0, z1, z2, z3]))
 refine (HVa.out _ (HS0.out).old).mono ?_
 rintro e w21 ⟨rfl, hb⟩
 have HS21:=Lib.hid ((HS0.out).calls hb)
 clear hb
 clear HS0
 cases ok
 ·have HR1:=Lib.hid (HNo.out rfl)
  go_wp2_with fail
  go_ret
  rw [HR1.out]
  exact int_none HS21.out.old
 obtain ⟨V, hVn, hVf, hVl, hbf0⟩:=HSt.out rfl
 have HVn:=Lib.hid hVn
 have HVf:=Lib.hid hVf
 have HVl:=Lib.hid hVl
 have HB0:=Lib.hid hbf0
 have HFr2:=Lib.hid (HFr.out rfl)
 have HWf2:=Lib.hid (HWf.out rfl)
 clear HNo HFr HVa HSt HWf hVn hVf hVl hbf0
 go_upto_region 4 with (fail)
 clear hmk
 have HX3:=Lib.hid (HS21.out.calls ((Below.refl _ _).alloc (Nat.le_refl _) (.map #[] 0)))
 have HSe3:=Lib.hid (SeenM.made w21)
 have HBm : Hid (w.heap.size < w21.heap.size):=Lib.hid (HS21.out.lt 0 rfl rfl).2
 generalize w21.alloc (.map #[] 0) = w3 at *
 generalize w21.heap.size = bm at *
 have HS3:=Lib.hid (Hp.start w3)
 clear HS21
 go_wp2_with (first | ((with_reducible refine wpList_build_vals 38 1 elem_i HUI.out [.int .i64 tx] ?_ ?_ ?_ ?_ ?_ ?_);(exact (by intro v hv;simp only [List.mem_cons, List.not_mem_nil, or_false] at hv;subst hv;rfl));(exact Nat.succ_pos _);(simp only [List.length_cons, List.length_nil];omega);(exact rfl);(simp only [List.map_toArray, List.map_cons, List.map_nil, List.zipIdx_cons, List.zipIdx_nil];exact rfl);simp only [z0, z1, z2, z3]) | ((with_reducible refine wpList_build_vals 64 1 elem_is HUJ.out [.slice (some ⟨w3.heap.size, 0, none⟩) 1 1] ?_ ?_ ?_ ?_ ?_ ?_);(exact (by intro v hv;simp only [List.mem_cons, List.not_mem_nil, or_false] at hv;subst hv;rfl));(exact Nat.succ_pos _);(simp only [List.length_cons, List.length_nil];omega);(exact rfl);(simp only [List.map_toArray, List.map_cons, List.map_nil, List.zipIdx_cons, List.zipIdx_nil];exact rfl);simp only [z0, z1, z2, z3]))
 have HS41 : Hid (Hp w3 [.ob (w3.heap.size) 3 ([.int .i64 tx]), .ob ((w3.alloc (.cells ([.int .i64 tx]).toArray 3)).heap.size) 38 ([.slice (some ⟨w3.heap.size, 0, none⟩) 1 1])] ((w3.alloc (.cells ([.int .i64 tx]).toArray 3)).alloc (.cells ([.slice (some ⟨w3.heap.size, 0, none⟩) 1 1]).toArray 38))):=((HS3.out).put 3 ([.int .i64 tx])).put 38 ([.slice (some ⟨w3.heap.size, 0, none⟩) 1 1])
 clear HS3
 generalize ((w3.alloc (.cells ([.int .i64 tx]).toArray 3)).alloc (.cells ([.slice (some ⟨w3.heap.size, 0, none⟩) 1 1]).toArray 38)) = w41 at *
 generalize (w3.alloc (.cells ([.int .i64 tx]).toArray 3)).heap.size = B41 at *
 generalize w3.heap.size = B42 at *
 have HC0:=Lib.hid (CyAt.start HX3.out HSe3.out HBm.out HS41.out)
 clear HX3 HSe3 HBm HS41
 go_loopg [6] (V.length + 1) (fun m qv wr=>∃ (q : List (List Int)) (r : List Int) (g off cap9 k : Nat) (cs : List Value) (RR : List Rng) (m0 : Nat), m0 = m ∧ qv = .slice (some ⟨g, off, none⟩) q.length cap9 ∧ BfsAt ff tx V (V.length + 2) m0 q r res ∧ k ≤ (V.length + 1 - m0) * 1024 ∧ m0 ≤ V.length + 1 ∧ CyAt w wr (tbCells (.slice a t.held.length cap) (.slice a2 t.wait.length cap2)) g off cap9 cs q r bm k RR)
 case atStart=>exact ⟨[[tx]], [], _, 0, 1, 0, _, _, _, rfl, rfl, HB0.out, Nat.zero_le _, Nat.le_refl _, HC0.out⟩
 case round =>
  clear HC0 HB0
  obtain ⟨q, r, g, off, cap9, k, cs, RR, m, rfl, rfl, hbf, hk, hm, hc⟩:=hrel
  have HBf:=Lib.hid hbf
  have HKm : Hid (k ≤ (V.length + 1 - m) * 1024 ∧ m ≤ V.length + 1):=⟨hk, hm⟩
  have HC:=Lib.hid hc
  clear hbf hk hm hc
  cases q with
  | nil =>
   have HE:=Lib.hid HBf.out.done
   go_wp2_with fail
   go_ret
   rw [HE.out]
   exact int_none HC.out.hp.old
  | cons p q =>
   obtain ⟨m1, rfl⟩ : ∃ m1, m = m1 + 1:=⟨m - 1, by have:=HBf.out.pos;omega⟩
   obtain ⟨pv, hpv, hprd⟩:=HC.out.head
   have hp0:=(HBf.out.ways p (List.mem_cons_self ..)).1
   have hpK:=(HBf.out.ways p (List.mem_cons_self ..)).2
   have HPl : Hid (p.length ≤ 5000):=Lib.hid (by have:=HVl.out;omega)
   have HQl : Hid (q.length ≤ 5000):=Lib.hid (by have h1:=HBf.out.cnt;have:=HVl.out;have:=HKm.out.2;rw [List.length_cons] at h1;omega)
   obtain ⟨pa, pc, rfl, hpl, hpm, hpc0⟩:=IntRd.cells hprd
   obtain ⟨pg, poff, rfl, hpc⟩:=hpc0 hp0
   have HPv:=Lib.hid hprd
   have c0 : wr.cell? ⟨g, off, none⟩ = some (.slice (some ⟨pg, poff, none⟩) p.length pc):=HC.out.hp.at 1 rfl off hpv
   obtain ⟨z, hz⟩ : ∃ z, p.length = z + 1:=⟨p.length - 1, by omega⟩
   obtain ⟨u, hu⟩ : ∃ u, p.getLastD 0 = u:=⟨_, rfl⟩
   have hzu : p[z]? = some u:=by have:=last_at (l:=p) (fun e=>by rw [e] at hp0;cases hp0);rw [hz, hu] at this;exact this
   have HPc : Hid (∀ W, RdIn W RR → W.cell? ⟨pg, poff + z, none⟩ = some (.int .i64 u)):=fun W hW=>hpc W hW z u hzu
   have hpw : IntKind.i64.wrap ((p.length : Int) - 1) = (z : Int):=by rw [show (p.length : Int) - 1 = (z : Int) by omega];exact IntWalk.i64_in _ (by have:=HPl.out;omega)
   have hz0 : (0 : Int) ≤ (z : Int):=by omega
   have hzi : (z : Int) < (p.length : Int):=by omega
   have hq1 : (0 : Int) < (q.length : Int) + 1:=by omega
   have hq2 : (1 : Int) ≤ (q.length : Int) + 1:=by omega
   have hqc : q.length + 1 ≤ cap9:=by have:=HC.out.fit.2.1;rwa [List.length_cons] at this
   have hqc2 : (q.length : Int) + 1 ≤ (cap9 : Int):=by omega
   have hqc3 : (1 : Int) ≤ (cap9 : Int):=by omega
   have HU : Hid (p.getLastD 0 = u):=hu
   obtain ⟨off2, hoff2⟩ : ∃ off2, (if cap9 = 1 then off else off + 1) = off2:=⟨_, rfl⟩
   have HPop:=HC.out.pop
   rw [hoff2] at HPop
   have HCp:=Lib.hid HPop
   have HOf:=Lib.hid hoff2
   obtain ⟨nx, hnx⟩ : ∃ nx, ff u = nx:=⟨_, rfl⟩
   have HNl : Hid (nx.length ≤ 1024):=Lib.hid (by rw [← hnx];exact HFl.out u)
   have hnl : (nx.length : Int) ≤ 1024:=by have:=HNl.out;omega
   have HNx:=Lib.hid hnx
   have HRz:=Lib.hid (Hp.startrd wr ((w.heap.size, 0, tbCells (.slice a t.held.length cap) (.slice a2 t.wait.length cap2)) :: RR) (fun x hx=>(List.mem_cons.1 hx).elim (fun e=>by rw [e];exact ⟨(HC.out.hp.lt 0 rfl rfl).2, fun j v hv=>by rw [Nat.zero_add];exact HC.out.hp.at 0 rfl j hv⟩) (HC.out.hp.reads 2 rfl x)))
   have HAw : Hid (∀ W, Below wr.heap.size wr W → Calls Try.prog 31 #[.agg (tbCells (.slice a t.held.length cap) (.slice a2 t.wait.length cap2)).toArray, .int .i64 u] W (IntsPost W nx)):=fun W hb=>by
    have:=HFr2.out u W (HC.out.hp.old.trans (hb.mono HC.out.hp.old.size))
    rwa [hnx] at this
   clear hpc0 hp0 hpK hpl hpm hpc hpv hprd hz hu hzu HPop hoff2 hnx HC hqc
   simp only [List.length_cons]
   go_wp2_with fail
   go_step3
   go_upto_region 7 with (fail)
   clear c0
   go_cut [6] (fun s6 wx=>s6 = .slice (some ⟨g, off2, none⟩) q.length (cap9 - 1) ∧ wr = wx)
   case first =>
    by_cases hc1 : cap9 = 1
    ·have hov : off2 = off:=by rw [← HOf.out, if_pos hc1]
     have HOv:=Lib.hid hov
     clear HOf hov
     go_wp2_with fail
     go_meet
     refine ⟨?_, rfl⟩
     rw [HOv.out]
     all_goals simp [hc1]
    ·have hov : off2 = off + 1:=by rw [← HOf.out, if_neg hc1]
     have HOv:=Lib.hid hov
     clear HOf hov
     go_wp2_with fail
     go_meet
     refine ⟨?_, rfl⟩
     rw [HOv.out]
     all_goals simp [hc1]
   case rest =>
    obtain ⟨rfl, rfl⟩:=hcut
    clear HOf hq1 hq2 hqc2 hqc3
    go_wp2_with fail
    go_step3
    go_upto_region 8 with (fail)
    refine wp_region_held_drew (S:=fun w'=>w'.rangeAt w.heap.size 0 (tbCells (.slice a t.held.length cap) (.slice a2 t.wait.length cap2)) ∧ w'.cell? ⟨pg, poff + z, none⟩ = some (.int .i64 u)) (by kernel_rfl) (⟨(((HRz.out).drew).reads 0 rfl _ (List.mem_cons_self ..)).2, (HPc.out _ (RdIn.sub (((HRz.out).drew).reads 0 rfl) (fun x hx=>List.mem_cons_of_mem _ hx)))⟩) (fun hHeld=>?_)
    refine tk 0 qPw7_0 (some 25) (yieldsIf_load_mid (by rfl) 25 (.tmp 2) rfl w.heap.size (0) rfl (tbCells (.slice a t.held.length cap) (.slice a2 t.wait.length cap2)) _ (fun _ h=>h.1) HUT.out rfl (info_tb)) hHeld ?_
    try simp only [z0, z1, z2, z3]
    refine tk 1 qPw7_1 (some 26) (v:=?q52v) (Or.inl ⟨by rfl, ?q52h⟩) hHeld ?q52r
    case q52h=>(intro _ h;clear h;go_simp;try with_reducible rfl)
    try simp only [z0, z1, z2, z3]
    refine tk 2 qPw7_2 (some 27) (v:=?q53v) (Or.inl ⟨by rfl, ?q53h⟩) hHeld ?q53r
    case q53h=>(intro _ h;clear h;go_simp;try with_reducible rfl)
    try simp only [z0, z1, z2, z3]
    refine tk 3 qPw7_3 (some 28) (v:=?q54v) (Or.inl ⟨by rfl, ?q54h⟩) hHeld ?q54r
    case q54h=>(intro _ h;clear h;go_simp;try with_reducible rfl)
    try simp only [z0, z1, z2, z3]
    refine tk 4 qPw7_4 (some 29) (v:=?q55v) (Or.inl ⟨by rfl, ?q55h⟩) hHeld ?q55r
    case q55h=>(intro _ h;clear h;go_simp;try with_reducible rfl)
    try simp only [z0, z1, z2, z3]
    refine tk 5 qPw7_5 (some 30) (v:=?q56v) (Or.inl ⟨by rfl, ?q56h⟩) hHeld ?q56r
    case q56h=>(intro _ h;clear h;go_simp;try with_reducible rfl)
    try simp only [z0, z1, z2, z3]
    refine tk 6 qPw7_6 (some 31) (v:=.int .i64 u) (Or.inl ⟨by rfl, ?q57h⟩) hHeld ?q57r
    case q57h=>(intro wq hSw;have lq:=hSw.2;clear hSw;go_simp;try with_reducible rfl)
    try simp only [z0, z1, z2, z3]
    refine tk 9 qPw7_7 (some 34) (v:=?q58v) (Or.inl ⟨by rfl, ?q58h⟩) hHeld ?q58r
    case q58h=>(intro _ h;clear h;go_simp;try with_reducible rfl)
    try simp only [z0, z1, z2, z3]
    refine tn 7 qPw7_8 (fun K hK=>?_)
    have HSz:=Lib.hid ((HRz.out).drew).old.size
    go_simp
    go_wp2_with (go_at_call 31;refine (HAw.out _ ((HRz.out).drew).old).mono ?_;rintro e w61 ⟨v8, R8, rfl, hrd2, hin2, hnew2, hb⟩)
    obtain ⟨a8, c8, rfl, hl8, hm8, hg8⟩:=hrd2.cells
    have Hrd8:=Lib.hid hrd2
    have Hnw8:=Lib.hid hnew2
    have Hgc8:=Lib.hid hg8
    clear hg8
    have HS61 : Hid (Hp wr [.rd ((w.heap.size, 0, tbCells (.slice a t.held.length cap) (.slice a2 t.wait.length cap2)) :: RR), .rd R8] w61):=((HRz.out).drew).addrd hb R8 hin2 (fun r hr=>.inl (hnew2 r hr))
    refine hK.out _ _ (⟨((HS61.out).reads 0 rfl _ (List.mem_cons_self ..)).2, (HPc.out _ (RdIn.sub ((HS61.out).reads 0 rfl) (fun x hx=>List.mem_cons_of_mem _ hx)))⟩) (fun hHeld=>?_)
    clear hK K hb hin2 hrd2 hnew2
    try simp only [z0, z1, z2, z3]
    refine tk 8 qPw7_9 (some 33) (v:=?q59v) (Or.inl ⟨by rfl, ?q59h⟩) hHeld ?q59r
    case q59h=>(intro _ h;clear h;go_simp;try with_reducible rfl)
    try simp only [z0, z1, z2, z3]
    refine wpAnyH_done (by kernel_rfl) ?_ _
    clear hHeld
    have HC8 : Hid (CyAt w w61 (tbCells (.slice a t.held.length cap) (.slice a2 t.wait.length cap2)) g off2 (cap9 - 1) cs q r bm k (RR ++ R8)):=Lib.hid (HCp.out.addrd HS61.out.old (HS61.out.reads 1 rfl) (fun x hx=>Nat.le_trans HSz.out (Hnw8.out x hx)))
    have HP8 : Hid (IntRd (.slice (some ⟨pg, poff, none⟩) p.length pc) p (RR ++ R8)):=SlRd.mono HPv.out (fun x hx=>List.mem_append_left _ hx)
    obtain ⟨X, hX⟩ : ∃ X, bfsIn tx p nx q r = X:=⟨_, rfl⟩
    have HX : Hid (bfsIn tx p (ff (p.getLastD 0)) q r = X):=Lib.hid (by rw [HU.out, HNx.out];exact hX)
    have HX0 : Hid (bfsIn tx p (nx.drop 0) q r = X):=Lib.hid (by rw [List.drop_zero];exact hX)
    have HR8 : Hid (∀ x ∈ R8, x ∈ RR ++ R8):=fun x hx=>List.mem_append_right _ hx
    clear hX HCp HPv HPc HSz Hnw8  HAw hpw hz0 hzi
    go_wp2_with fail
    go_loopw [6, 34] (fun qv iv wr=>∃ (i : Nat) (q1 : List (List Int)) (r1 : List Int) (g off cap9 k1 : Nat) (cs : List Value) (RR : List Rng), i ≤ nx.length ∧ iv = .int .i64 i ∧ qv = .slice (some ⟨g, off, none⟩) q1.length cap9 ∧ bfsIn tx p (nx.drop i) q1 r1 = X ∧ k1 ≤ k + i ∧ q1.length ≤ q.length + i ∧ (∀ x ∈ R8, x ∈ RR) ∧ IntRd (.slice (some ⟨pg, poff, none⟩) p.length pc) p RR ∧ CyAt w wr (tbCells (.slice a t.held.length cap) (.slice a2 t.wait.length cap2)) g off cap9 cs q1 r1 bm k1 RR) (fun _ iv _=>nx.length - (intOf iv).toNat)
    case atStart=>exact ⟨0, q, r, g, off2, cap9 - 1, k, cs, _, by omega, rfl, rfl, HX0.out, by omega, by omega, HR8.out, HP8.out, HC8.out⟩
    case round =>
     clear HC8 HX0 HR8 HP8 HS61
     obtain ⟨i, q1, r1, g, off, cap9, k1, cs, RR, hi, rfl, rfl, hbi, hk1, hq1, hr8, hpv, hc⟩:=hrel
     have HBi:=Lib.hid hbi
     have HK1 : Hid (k1 ≤ k + i ∧ q1.length ≤ q.length + i):=⟨hk1, hq1⟩
     have HR8:=Lib.hid hr8
     have HPv:=Lib.hid hpv
     have HC:=Lib.hid hc
     clear hbi hk1 hq1 hr8 hpv hc
     by_cases hlt : i < nx.length
     ·obtain ⟨g8, off8, rfl, hc8⟩:=Hgc8.out (by omega)
      obtain ⟨x, hx⟩ : ∃ x, nx[i]? = some x:=⟨_, List.getElem?_eq_getElem hlt⟩
      have c8 : wr.cell? ⟨g8, off8 + i, none⟩ = some (.int .i64 x):=hc8 wr ((HC.out.hp.reads 2 rfl).sub HR8.out) i x hx
      have hii : (i : Int) < (nx.length : Int):=by omega
      have hi0 : (0 : Int) ≤ (i : Int):=by omega
      have HIt:=Lib.hid hlt
      have HWx : Hid ((Lit.int .i64 x).wf = true):=HWf2.out u x (by rw [HNx.out];exact List.mem_of_getElem? hx)
      have hbh:=bfs_head (tx:=tx) (p:=p) (q:=q1) (r:=r1) hx
      rw [HBi.out] at hbh
      clear hc8 hi hlt hx HBi Hgc8
      by_cases hxt : x = tx
      ·rw [if_pos hxt] at hbh
       have HE : Hid (res = p):=Lib.hid (HBf.out.closed (by rw [HX.out, hbh]))
       obtain ⟨e1, n1⟩:=eq_facts hxt
       clear hbh hxt
       go_wp2_with fail
       go_ret
       rw [HE.out]
       exact ⟨_, RR, rfl, HPv.out, HC.out.hp.reads 2 rfl, HC.out.fresh, HC.out.hp.old⟩
      ·rw [if_neg hxt] at hbh
       obtain ⟨e1, n1⟩:=ne_facts hxt
       clear hxt
       by_cases hxr : x ∈ r1
       ·rw [if_pos hxr] at hbh
        have HBn:=Lib.hid hbh.symm
        have lq:=seen_look HC.out.seen HWx.out (decide_eq_true hxr)
        clear hbh hxr
        go_wp2_with fail
        go_roundw
        case rel=>exact ⟨i + 1, q1, r1, g, off, cap9, k1, cs, RR, HIt.out, by go_num, rfl, HBn.out, by have:=HK1.out.1;omega, by have:=HK1.out.2;omega, HR8.out, HPv.out, HC.out⟩
        case measure=>simp [intOf];try (have:=HIt.out;omega)
       ·rw [if_neg hxr] at hbh
        obtain ⟨px, hpx⟩ : ∃ px, p ++ [x] = px:=⟨_, rfl⟩
        rw [hpx] at hbh
        have HPx:=Lib.hid hpx
        clear hpx
        have HBn:=Lib.hid hbh.symm
        have lq:=seen_look HC.out.seen HWx.out (decide_eq_false hxr)
        have HKm2 : Hid (k1 < maxLen):=Lib.hid (by have h1:=HK1.out.1;have h2:=HKm.out;have h3:=HVl.out;have h4:=HNl.out;have h5:=HIt.out;unfold maxLen;omega)
        clear hbh hxr
        go_upto_region 14 with (fail)
        go_wp2_with (first | ((with_reducible refine wpList_store_seen (.tmp 47) (.tmp 48) HC.out.seen HKm2.out HWx.out ?_ ?_ ?_);(exact rfl);(exact rfl)))
        intro w90 hsn hgn
        have HM:=Lib.hid (HC.out.mark hsn hgn)
        clear hsn hgn HC lq c8
        have HS90:=Lib.hid (Hp.startrd w90 RR (HM.out.hp.reads 2 rfl))
        go_wp2_with (first | ((with_reducible refine wpList_build_vals 38 1 elem_i HUI.out [.int .i64 x] ?_ ?_ ?_ ?_ ?_ ?_);(exact (by intro v hv;simp only [List.mem_cons, List.not_mem_nil, or_false] at hv;subst hv;rfl));(exact Nat.succ_pos _);(simp only [List.length_cons, List.length_nil];omega);(exact rfl);(simp only [List.map_toArray, List.map_cons, List.map_nil, List.zipIdx_cons, List.zipIdx_nil];exact rfl);simp only [z0, z1, z2, z3]) | ((with_reducible refine wpList_build_vals 64 2 elem_is HUJ.out [.slice (some ⟨pg, poff, none⟩) p.length pc, .slice (some ⟨w90.heap.size, 0, none⟩) 1 1] ?_ ?_ ?_ ?_ ?_ ?_);(exact (by intro v hv;simp only [List.mem_cons, List.not_mem_nil, or_false] at hv;rcases hv with rfl | rfl <;> rfl));(exact Nat.succ_pos _);(simp only [List.length_cons, List.length_nil];omega);(exact rfl);(simp only [List.map_toArray, List.map_cons, List.map_nil, List.zipIdx_cons, List.zipIdx_nil];exact rfl);simp only [z0, z1, z2, z3]))
        have HS101 : Hid (Hp w90 [.rd RR, .ob (w90.heap.size) 3 ([.int .i64 x]), .ob (w90.heap.size + 1) 38 ([.slice (some ⟨pg, poff, none⟩) p.length pc, .slice (some ⟨w90.heap.size, 0, none⟩) 1 1])] ((w90.alloc (.cells ([.int .i64 x]).toArray 3)).alloc (.cells ([.slice (some ⟨pg, poff, none⟩) p.length pc, .slice (some ⟨w90.heap.size, 0, none⟩) 1 1]).toArray 38))):=(by have h9:=((HS90.out).put 3 ([.int .i64 x])).put 38 ([.slice (some ⟨pg, poff, none⟩) p.length pc, .slice (some ⟨w90.heap.size, 0, none⟩) 1 1]);simp only [World.size_alloc] at h9;exact h9)
        clear HS90
        generalize ((w90.alloc (.cells ([.int .i64 x]).toArray 3)).alloc (.cells ([.slice (some ⟨pg, poff, none⟩) p.length pc, .slice (some ⟨w90.heap.size, 0, none⟩) 1 1]).toArray 38)) = w101 at *
        generalize w90.heap.size + 1 = B101 at *
        generalize w90.heap.size = B102 at *
        have HCn:=concat_any p [x] (.slice (some ⟨pg, poff, none⟩) p.length pc) (.slice (some ⟨B102, 0, none⟩) 1 1) B101 (RR ++ [(B102, 0, [.int .i64 x])]) w101 (ob_rdin HS101.out 2 rfl) (SlRd.mono HPv.out (fun y hy=>List.mem_append_left _ hy)) (SlRd.mono (one_rd B102 x) (fun y hy=>List.mem_append_right _ hy)) ((HS101.out.reads 0 rfl).append (ob_rdin HS101.out 1 rfl)) (by have:=HPl.out;rw [List.length_singleton];omega) (by rw [List.length_singleton];omega)
        rw [HPx.out] at HCn
        go_wp2_with fail
        refine (HCn).mono ?_
        rintro e w102 ⟨u0, rfl, ho, hb⟩
        have HS102:=Lib.hid ((HS101.out).addown hb ho)
        clear hb ho
        clear HS101
        clear HCn
        obtain ⟨a0, c0, rfl⟩:=own_slice (HS102.out.own 3 rfl)
        have HS103 : Hid (Hp w90 [.sl ((.slice a0 px.length c0)) 3 1 (px.length) (intRow px)] w102):=HS102.out.pull [3] rfl (pull_nd HS102.out.nd [3] rfl (by decide))
        clear HS102
        obtain ⟨Ru, hru, hun, hs92⟩:=Hp.ownrd2 (A:=[]) HS103.out
        have HS92:=Lib.hid hs92
        have HRu : Hid (IntRd (.slice a0 px.length c0) px Ru):=hru
        have HUn:=Lib.hid hun
        clear hru hun hs92 HS103
        have HS93 : Hid (Hp w90 [.ob w102.heap.size 38 [.slice a0 px.length c0], .rd Ru] (w102.alloc (.cells ([.slice a0 px.length c0]).toArray 38))):=((HS92.out).put 38 [.slice a0 px.length c0]).pull [1, 0] rfl (pull_nd ((HS92.out).put 38 [.slice a0 px.length c0]).nd [1, 0] rfl (by decide))
        have HJ:=Lib.hid (HM.out.beside HS93.out HUn.out)
        go_wp2_with (first | ((with_reducible refine wpList_build_vals 64 1 elem_is HUJ.out [.slice a0 px.length c0] ?_ ?_ ?_ ?_ ?_ ?_);(exact (by intro v hv;simp only [List.mem_cons, List.not_mem_nil, or_false] at hv;subst hv;rfl));(exact Nat.succ_pos _);(simp only [List.length_cons, List.length_nil];omega);(exact rfl);(simp only [List.map_toArray, List.map_cons, List.map_nil, List.zipIdx_cons, List.zipIdx_nil];exact rfl);simp only [z0, z1, z2, z3]) | ((with_reducible refine wpList_append_que HJ.out (.tmp 49) (.tmp 55) 1 (g:=g) (cs:=cs) ?_ 2 (b:=w102.heap.size) (t':=38) (u:=.slice a0 px.length c0) (off:=off) (n:=q1.length) (cap:=cap9) ?_ ?_ HM.out.fit.1 HM.out.fit.2.1 HM.out.fit.2.2 ?_ ?_ ?_ ?_);(exact rfl);(exact rfl);(exact rfl);(exact (by have h1:=HK1.out.2;have h2:=HQl.out;have h3:=HNl.out;have h4:=HIt.out;omega));(exact rfl);(exact rfl)))
        intro g2 o2 c2 cs2 w95 hq
        have HF:=Lib.hid (HM.out.push HS93.out HUn.out HRu.out hq)
        have HPw : Hid (IntRd (.slice (some ⟨pg, poff, none⟩) p.length pc) p (RR ++ Ru)):=SlRd.mono HPv.out (fun y hy=>List.mem_append_left _ hy)
        clear hq HJ HM HS92 HS93 HRu
        go_wp2_with fail
        go_roundw
        case rel=>exact ⟨i + 1, q1 ++ [px], r1 ++ [x], g2, o2, c2, k1 + 1, cs2, RR ++ Ru, HIt.out, by go_num, by rw [List.length_append];rfl, HBn.out, by have:=HK1.out.1;omega, by have:=HK1.out.2;rw [List.length_append, List.length_singleton];omega, fun y hy=>List.mem_append_left _ (HR8.out y hy), HPw.out, HF.out⟩
        case measure=>simp [intOf];try (have:=HIt.out;omega)
     ·obtain rfl : i = nx.length:=by omega
      have HE : Hid (X = some (q1, r1)):=Lib.hid (by have:=HBi.out;rw [List.drop_length] at this;exact this.symm)
      have HBm:=Lib.hid (HBf.out.next HVn.out HNd.out HVf.out (by rw [HX.out, HE.out]))
      clear hlt hi HBi
      go_wp2_with fail
      simp only [Exit.noGoto_normal, Exit.inBlock, Exit.then]
      refine ‹∀ (a' : Act) (w' : World), Handed _ (m1 + 1) a' w' → _› _ _ ?_
      go_roundg m1
      case rel=>exact ⟨q1, r1, g, off, cap9, k1, cs, RR, m1, rfl, rfl, HBm.out, by have h1:=HK1.out.1;have h2:=HKm.out;have h3:=HNl.out;omega, by have h2:=HKm.out;omega, HC.out⟩
      case measure=>exact Nat.lt_succ_self _
end Go.Proofs.Ytooaldglgkjjgaa
/- the program's Waiting and turn (locks) -/
namespace Go.Proofs.Ytooaldglgkjjgaa
open Go.RowKit
set_option maxRecDepth 20000
set_option linter.unusedSimpArgs false
set_option linter.unusedVariables false

def passB (h : List Gr) (g : Gr) (x : Gr) : Bool:=decide (x.page = g.page) && (decide (x.slot = g.slot) && decide (modeG h x = 0))
theorem up_dec {h : List Gr} (hok : ∀ g ∈ h, GrOk g) (x : Gr) : decide (0 < modeG h x) = !decide (modeG h x = 0):=by
 have:=modeR_ge hok x.tx x.page x.slot
 by_cases h0 : modeG h x = 0
 ·rw [decide_eq_true h0]
  have : ¬ 0 < modeG h x:=by omega
  rw [decide_eq_false this];rfl
 ·rw [decide_eq_false h0]
  have : 0 < modeG h x:=by unfold modeG at h0 ⊢;omega
  rw [decide_eq_true this];rfl
theorem eg_turn : EntersF 73:=enters_of Try.func73 (by kernel_rfl) rfl
set_option maxHeartbeats 4000000 in
theorem turn_at {hv v : Value} (t : Tb) (R : List Rng) (g : Gr) (hg : GoodGr g) (ht : TbRd hv v t R) (hh : HeldOk t.held) (hl : t.held.length ≤ 200000) (b c : Nat) (l : List Gr) (hgo : ∀ x ∈ l, GoodGr x) :
  GrAt 73 #[.pointer (some ⟨b, 0, none⟩), .pointer (some ⟨c, 0, none⟩)] (passB t.held g) l ([(b, 0, grCells g), (c, 0, tbCells hv v)] ++ R):=by
 intro W x hx hR
 have hb:=hR (b, 0, grCells g) (by simp)
 have hc:=hR (c, 0, tbCells hv v) (by simp)
 have hr : RdIn W R:=hR.sub (fun r h=>List.mem_append_right _ h)
 obtain ⟨a, cap, rfl, _, _⟩:=ht.1.shape
 have HUp : Hid (∀ V, Below W.heap.size W V → Calls Try.prog 74 #[.slice a t.held.length cap, .agg (grCells x).toArray] V fun e w'=>e = .returned (.bool (decide (0 < modeG t.held x))) ∧ Below V.heap.size V w'):=fun V h2=>upgrade_any x t.held _ R V hh.up ht.1 (hr.below h2) hl
 have HLtb : Hid (b < W.heap.size):=hb.1
 have HLtc : Hid (c < W.heap.size):=hc.1
 have g1 : W.cell? ⟨b, 1, none⟩ = some (.int .i64 g.page):=hb.2 1 _ rfl
 have g2 : W.cell? ⟨b, 2, none⟩ = some (.int .i64 g.slot):=hb.2 2 _ rfl
 have c0 : W.cell? ⟨c, 0, none⟩ = some (.slice a t.held.length cap):=hc.2 0 _ rfl
 have hq : ∀ W, Sem.run Try.prog (binOp .eql 27 (.agg #[.int .i64 x.page, .int .i64 x.slot]) (.agg #[.int .i64 g.page, .int .i64 g.slot])) W = .ok (.bool (sameV x.lock g.lock)) W:=fun W=>run_eql (equal_lk x.lock g.lock (hgo x hx).lock hg.lock) W
 have hs:=lock_same x g.lock
 have HV : Hid (passB t.held g x = (sameV x.lock g.lock && !decide (0 < modeG t.held x))):=Lib.hid (by unfold passB;rw [hs, up_dec hh.ok, Bool.not_not, Bool.and_assoc])
 have h1:=(Hp.start W).put 29 (grCells x)
 have HS0 : Hid (Hp W [.ob W.heap.size 29 (grCells x)] (W.alloc (.cells (grCells x).toArray 29))):=h1
 clear h1 hR hb hc hg hgo hs hr ht hh hl
 obtain ⟨fs, hu⟩:=under_gr
 have HUG:=Lib.hid hu
 clear hu
 generalize sameV x.lock g.lock = q at *
 obtain ⟨pb, hpb⟩ : ∃ pb, passB t.held g x = pb:=⟨_, rfl⟩
 show Calls Try.prog 73 #[.agg (grCells x).toArray, .pointer (some ⟨b, 0, none⟩), .pointer (some ⟨c, 0, none⟩)] W fun e w'=>e = .returned (.bool (passB t.held g x)) ∧ Below W.heap.size W w'
 rw [hpb] at HV ⊢
 clear hpb
 generalize decide (0 < modeG t.held x) = up at *
 go_enter Try.func73, Try.ntmps73
 go_upto_region 1 with (fail)
 have x1 : (W.alloc (.cells (grCells x).toArray 29)).cell? ⟨W.heap.size, 1, none⟩ = some (.int .i64 x.page):=HS0.out.at 0 rfl 1 rfl
 have x2 : (W.alloc (.cells (grCells x).toArray 29)).cell? ⟨W.heap.size, 2, none⟩ = some (.int .i64 x.slot):=HS0.out.at 0 rfl 2 rfl
 have dg1:=(HS0.out.old.cell (p:=⟨b, 1, none⟩) HLtb.out).trans g1
 have dg2:=(HS0.out.old.cell (p:=⟨b, 2, none⟩) HLtb.out).trans g2
 have dc0:=(HS0.out.old.cell (p:=⟨c, 0, none⟩) HLtc.out).trans c0
 clear g1 g2 c0
 generalize (W.alloc (.cells (grCells x).toArray 29)) = w1 at *
 cases q
 ·have HX : Hid (pb = false):=Lib.hid (by rw [HV.out];rfl)
  go_wp2_with fail
  go_ret
  exact ⟨by rw [HX.out];rfl, HS0.out.old⟩
 ·have HX : Hid (pb = !up):=Lib.hid (by rw [HV.out];rfl)
  go_wp2_with (first | ((with_reducible refine wpList_load_ob_w 29 (.tmp 3) W.heap.size (grCells x) 29 HUG.out ?_ ?_ ?_ ?_ ?_ ?_);(exact rfl);(exact rfl);(exact HS0.out.get 0 rfl);(exact rfl);(exact info_gr);simp only [Act.put, List.setIfInBounds_toArray, List.set_cons_zero, List.set_cons_succ]))
  refine (HUp.out _ HS0.out.old).mono ?_
  rintro e w2 ⟨rfl, hb⟩
  have HS1:=Lib.hid (HS0.out.calls hb)
  clear hb x1 x2 dg1 dg2 dc0 HS0
  go_wp2_with fail
  go_ret
  exact ⟨by rw [HX.out];rfl, HS1.out.old⟩
theorem wplace_idx (h l : List Gr) (g : Gr) : (idxR (passB h g) l = -1 ∧ wplaceR h l g = l.length) ∨ ∃ k : Nat, k < l.length ∧ idxR (passB h g) l = (k : Int) ∧ (wplaceR h l g = if modeG h g = 0 then l.length else k):=by
 by_cases hi : idxR (passB h g) l = -1
 ·refine .inl ⟨hi, ?_⟩
  unfold wplaceR
  split
  ·rfl
  ·rw [List.findIdx_eq_length]
   intro x hx
   have:=List.all_eq_true.1 (idxR_neg hi) x hx
   unfold passB at this
   rw [Bool.not_eq_true'] at this
   exact this
 ·obtain ⟨k, hk, e, ha, hx⟩:=idxR_pos hi
  refine .inr ⟨k, hk, e, ?_⟩
  unfold wplaceR
  split
  ·rfl
  ·rw [List.findIdx_eq hk]
   refine ⟨by unfold passB at hx;exact hx, fun j hj=>?_⟩
   have hm : l[j] ∈ l.take k:=List.mem_take_iff_getElem.2 ⟨j, by omega, rfl⟩
   have:=List.all_eq_true.1 ha _ hm
   unfold passB at this
   rw [Bool.not_eq_true'] at this
   exact this
set_option maxHeartbeats 8000000 in
theorem turn_any {h v : Value} {t : Tb} {R : List Rng} (g : Gr) (w : World) (ht : TbRd h v t R) (hR : RdIn w R) (hg : GoodTb t) (hk : GoodGr g) (hh : HeldOk t.held) :
  Calls Try.prog 48 #[.agg (tbCells h v).toArray, .agg (grCells g).toArray] w fun e w'=>e = .returned (.int .i64 (wplaceR t.held t.wait g : Nat)) ∧ Below w.heap.size w w':=by
 obtain ⟨a, cap, rfl, hnc, hcm⟩:=ht.1.shape
 obtain ⟨a2, cap2, rfl, hnc2, hcm2⟩:=ht.2.shape
 have HIx : Hid (∀ b c W, Below w.heap.size w W → RdIn W [(b, 0, grCells g), (c, 0, tbCells (.slice a t.held.length cap) (.slice a2 t.wait.length cap2))] → Calls Try.prog 59 #[.slice a2 t.wait.length cap2, .func (.func 73) #[] #[.pointer (some ⟨b, 0, none⟩), .pointer (some ⟨c, 0, none⟩)]] W fun e w'=>e = .returned (.int .i64 (idxR (passB t.held g) t.wait)) ∧ Below W.heap.size W w'):=fun b c W hb hr=>idxGr_any _ _ _ t.wait _ R W eg_turn ((turn_at t R g hk ht hh (by have:=hg.few;omega) b c t.wait hg.wait).fn (hr.append (hR.below hb))) ht.2 (hR.below hb) (by have:=hg.few;omega)
 have HUp : Hid (∀ W, Below w.heap.size w W → Calls Try.prog 74 #[.slice a t.held.length cap, .agg (grCells g).toArray] W fun e w'=>e = .returned (.bool (decide (0 < modeG t.held g))) ∧ Below W.heap.size W w'):=fun W hb=>upgrade_any g t.held _ R W hh.up ht.1 (hR.below hb) (by have:=hg.few;omega)
 have HUd:=Lib.hid (up_dec hh.ok g)
 have HWp:=Lib.hid (wplace_idx t.held t.wait g)
 have HNw : Hid ((t.wait.length : Int) ≤ 100000):=Lib.hid (by have:=hg.few;omega)
 have h1:=(((Hp.start w).put 25 (tbCells (.slice a t.held.length cap) (.slice a2 t.wait.length cap2))).put 29 (grCells g))
 simp only [World.size_alloc, List.nil_append, List.cons_append] at h1
 have HS0 : Hid (Hp w [.ob w.heap.size 25 (tbCells (.slice a t.held.length cap) (.slice a2 t.wait.length cap2)), .ob (w.heap.size + 1) 29 (grCells g)] ((w.alloc (.cells (tbCells (.slice a t.held.length cap) (.slice a2 t.wait.length cap2)).toArray 25)).alloc (.cells (grCells g).toArray 29))):=h1
 clear h1 ht hR hg hk hh hnc hcm hnc2 hcm2
 obtain ⟨fsHUG, huHUG⟩:=under_gr
 have HUG:=Lib.hid huHUG
 clear huHUG
 obtain ⟨fsHUT, huHUT⟩:=under_tb
 have HUT:=Lib.hid huHUT
 clear huHUT
 generalize idxR (passB t.held g) t.wait = ix at *
 obtain ⟨wp, hwp⟩ : ∃ wp, wplaceR t.held t.wait g = wp:=⟨_, rfl⟩
 rw [hwp] at HWp ⊢
 clear hwp
 generalize decide (0 < modeG t.held g) = up at *
 go_enter Try.func48, Try.ntmps48
 go_upto_region 1 with (fail)
 generalize ((w.alloc (.cells (tbCells (.slice a t.held.length cap) (.slice a2 t.wait.length cap2)).toArray 25)).alloc (.cells (grCells g).toArray 29)) = w1 at *
 generalize hb3 : w.heap.size + 1 = b3 at *
 have b1 : w1.cell? ⟨w.heap.size, 1, none⟩ = some (.slice a2 t.wait.length cap2):=HS0.out.at 0 rfl 1 rfl
 go_wp2_with fail
 have hrd : RdIn w1 [(b3, 0, grCells g), (w.heap.size, 0, tbCells (.slice a t.held.length cap) (.slice a2 t.wait.length cap2))]:=fun r hr=>by
  rcases List.mem_cons.1 hr with rfl | hr
  ·exact ⟨(HS0.out.lt 1 rfl rfl).2, fun j v hv=>by rw [Nat.zero_add];exact HS0.out.at 1 rfl j hv⟩
  ·obtain rfl:=List.mem_singleton.1 hr
   exact ⟨(HS0.out.lt 0 rfl rfl).2, fun j v hv=>by rw [Nat.zero_add];exact HS0.out.at 0 rfl j hv⟩
 refine (HIx.out _ _ _ HS0.out.old hrd).mono ?_
 rintro e w2 ⟨rfl, hb⟩
 have HS1:=Lib.hid (HS0.out.calls hb)
 clear hb hrd HIx b1 HS0
 have b0 : w2.cell? ⟨w.heap.size, 0, none⟩ = some (.slice a t.held.length cap):=HS1.out.at 0 rfl 0 rfl
 have b1 : w2.cell? ⟨w.heap.size, 1, none⟩ = some (.slice a2 t.wait.length cap2):=HS1.out.at 0 rfl 1 rfl
 rcases HWp.out with ⟨hix, hwp⟩ | ⟨k, hk, hix, hwp⟩
 ·subst hix
  have HX:=Lib.hid hwp
  clear hwp HWp HUp
  go_wp2_with fail
  go_ret
  exact ⟨by rw [HX.out];rfl, HS1.out.old⟩
 ·subst hix
  have HX:=Lib.hid hwp
  have hk0 : (0 : Int) ≤ (k : Int):=by omega
  clear hwp HWp hk
  go_wp2_with (first | ((with_reducible refine wpList_load_ob_w 29 (.tmp 3) b3 (grCells g) 29 HUG.out ?_ ?_ ?_ ?_ ?_ ?_);(exact rfl);(exact rfl);(exact HS1.out.get 1 rfl);(exact rfl);(exact info_gr);simp only [Act.put, List.setIfInBounds_toArray, List.set_cons_zero, List.set_cons_succ]))
  refine (HUp.out _ HS1.out.old).mono ?_
  rintro e w3 ⟨rfl, hb⟩
  have HS2:=Lib.hid (HS1.out.calls hb)
  clear hb HUp b0 b1 HS1
  have b0 : w3.cell? ⟨w.heap.size, 0, none⟩ = some (.slice a t.held.length cap):=HS2.out.at 0 rfl 0 rfl
  have b1 : w3.cell? ⟨w.heap.size, 1, none⟩ = some (.slice a2 t.wait.length cap2):=HS2.out.at 0 rfl 1 rfl
  cases up
  ·have HX2 : Hid (wp = t.wait.length):=Lib.hid (by
    have h:=HUd.out
    have h0 : modeG t.held g = 0:=by simpa using h
    rw [HX.out, if_pos h0])
   go_wp2_with fail
   go_ret
   exact ⟨by rw [HX2.out];rfl, HS2.out.old⟩
  ·have HX2 : Hid (wp = k):=Lib.hid (by
    have h:=HUd.out
    have h0 : ¬ modeG t.held g = 0:=by simpa using h
    rw [HX.out, if_neg h0])
   go_wp2_with fail
   go_ret
   exact ⟨by rw [HX2.out];rfl, HS2.out.old⟩
end Go.Proofs.Ytooaldglgkjjgaa
/- rows of whole elements that are written in place -/
namespace Go.Proofs.Ytooaldglgkjjgaa
open Go.RowKit
set_option maxRecDepth 20000
set_option linter.unusedSimpArgs false
set_option linter.unusedVariables false

theorem run_inj {a b : World} (h : (Result.ok () a : Result Unit) = .ok () b) : a = b:=by injection h
theorem setCells_row {W : World} {g o : Nat} {cs cur : List Value} {t : TypeId} (hg : W.heap[g]? = some (.cells cur.toArray t (0, 0))) (hfit : o + cs.length ≤ cur.length) (h1 : ∀ v ∈ cs, v.oneCell' = true) :
    W.setCells g o cs = W.setRow g (splice cur o cs).toArray:=by
  have a:=run_storeCells_at Try.prog g o t cs 0 cur.toArray W hg (by simpa using hfit) h1
  have b:=run_storeCells_cells (P:=Try.prog) g o cs 0 W (fun j hj=>by
    rw [Nat.add_zero, cell_of_row W g (o + j) _ _ _ hg, List.getElem?_toArray, List.getElem?_eq_getElem (by omega)];rfl) (fun j hj=>frozen_of_row _ _ _ _ _ hg) h1
  rw [a] at b
  simp only [Nat.add_zero] at b
  rw [← run_inj b]
  unfold splice
  rw [List.append_assoc]
theorem grown_setRow (W : World) (g : Nat) (cs : Array Value) : W.grownBy (W.setRow g cs) (some g):=⟨rfl, rfl, rfl, by simp [World.setRow], fun k hk hne=>setRow_other W g k cs (fun e=>hne (by rw [e]))⟩
theorem grown_trans {a b c : World} {r : Option Nat} (h : a.grownBy b r) (k : b.grownBy c r) : a.grownBy c r:=⟨k.os.trans h.os, k.tape.trans h.tape, k.output.trans h.output, Nat.le_trans h.size k.size, fun i hi hne=>(k.block i (Nat.lt_of_lt_of_le hi h.size) hne).trans (h.block i hi hne)⟩
theorem grown_below {a b : World} {r : Option Nat} (h : Below a.heap.size a b) : a.grownBy b r:=⟨h.os, h.tape, h.output, h.size, fun k hk _=>h.block k hk⟩
section
variable {α : Type} {enc : α → List Value} {z : Nat}
def encRow (enc : α → List Value) (ys : List α) : List Value:=ys.flatMap enc
theorem encRow_len (hz : ∀ x, (enc x).length = z) : ∀ ys : List α, (encRow enc ys).length = ys.length * z
  | []=>by simp [encRow]
  | y :: l=>by
    show (enc y ++ encRow enc l).length = _
    rw [List.length_append, hz, encRow_len hz l, List.length_cons, Nat.add_mul];omega
theorem encRow_append (a b : List α) : encRow enc (a ++ b) = encRow enc a ++ encRow enc b:=List.flatMap_append
theorem encRow_at (hz : ∀ x, (enc x).length = z) (rest : List Value) {ys : List α} {k : Nat} (h : k < ys.length) : ∀ j v, (enc ys[k])[j]? = some v → (encRow enc ys ++ rest)[k * z + j]? = some v:=by
  intro j v hv
  have hj:=(List.getElem?_eq_some_iff.1 hv).1
  rw [hz] at hj
  have e : ys = ys.take k ++ (ys[k] :: ys.drop (k + 1)):=by rw [List.getElem_cons_drop, List.take_append_drop]
  have e2 : encRow enc ys = encRow enc (ys.take k) ++ (enc ys[k] ++ encRow enc (ys.drop (k + 1))):=by
    conv=>lhs;rw [e]
    rw [encRow_append]
    rfl
  have l1 : (encRow enc (ys.take k)).length = k * z:=by rw [encRow_len hz, List.length_take, Nat.min_eq_left (by omega)]
  rw [e2, List.append_assoc, List.getElem?_append_right (by omega), l1, Nat.add_sub_cancel_left, List.append_assoc, List.getElem?_append_left (by rw [hz];exact hj)]
  exact hv
theorem encRow_set (hz : ∀ x, (enc x).length = z) (rest : List Value) {ys : List α} {k : Nat} (h : k < ys.length) (y : α) : splice (encRow enc ys ++ rest) (k * z) (enc y) = encRow enc (ys.set k y) ++ rest:=by
  have e : ys = ys.take k ++ (ys[k] :: ys.drop (k + 1)):=by rw [List.getElem_cons_drop, List.take_append_drop]
  have e2 : encRow enc ys = encRow enc (ys.take k) ++ (enc ys[k] ++ encRow enc (ys.drop (k + 1))):=by
    conv=>lhs;rw [e]
    rw [encRow_append]
    rfl
  have e3 : encRow enc (ys.set k y) = encRow enc (ys.take k) ++ (enc y ++ encRow enc (ys.drop (k + 1))):=by
    rw [List.set_eq_take_append_cons_drop, if_pos h, encRow_append]
    rfl
  have l1 : (encRow enc (ys.take k)).length = k * z:=by rw [encRow_len hz, List.length_take, Nat.min_eq_left (by omega)]
  unfold splice
  rw [e2, e3, hz, List.append_assoc, List.take_append_of_le_length (by omega), List.take_of_length_le (by omega), List.drop_append, l1, List.drop_of_length_le (by omega), List.nil_append, Nat.add_sub_cancel_left, List.append_assoc, List.drop_append, hz, List.drop_of_length_le (by rw [hz];omega), List.nil_append, Nat.sub_self, List.drop_zero, List.append_assoc, List.append_assoc]
/-- what a search that strikes elements has done so far -/
structure KeptR (p : α → Bool) (l : List α) (j i : Nat) (ys : List α) : Prop where
  len : ys.length = l.length
  num : i = ((l.take j).filter fun x=>!p x).length
  low : ys.take i = (l.take j).filter fun x=>!p x
  high : ys.drop j = l.drop j
  lt : i < j
theorem KeptR.start {p : α → Bool} {l : List α} {k : Nat} (hk : k < l.length) (hb : (l.take k).all (fun x=>!p x) = true) (hx : p l[k] = true) : KeptR p l (k + 1) k l:=by
  have e : (l.take (k + 1)).filter (fun x=>!p x) = l.take k:=by
    rw [List.take_succ_eq_append_getElem hk, List.filter_append, List.filter_eq_self.2 (List.all_eq_true.1 hb)]
    simp [hx]
  exact ⟨rfl, by rw [e, List.length_take];omega, e.symm, rfl, Nat.lt_succ_self _⟩
theorem KeptR.at {p : α → Bool} {l : List α} {j i : Nat} {ys : List α} (h : KeptR p l j i ys) (hj : j < l.length) : ys[j]'(by rw [h.len];exact hj) = l[j]:=by
  have:=congrArg (fun m=>m[0]?) h.high
  simp only [List.getElem?_drop, Nat.add_zero] at this
  rw [List.getElem?_eq_getElem (by rw [h.len];exact hj), List.getElem?_eq_getElem hj] at this
  exact Option.some.inj this
theorem KeptR.keep {p : α → Bool} {l : List α} {j i : Nat} {ys : List α} (h : KeptR p l j i ys) (hj : j < l.length) (hx : p l[j] = false) : KeptR p l (j + 1) (i + 1) (ys.set i l[j]):=by
  have e : (l.take (j + 1)).filter (fun x=>!p x) = (l.take j).filter (fun x=>!p x) ++ [l[j]]:=by
    rw [List.take_succ_eq_append_getElem hj, List.filter_append]
    simp [hx]
  have hlt:=h.lt
  have hlen:=h.len
  refine ⟨by rw [List.length_set];exact hlen, by rw [e, List.length_append, ← h.num];rfl, ?_, ?_, by omega⟩
  · rw [e, ← h.low, List.take_succ_eq_append_getElem (by rw [List.length_set];omega), List.getElem_set_self]
    congr 1
    rw [List.take_set_of_le (Nat.le_refl _)]
  · rw [List.drop_set_of_lt (by omega)]
    have:=congrArg (List.drop 1) h.high
    rw [List.drop_drop, List.drop_drop] at this
    exact this
theorem KeptR.skip {p : α → Bool} {l : List α} {j i : Nat} {ys : List α} (h : KeptR p l j i ys) (hj : j < l.length) (hx : p l[j] = true) : KeptR p l (j + 1) i ys:=by
  have e : (l.take (j + 1)).filter (fun x=>!p x) = (l.take j).filter (fun x=>!p x):=by
    rw [List.take_succ_eq_append_getElem hj, List.filter_append]
    simp [hx]
  have hlt:=h.lt
  refine ⟨h.len, by rw [e];exact h.num, by rw [e];exact h.low, ?_, by omega⟩
  have:=congrArg (List.drop 1) h.high
  rw [List.drop_drop, List.drop_drop] at this
  exact this
theorem KeptR.done {p : α → Bool} {l : List α} {i : Nat} {ys : List α} (h : KeptR p l l.length i ys) : ys.take i = l.filter (fun x=>!p x) ∧ i = (l.filter fun x=>!p x).length:=by
  have h1:=h.low
  have h2:=h.num
  rw [List.take_length] at h1 h2
  exact ⟨h1, h2⟩
end
/-- a slice of its own, opened: its block's row -/
theorem own_open {α : Type} {enc : α → List Value} {z : Nat} (hz : ∀ x, (enc x).length = z) {B : Nat} {W : World} {e : TypeId} {n : Nat} {l : List α} {v : Value} (h : W.ownsRow B e z v n (encRow enc l)) (hn : n = l.length) (h0 : 0 < z) :
    (v = .slice none 0 0 ∧ l = []) ∨ ∃ g cap rest, v = .slice (some ⟨g, 0, none⟩) l.length cap ∧ B ≤ g ∧ W.heap[g]? = some (.cells (encRow enc l ++ rest).toArray e (0, 0)) ∧ l.length ≤ cap ∧ cap ≤ maxLen ∧ (encRow enc l ++ rest).length = cap * z:=by
  subst hn
  rcases h.2 with ⟨hv, h1⟩ | ⟨g, cap, cur, hv, hB, hg, h1, h2, h3, h4⟩
  · exact .inl ⟨hv, List.eq_nil_of_length_eq_zero h1⟩
  · refine .inr ⟨g, cap, cur.toList.drop (l.length * z), hv, hB, ?_, h1, h2, ?_⟩
    · rw [hg, ← h4, List.take_append_drop]
    · rw [← h4, List.take_append_drop];simpa using h3
theorem own_close {α : Type} {enc : α → List Value} {z : Nat} (hz : ∀ x, (enc x).length = z) {B : Nat} {W : World} {e : TypeId} {g cap : Nat} {l m : List α} {rest : List Value} (hB : B ≤ g) (hg : W.heap[g]? = some (.cells (encRow enc (l ++ m) ++ rest).toArray e (0, 0))) (h1 : l.length ≤ cap) (h2 : cap ≤ maxLen) (h3 : (encRow enc (l ++ m) ++ rest).length = cap * z) :
    W.ownsRow B e z (.slice (some ⟨g, 0, none⟩) l.length cap) l.length (encRow enc l):=by
  refine ⟨encRow_len hz l, .inr ⟨g, cap, _, rfl, hB, hg, h1, h2, by simpa using h3, ?_⟩⟩
  rw [encRow_append, List.append_assoc]
  rw [← encRow_len hz l]
  simp
theorem row_src {W : World} {g : Nat} {cur cs : List Value} {t : TypeId} (h : W.heap[g]? = some (.cells cur.toArray t (0, 0))) (o : Nat) (hc : ∀ j u, cs[j]? = some u → cur[o + j]? = some u) : ∀ j u, cs[j]? = some u → W.cell? ((⟨g, o, none⟩ : Addr).add j) = some u:=fun j u hj=>by
  rw [Addr.add_mid, cell_of_row W g (o + j) _ _ _ h, List.getElem?_toArray]
  exact hc j u hj
theorem grRow_enc (l : List Gr) : grRow l = encRow grCells l:=rfl
theorem grCells_len (x : Gr) : (grCells x).length = 4:=rfl
end Go.Proofs.Ytooaldglgkjjgaa
/- the library's copy of grants -/
namespace Go.Proofs.Ytooaldglgkjjgaa
open Go.RowKit
set_option maxRecDepth 20000
set_option linter.unusedSimpArgs false
set_option linter.unusedVariables false

set_option maxHeartbeats 4000000 in
theorem cloneG_any (l : List Gr) (v : Value) (R : List Rng) (w : World) (hv : SlRd v 4 l.length (grRow l) R) (hR : RdIn w R) (hl : l.length ≤ 200000) :
    Calls Try.prog 47 #[v] w fun e w'=>∃ u, e = .returned u ∧ Below w.heap.size w w' ∧ w'.ownsRow w.heap.size 29 4 u l.length (grRow l):=by
  have HV:=Lib.hid hv
  have HR:=Lib.hid hR
  have HL:=Lib.hid hl
  obtain ⟨a, cap, rfl, h1, h2, h3, h4, h5⟩:=hv
  have HUT : Hid (Try.prog.underlying 23 = some (.slice 29)):=Try.underlying23
  have hq : ∀ W, Sem.run Try.prog (binOp .eql 23 (.slice a l.length cap) (.slice none 0 0)) W = .ok (.bool a.isNone) W:=fun W=>Lib.run_eql_slice_nil W _ _ a l.length cap 0 0 HUT.out
  clear hR hl
  cases a with
  | none =>
    have hq2 : ∀ W, Sem.run Try.prog (binOp .eql 23 (.slice none l.length cap) (.slice none 0 0)) W = .ok (.bool true) W:=hq
    have hc:=h5 rfl
    have hn : l.length = 0:=by omega
    have HX : Hid (Below w.heap.size w w ∧ w.ownsRow w.heap.size 29 4 (.slice none 0 0) l.length (grRow l)):=⟨Below.refl _ _, by rw [hn];exact ⟨by rw [h1, hn], .inl ⟨rfl, rfl⟩⟩⟩
    clear h1 h2 h3 h4 h5 hq hc
    rw [hn] at hq2
    rw [hn]
    go_enter Try.func47, Try.ntmps47
    go_wp2_with fail
    go_ret
    refine ⟨_, rfl, ?_⟩
    have h:=HX.out
    rw [hn] at h
    exact h
  | some a =>
    have h0:=(Hp.start w).put 29 []
    have HS0 : Hid (Hp w [.sl (.slice (some ⟨w.heap.size, 0, none⟩) 0 0) 29 4 0 []] (w.alloc (.cells #[] 29))) :=
      (Hp.start w).addown ((Below.refl _ _).alloc (Nat.le_refl _) _) ⟨by simp, .inr ⟨w.heap.size, 0, #[], rfl, Nat.le_refl _, heap_alloc_last w _, Nat.le_refl _, Nat.zero_le _, by simp, by simp⟩⟩
    clear h0 h1 h2 h3 h4 h5
    go_enter Try.func47, Try.ntmps47
    go_wp2_with (first | ((with_reducible refine wpList_append_sl (HS0.out) (.tmp 5) (.tmp 6) 23 0 (v:=.slice (some ⟨w.heap.size, 0, none⟩) 0 0) (n:=0) (xs:=[]) ?_ (xv:=.slice (some a) l.length cap) (m:=l.length) (ys:=grRow l) (R:=R) ?_ ?_ HUT.out elem_gr ?_ ?_ ?_ ?_ ?_);(exact rfl);(exact HV.out);(exact HR.out.below HS0.out.old);(exact rfl);(exact rfl);(exact (one_grs _));(exact (by have:=HL.out;omega))))
    intro v1 w1 hs
    have hs2 : Hp w [.sl v1 29 4 (0 + l.length) ([] ++ grRow l)] w1:=hs
    clear hs HS0
    rw [Nat.zero_add, List.nil_append] at hs2
    have HA:=Lib.hid hs2
    clear hs2
    go_wp2_with fail
    go_ret
    exact ⟨_, rfl, HA.out.old, HA.out.own 0 rfl⟩
end Go.Proofs.Ytooaldglgkjjgaa
