/- texts of a claim, one after the other: what is left of a list, and the reference's way to hold, the reference's left, hold and able, the reference's hold and able, parts of a list of grants read; what is read, put together, the reference's settle, the reference's Mode, Waiting, place and Same, the reference's Cancel, Drop and Release, what reads, its spare cut off, is appended to: the whole is new -/
import Derived.Test.YtooaldglgkjjgaaWf1
import Derived.Deep.CutBlock
import Derived.ArgAppend
/- what is left of a list, and the reference's way to hold -/
namespace Go.Proofs.Ytooaldglgkjjgaa
set_option maxRecDepth 20000

def keepB (tx : Int) (one : Bool) (p s : Int) (x : Gr) : Bool:=!decide (x.tx = tx) || (one && !(decide (x.page = p) && decide (x.slot = s)))
def leftR (l : List Gr) (tx : Int) (one : Bool) (p s : Int) : List Gr:=l.filter (keepB tx one p s)
theorem left_all (l : List Gr) (tx p s : Int) : leftR l tx false p s = leftTx l tx:=by
  unfold leftR leftTx
  congr 1
  funext x
  unfold keepB
  cases decide (x.tx = tx) <;> rfl
theorem filter_take {l : List Gr} {f : Gr → Bool} {i : Nat} {x : Gr} (hx : l[i]? = some x) : (l.take (i + 1)).filter f = (l.take i).filter f ++ (if f x = true then [x] else []):=by
  have hlt:=(List.getElem?_eq_some_iff.1 hx).1
  rw [List.take_succ_eq_append_getElem hlt, (List.getElem?_eq_some_iff.1 hx).2, List.filter_append]
  congr 1
  cases h : f x <;> simp [h]
def otherB (g x : Gr) : Bool:=!decide (x.tx = g.tx) || !(decide (x.page = g.page) && decide (x.slot = g.slot))
/-- the reference's hold, from a place on -/
def holdGo (g : Gr) : Bool → List Gr → List Gr
  | d, []=>if d = true then [] else [g]
  | d, x :: l=>(if (!d && !ltB x g) = true then [g] else []) ++ ((if otherB g x = true then [x] else []) ++ holdGo g (d || !ltB x g) l)
theorem holdGo_at {g x : Gr} {l : List Gr} {i : Nat} (d : Bool) (hx : l[i]? = some x) : holdGo g d (l.drop i) = (if (!d && !ltB x g) = true then [g] else []) ++ ((if otherB g x = true then [x] else []) ++ holdGo g (d || !ltB x g) (l.drop (i + 1))):=by
  have hlt:=(List.getElem?_eq_some_iff.1 hx).1
  rw [List.drop_eq_getElem_cons hlt, (List.getElem?_eq_some_iff.1 hx).2]
  rfl
theorem holdGo_true (g : Gr) : ∀ l : List Gr, holdGo g true l = l.filter (otherB g)
  | []=>rfl
  | x :: l=>by
    show (if (!true && !ltB x g) = true then [g] else []) ++ ((if otherB g x = true then [x] else []) ++ holdGo g (true || !ltB x g) l) = _
    rw [List.filter_cons]
    simp only [Bool.not_true, Bool.false_and, Bool.false_eq_true, if_false, Bool.true_or, List.nil_append]
    rw [holdGo_true g l]
    split <;> rfl
theorem other_iff {g x : Gr} : otherB g x = true ↔ ¬ (x.tx = g.tx ∧ x.page = g.page ∧ x.slot = g.slot):=by
  unfold otherB
  simp only [Bool.or_eq_true, Bool.not_eq_true', decide_eq_false_iff_not, Bool.and_eq_false_iff]
  constructor
  · intro h;omega
  · intro h;omega
theorem other_lt {g x : Gr} (h : GLt x g ∨ GLt g x) : otherB g x = true:=other_iff.2 (by unfold GLt at h;omega)
theorem filter_other_above {g : Gr} {l : List Gr} (h : ∀ x ∈ l, GLt g x ∨ (x.tx = g.tx ∧ x.page = g.page ∧ x.slot = g.slot)) : l.filter (otherB g) = l.filter (fun x=>ltB g x):=by
  apply List.filter_congr
  intro x hx
  rw [Bool.eq_iff_iff, other_iff, ltB_iff]
  rcases h x hx with h | h
  · exact ⟨fun _=>h, fun _=>by unfold GLt at h;omega⟩
  · exact ⟨fun k=>absurd h k, fun k=>by unfold GLt at k;omega⟩
theorem holdGo_sorted {g : Gr} : ∀ {l : List Gr}, l.Pairwise GLt → holdGo g false l = holdR l g
  | [], _=>rfl
  | x :: l, h=>by
    rw [List.pairwise_cons] at h
    show (if (!false && !ltB x g) = true then [g] else []) ++ ((if otherB g x = true then [x] else []) ++ holdGo g (false || !ltB x g) l) = _
    cases hx : ltB x g with
    | true =>
      simp only [Bool.not_true, Bool.not_false, Bool.and_false, Bool.false_eq_true, if_false, Bool.or_false, List.nil_append]
      rw [if_pos (other_lt (.inl (ltB_iff.1 hx))), holdGo_sorted h.2]
      unfold holdR
      rw [List.filter_cons, if_pos hx, List.filter_cons, if_neg (by intro k;exact (ltB_iff.1 hx).asymm (ltB_iff.1 k))]
      rfl
    | false =>
      simp only [Bool.not_false, Bool.and_self, if_true, Bool.or_true, List.cons_append, List.nil_append]
      have hnx : ¬ GLt x g:=fun k=>by rw [ltB_iff.2 k] at hx;cases hx
      have hall : ∀ y ∈ x :: l, GLt g y ∨ (y.tx = g.tx ∧ y.page = g.page ∧ y.slot = g.slot):=by
        intro y hy
        rcases List.mem_cons.1 hy with rfl | hy
        · rcases glt_tri y g with k | k | k
          · exact absurd k hnx
          · exact .inl k
          · exact .inr k
        · have hxy:=h.1 y hy
          refine .inl ?_
          unfold GLt at *
          omega
      have e0 : (x :: l).filter (fun y=>ltB y g) = []:=List.filter_eq_nil_iff.2 (fun y hy k=>by
        have:=ltB_iff.1 k
        rcases hall y hy with h2 | h2
        · exact h2.asymm this
        · unfold GLt at this;omega)
      rw [holdGo_true]
      unfold holdR
      rw [e0, ← filter_other_above hall, List.filter_cons, List.nil_append]
      cases otherB g x <;> rfl
end Go.Proofs.Ytooaldglgkjjgaa
/- the reference's left, hold and able -/
namespace Go.Proofs.Ytooaldglgkjjgaa
open Go.RowKit
open Go.Act renaming put → z0
open List renaming setIfInBounds_toArray → z1, set_cons_zero → z2, set_cons_succ → z3
set_option maxRecDepth 20000
set_option linter.unusedSimpArgs false
set_option linter.unusedVariables false

set_option maxHeartbeats 8000000 in
theorem rleft_any {v : Value} {l : List Gr} {R : List Rng} (tx : Int) (one : Bool) (k : Lok) (w : World) (h : GrRd v l R) (hR : RdIn w R) (hg : ∀ x ∈ l, GoodGr x) (hn : l.length ≤ 100000) (hk : GoodLk k) :
  Calls Try.prog 53 #[v, .int .i64 tx, .bool one, .agg (lkCells k).toArray] w (GrPost w (leftR l tx one k.page k.slot)):=by
 obtain ⟨a, cap, rfl, hnc, hcm, hg0⟩:=SlRd.open h hR
 have HGe:=Lib.hid hg
 have HN:=Lib.hid hn
 have HK:=Lib.hid hk
 have HUX:=Lib.hid under_grs
 clear h hR hg hk
 have h1:=(Hp.start w).put 27 (lkCells k)
 simp only [List.nil_append] at h1
 have HS0 : Hid (Hp w [.ob w.heap.size 27 (lkCells k)] (w.alloc (.cells (lkCells k).toArray 27))):=h1
 clear h1
 obtain ⟨fsHUG, huHUG⟩:=under_gr
 have HUG:=Lib.hid huHUG
 clear huHUG
 obtain ⟨fsHUK, huHUK⟩:=under_lk
 have HUK:=Lib.hid huHUK
 clear huHUK
 obtain ⟨fsHUT, huHUT⟩:=under_tb
 have HUT:=Lib.hid huHUT
 clear huHUT
 have hnm : (l.length : Int) ≤ 100000:=by omega
 go_enter Try.func53, Try.ntmps53
 go_upto_region 1 with (fail)
 generalize (w.alloc (.cells (lkCells k).toArray 27)) = w1 at *
 go_wp2_with fail
 go_loopw [9, 10] (fun ov iv wr=>∃ i : Nat, i ≤ l.length ∧ iv = .int .i64 i ∧ Hp w [.ob w.heap.size 27 (lkCells k), .sl ov 29 4 ((l.take i).filter (keepB tx one k.page k.slot)).length (grRow ((l.take i).filter (keepB tx one k.page k.slot)))] wr) (fun _ iv _=>l.length - (intOf iv).toNat)
 case atStart=>exact ⟨0, by omega, rfl, HS0.out.nil 29 4⟩
 case round =>
  clear HS0
  obtain ⟨i, hi, rfl, hs⟩:=hrel
  obtain ⟨acc, hacc⟩ : ∃ acc, (l.take i).filter (keepB tx one k.page k.slot) = acc:=⟨_, rfl⟩
  rw [hacc] at hs
  have HA:=Lib.hid hacc
  have HAl : Hid (acc.length ≤ 100000):=Lib.hid (by rw [← hacc];exact Nat.le_trans (List.length_filter_le _ _) (by rw [List.length_take];omega))
  have HY:=Lib.hid hs
  clear hs hacc
  by_cases hlt : i < l.length
  ·obtain ⟨g0, off, rfl, hr⟩:=hg0.out (by omega)
   have HRg:=Lib.hid hr
   obtain ⟨x, hx⟩ : ∃ x, l[i]? = some x:=⟨_, List.getElem?_eq_getElem hlt⟩
   have HXi:=Lib.hid hx
   have HGx:=Lib.hid (HGe.out x (List.mem_of_getElem? hx))
   have hii : (i : Int) < (l.length : Int):=by omega
   have hi0 : (0 : Int) ≤ (i : Int):=by omega
   have HLt:=Lib.hid hlt
   have hqe : ∀ W, Sem.run Try.prog (binOp .neq 27 (.agg #[.int .i64 x.page, .int .i64 x.slot]) (.agg #[.int .i64 k.page, .int .i64 k.slot])) W = .ok (.bool (!sameV x.lock k)) W:=fun W=>run_neq (equal_lk x.lock k HGx.out.lock HK.out) W
   have hss : sameV x.lock k = (decide (x.page = k.page) && decide (x.slot = k.slot)):=lock_same x k
   have HF : Hid ((l.take (i + 1)).filter (keepB tx one k.page k.slot) = acc ++ (if keepB tx one k.page k.slot x = true then [x] else [])):=Lib.hid (by rw [← HA.out];exact filter_take hx)
   have cx0 : wr.cell? ⟨g0, off + i * 4, none⟩ = some (.int .i64 x.tx):=HRg.out wr HY.out.old (i * 4 + 0) _ (grRow_at l i x HXi.out 0 _ rfl)
   have cx1 : wr.cell? ⟨g0, off + i * 4 + 1, none⟩ = some (.int .i64 x.page):=HRg.out wr HY.out.old (i * 4 + 1) _ (grRow_at l i x HXi.out 1 _ rfl)
   have cx2 : wr.cell? ⟨g0, off + i * 4 + 2, none⟩ = some (.int .i64 x.slot):=HRg.out wr HY.out.old (i * 4 + 2) _ (grRow_at l i x HXi.out 2 _ rfl)
   have k0 : wr.cell? ⟨w.heap.size, 0, none⟩ = some (.int .i64 k.page):=HY.out.at 0 rfl 0 rfl
   have k1 : wr.cell? ⟨w.heap.size, 1, none⟩ = some (.int .i64 k.slot):=HY.out.at 0 rfl 1 rfl
   clear hr hg0 hx HA hi hlt
   by_cases htx : x.tx = tx
   ·obtain ⟨e1, n1⟩:=eq_facts htx
    cases one
    ·have HKp : Hid (keepB tx false k.page k.slot x = false):=Lib.hid (by unfold keepB;rw [decide_eq_true htx];rfl)
     clear htx hss
     go_wp2_with fail
     go_quiet (fail)
     have HY2:=Lib.hid (HY.out.drewN nq)
     clear HY cx0 cx1 cx2 k0 k1 hqe
     generalize wr.drewN nq = w2 at *
     go_wp2_with fail
     go_roundw
     case rel =>
      refine ⟨i + 1, HLt.out, by go_num, ?_⟩
      rw [HF.out, HKp.out, if_neg (by decide), List.append_nil]
      exact HY2.out
     case measure=>simp [intOf];try (have:=HLt.out;omega)
    ·cases hsv : sameV x.lock k
     ·have HKp : Hid (keepB tx true k.page k.slot x = true):=Lib.hid (by unfold keepB;rw [← hss, hsv];simp)
      rw [hsv] at hqe
      clear htx hss hsv
      go_wp2_with fail
      go_quiet (fail)
      have HY2:=Lib.hid (HY.out.drewN nq)
      clear HY cx0 cx1 cx2 k0 k1 hqe
      generalize wr.drewN nq = w2 at *
      go_wp2_with (first | ((with_reducible refine wpList_load_at 29 (.tmp 39) g0 ((off + i * 4)) (grCells x) HUG.out ?_ ?_ ?_ ?_ ?_);(exact rfl);(exact (elem_rng (HRg.out _ (HY2.out).old) HXi.out));(exact rfl);(exact info_gr);simp only [z0, z1, z2, z3]) | ((with_reducible refine wpList_build_obs 23 1 elem_gr HUX.out [grCells x] ?_ ?_ ?_ ?_ ?_ ?_);(exact (List.forall_mem_cons.2 ⟨rfl, (fun _ h=>absurd h List.not_mem_nil)⟩));(exact Nat.succ_pos _);(simp only [List.length_cons, List.length_nil];omega);(exact rfl);(simp only [List.map_toArray, List.map_cons, List.map_nil, List.zipIdx_cons, List.zipIdx_nil];exact rfl);simp only [z0, z1, z2, z3]) | ((with_reducible refine wpList_append_hp ((HY2.out).put 29 (([grCells x] : List (List Value)).flatMap id)) (.tmp 36) (.tmp 41) 23 1 (v:=u9) (e:=29) (z:=4) (n:=acc.length) (xs:=grRow acc) ?_ 2 (b:=(w2.heap.size)) (t':=29) (ys:=([grCells x] : List (List Value)).flatMap id) ?_ HUX.out elem_gr 1 1 ?_ ?_ ?_ ?_ ?_ ?_);(exact rfl);(exact rfl);(exact rfl);(exact rfl);(exact rfl);(exact (one_gr _));(exact (by have:=HAl.out;omega))))
      intro v31 w31 hs hnil
      have HS32:=Lib.hid hs
      clear hs
      clear HY2
      generalize w2.heap.size = B1 at *
      have HS33 : Hid (Hp w [.ob (w.heap.size) 27 (lkCells k), .sl v31 29 4 (acc.length + 1) ((grRow acc) ++ (([grCells x] : List (List Value)).flatMap id))] w31):=HS32.out.pull [0, 1] rfl (pull_nd HS32.out.nd [0, 1] rfl (by decide))
      clear HS32
      have HZ : Hid (Hp w [.ob (w.heap.size) 27 (lkCells k), .sl v31 29 4 ((acc ++ [x]).length) (grRow (acc ++ [x]))] w31):=hp_snoc (A:=[.ob (w.heap.size) 27 (lkCells k)]) HS33.out
      clear HS33
      go_wp2_with fail
      go_roundw
      case rel =>
       refine ⟨i + 1, HLt.out, by go_num, ?_⟩
       rw [HF.out, HKp.out, if_pos rfl]
       exact HZ.out
      case measure=>simp [intOf];try (have:=HLt.out;omega)
     ·have HKp : Hid (keepB tx true k.page k.slot x = false):=Lib.hid (by unfold keepB;rw [← hss, hsv, decide_eq_true htx];rfl)
      rw [hsv] at hqe
      clear htx hss hsv
      go_wp2_with fail
      go_quiet (fail)
      have HY2:=Lib.hid (HY.out.drewN nq)
      clear HY cx0 cx1 cx2 k0 k1 hqe
      generalize wr.drewN nq = w2 at *
      go_wp2_with fail
      go_roundw
      case rel =>
       refine ⟨i + 1, HLt.out, by go_num, ?_⟩
       rw [HF.out, HKp.out, if_neg (by decide), List.append_nil]
       exact HY2.out
      case measure=>simp [intOf];try (have:=HLt.out;omega)
   ·obtain ⟨e1, n1⟩:=ne_facts htx
    have HKp : Hid (keepB tx one k.page k.slot x = true):=Lib.hid (by unfold keepB;rw [decide_eq_false htx];rfl)
    clear htx hss
    go_wp2_with fail
    go_quiet (fail)
    have HY2:=Lib.hid (HY.out.drewN nq)
    clear HY cx0 cx1 cx2 k0 k1 hqe
    generalize wr.drewN nq = w2 at *
    go_wp2_with (first | ((with_reducible refine wpList_load_at 29 (.tmp 39) g0 ((off + i * 4)) (grCells x) HUG.out ?_ ?_ ?_ ?_ ?_);(exact rfl);(exact (elem_rng (HRg.out _ (HY2.out).old) HXi.out));(exact rfl);(exact info_gr);simp only [z0, z1, z2, z3]) | ((with_reducible refine wpList_build_obs 23 1 elem_gr HUX.out [grCells x] ?_ ?_ ?_ ?_ ?_ ?_);(exact (List.forall_mem_cons.2 ⟨rfl, (fun _ h=>absurd h List.not_mem_nil)⟩));(exact Nat.succ_pos _);(simp only [List.length_cons, List.length_nil];omega);(exact rfl);(simp only [List.map_toArray, List.map_cons, List.map_nil, List.zipIdx_cons, List.zipIdx_nil];exact rfl);simp only [z0, z1, z2, z3]) | ((with_reducible refine wpList_append_hp ((HY2.out).put 29 (([grCells x] : List (List Value)).flatMap id)) (.tmp 36) (.tmp 41) 23 1 (v:=u9) (e:=29) (z:=4) (n:=acc.length) (xs:=grRow acc) ?_ 2 (b:=(w2.heap.size)) (t':=29) (ys:=([grCells x] : List (List Value)).flatMap id) ?_ HUX.out elem_gr 1 1 ?_ ?_ ?_ ?_ ?_ ?_);(exact rfl);(exact rfl);(exact rfl);(exact rfl);(exact rfl);(exact (one_gr _));(exact (by have:=HAl.out;omega))))
    intro v31 w31 hs hnil
    have HS32:=Lib.hid hs
    clear hs
    clear HY2
    generalize w2.heap.size = B1 at *
    have HS33 : Hid (Hp w [.ob (w.heap.size) 27 (lkCells k), .sl v31 29 4 (acc.length + 1) ((grRow acc) ++ (([grCells x] : List (List Value)).flatMap id))] w31):=HS32.out.pull [0, 1] rfl (pull_nd HS32.out.nd [0, 1] rfl (by decide))
    clear HS32
    have HZ : Hid (Hp w [.ob (w.heap.size) 27 (lkCells k), .sl v31 29 4 ((acc ++ [x]).length) (grRow (acc ++ [x]))] w31):=hp_snoc (A:=[.ob (w.heap.size) 27 (lkCells k)]) HS33.out
    clear HS33
    go_wp2_with fail
    go_roundw
    case rel =>
     refine ⟨i + 1, HLt.out, by go_num, ?_⟩
     rw [HF.out, HKp.out, if_pos rfl]
     exact HZ.out
    case measure=>simp [intOf];try (have:=HLt.out;omega)
  ·obtain rfl : i = l.length:=by omega
   have HE : Hid (leftR l tx one k.page k.slot = acc):=Lib.hid (by unfold leftR;rw [← HA.out, List.take_length])
   clear hlt hi HA
   go_wp2_with fail
   go_ret
   rw [HE.out]
   exact gr_hand (HY.out.own 1 rfl) HY.out.old
end Go.Proofs.Ytooaldglgkjjgaa
/- the reference's hold and able -/
namespace Go.Proofs.Ytooaldglgkjjgaa
open Go.RowKit
open Go.Act renaming put → z0
open List renaming setIfInBounds_toArray → z1, set_cons_zero → z2, set_cons_succ → z3
set_option maxRecDepth 20000
set_option linter.unusedSimpArgs false
set_option linter.unusedVariables false

theorem able_no_h {h k : List Gr} {g z : Gr} {q : Nat} (hz : h[q]? = some z) (hc : confB z g = true) : ableB h k g = false:=ableB_false.2 fun ha=>ha.1 z (List.mem_of_getElem? hz) (confB_iff.1 hc)
theorem able_no_k {h l : List Gr} {g z : Gr} {q i : Nat} (hq : q < i) (hz : l[q]? = some z) (hc : confB z g = true) : ableB h (l.take i) g = false:=ableB_false.2 fun ha=>ha.2 z (List.mem_iff_getElem?.2 ⟨q, by rw [List.getElem?_take_of_lt hq];exact hz⟩) (confB_iff.1 hc)
theorem able_yes {h l : List Gr} {g : Gr} {i : Nat} (h1 : ∀ q, q < h.length → ∀ z, h[q]? = some z → confB z g = false) (h2 : ∀ q, q < i → ∀ z, l[q]? = some z → confB z g = false) : ableB h (l.take i) g = true:=by
 refine ableB_iff.2 ⟨fun x hx hc=>?_, fun x hx hc=>?_⟩
 ·obtain ⟨q, hq, rfl⟩:=List.getElem_of_mem hx
  have:=h1 q hq _ (List.getElem?_eq_getElem hq)
  rw [confB_iff.2 hc] at this;cases this
 ·obtain ⟨q, hq, hqx⟩:=List.getElem_of_mem hx
  rw [List.length_take] at hq
  have:=h2 q (by omega) x (by rw [← hqx, List.getElem_take, List.getElem?_eq_getElem])
  rw [confB_iff.2 hc] at this;cases this
abbrev qRfLk5_0 : Oper:={ dst:=some 14, op:=Op.move (Operand.tmp 6), type:=4, pos := "ref.go:91", after:=#[], guard:=none }
abbrev qRfLk5_1 : Oper:={ dst:=some 15, op:=Op.unOp UnOp.not 4 (Operand.tmp 14), type:=4, pos := "ref.go:91", after:=#[{ on:=0, ground:=Ground.data }], guard:=none }
abbrev qRfLk5_2 : Oper:={ dst:=some 16, op:=Op.move (Operand.tmp 15), type:=4, pos := "ref.go:91", after:=#[{ on:=1, ground:=Ground.data }], guard:=none }
abbrev qRfLk5_3 : Oper:={ dst:=some 17, op:=Op.move (Operand.tmp 0), type:=23, pos := "ref.go:91", after:=#[{ on:=2, ground:=Ground.guard }], guard:=some (2, true) }
abbrev qRfLk5_4 : Oper:={ dst:=some 18, op:=Op.move (Operand.tmp 7), type:=3, pos := "ref.go:91", after:=#[{ on:=2, ground:=Ground.guard }], guard:=some (2, true) }
abbrev qRfLk5_5 : Oper:={ dst:=some 19, op:=Op.indexAddr 23 (Operand.tmp 17) (Operand.tmp 18), type:=0, pos := "ref.go:91", after:=#[{ on:=3, ground:=Ground.data }, { on:=4, ground:=Ground.data }, { on:=2, ground:=Ground.guard }], guard:=some (2, true) }
abbrev qRfLk5_6 : Oper:={ dst:=some 20, op:=Op.load 29 (Operand.tmp 19), type:=29, pos := "ref.go:91", after:=#[{ on:=5, ground:=Ground.data }, { on:=2, ground:=Ground.guard }], guard:=some (2, true) }
abbrev qRfLk5_7 : Oper:={ dst:=some 21, op:=Op.load 29 (Operand.tmp 3), type:=29, pos := "ref.go:91", after:=#[{ on:=2, ground:=Ground.guard }], guard:=some (2, true) }
abbrev qRfLk5_8 : Oper:={ dst:=some 22, op:=Op.call { callee:=Callee.value (Operand.func 50), args:=#[Operand.tmp 20, Operand.tmp 21], argTypes:=#[29, 29] }, type:=4, pos := "ref.go:91", after:=#[{ on:=6, ground:=Ground.data }, { on:=7, ground:=Ground.data }, { on:=2, ground:=Ground.chain }, { on:=2, ground:=Ground.guard }], guard:=some (2, true) }
abbrev qRfLk5_9 : Oper:={ dst:=some 23, op:=Op.unOp UnOp.not 4 (Operand.tmp 22), type:=4, pos := "ref.go:91", after:=#[{ on:=8, ground:=Ground.data }, { on:=2, ground:=Ground.guard }], guard:=some (2, true) }
abbrev qRfLk5_10 : Oper:={ dst:=some 24, op:=Op.pick (Operand.tmp 16) (Operand.tmp 23) (Operand.const (Value.bool false)), type:=4, pos := "ref.go:91", after:=#[{ on:=2, ground:=Ground.data }, { on:=9, ground:=Ground.data }], guard:=none }
abbrev qRfLk5_11 : Oper:={ dst:=some 14, op:=Op.fieldAddr 25 (Operand.tmp 2) 0, type:=0, pos := "ref.go:108", after:=#[], guard:=none }
abbrev qRfLk5_12 : Oper:={ dst:=some 15, op:=Op.load 23 (Operand.tmp 14), type:=23, pos := "ref.go:108", after:=#[{ on:=0, ground:=Ground.data }], guard:=none }
abbrev qRfLk5_13 : Oper:={ dst:=some 16, op:=Op.move (Operand.tmp 5), type:=3, pos := "ref.go:108", after:=#[], guard:=none }
abbrev qRfLk5_14 : Oper:={ dst:=some 17, op:=Op.indexAddr 23 (Operand.tmp 15) (Operand.tmp 16), type:=0, pos := "ref.go:108", after:=#[{ on:=1, ground:=Ground.data }, { on:=2, ground:=Ground.data }], guard:=none }
abbrev qRfLk5_15 : Oper:={ dst:=some 18, op:=Op.load 29 (Operand.tmp 17), type:=29, pos := "ref.go:108", after:=#[{ on:=3, ground:=Ground.data }], guard:=none }
abbrev qRfLk5_16 : Oper:={ dst:=some 19, op:=Op.fieldAddr 25 (Operand.tmp 2) 1, type:=0, pos := "ref.go:108", after:=#[], guard:=none }
abbrev qRfLk5_17 : Oper:={ dst:=some 20, op:=Op.load 23 (Operand.tmp 19), type:=23, pos := "ref.go:108", after:=#[{ on:=5, ground:=Ground.data }], guard:=none }
abbrev qRfLk5_18 : Oper:={ dst:=some 21, op:=Op.move (Operand.tmp 1), type:=3, pos := "ref.go:108", after:=#[], guard:=none }
abbrev qRfLk5_19 : Oper:={ dst:=some 22, op:=Op.indexAddr 23 (Operand.tmp 20) (Operand.tmp 21), type:=0, pos := "ref.go:108", after:=#[{ on:=6, ground:=Ground.data }, { on:=7, ground:=Ground.data }], guard:=none }
abbrev qRfLk5_20 : Oper:={ dst:=some 23, op:=Op.load 29 (Operand.tmp 22), type:=29, pos := "ref.go:108", after:=#[{ on:=8, ground:=Ground.data }], guard:=none }
abbrev qRfLk5_21 : Oper:={ dst:=some 24, op:=Op.call { callee:=Callee.value (Operand.func 34), args:=#[Operand.tmp 18, Operand.tmp 23], argTypes:=#[29, 29] }, type:=4, pos := "ref.go:108", after:=#[{ on:=4, ground:=Ground.data }, { on:=9, ground:=Ground.data }], guard:=none }
abbrev qRfLk5_22 : Oper:={ dst:=some 30, op:=Op.fieldAddr 25 (Operand.tmp 2) 1, type:=0, pos := "ref.go:113", after:=#[], guard:=none }
abbrev qRfLk5_23 : Oper:={ dst:=some 31, op:=Op.load 23 (Operand.tmp 30), type:=23, pos := "ref.go:113", after:=#[{ on:=0, ground:=Ground.data }], guard:=none }
abbrev qRfLk5_24 : Oper:={ dst:=some 32, op:=Op.move (Operand.tmp 6), type:=3, pos := "ref.go:113", after:=#[], guard:=none }
abbrev qRfLk5_25 : Oper:={ dst:=some 33, op:=Op.indexAddr 23 (Operand.tmp 31) (Operand.tmp 32), type:=0, pos := "ref.go:113", after:=#[{ on:=1, ground:=Ground.data }, { on:=2, ground:=Ground.data }], guard:=none }
abbrev qRfLk5_26 : Oper:={ dst:=some 34, op:=Op.load 29 (Operand.tmp 33), type:=29, pos := "ref.go:113", after:=#[{ on:=3, ground:=Ground.data }], guard:=none }
abbrev qRfLk5_27 : Oper:={ dst:=some 35, op:=Op.fieldAddr 25 (Operand.tmp 2) 1, type:=0, pos := "ref.go:113", after:=#[], guard:=none }
abbrev qRfLk5_28 : Oper:={ dst:=some 36, op:=Op.load 23 (Operand.tmp 35), type:=23, pos := "ref.go:113", after:=#[{ on:=5, ground:=Ground.data }], guard:=none }
abbrev qRfLk5_29 : Oper:={ dst:=some 37, op:=Op.move (Operand.tmp 1), type:=3, pos := "ref.go:113", after:=#[], guard:=none }
abbrev qRfLk5_30 : Oper:={ dst:=some 38, op:=Op.indexAddr 23 (Operand.tmp 36) (Operand.tmp 37), type:=0, pos := "ref.go:113", after:=#[{ on:=6, ground:=Ground.data }, { on:=7, ground:=Ground.data }], guard:=none }
abbrev qRfLk5_31 : Oper:={ dst:=some 39, op:=Op.load 29 (Operand.tmp 38), type:=29, pos := "ref.go:113", after:=#[{ on:=8, ground:=Ground.data }], guard:=none }
abbrev qRfLk5_32 : Oper:={ dst:=some 40, op:=Op.call { callee:=Callee.value (Operand.func 34), args:=#[Operand.tmp 34, Operand.tmp 39], argTypes:=#[29, 29] }, type:=4, pos := "ref.go:113", after:=#[{ on:=4, ground:=Ground.data }, { on:=9, ground:=Ground.data }], guard:=none }
set_option maxHeartbeats 8000000 in
theorem rhold_any {v : Value} {l : List Gr} {R : List Rng} (g : Gr) (w : World) (h : GrRd v l R) (hR : RdIn w R) (hg : ∀ x ∈ l, GoodGr x) (hn : l.length ≤ 100000) (hk : GoodGr g) (hup : l.Pairwise GLt) :
  Calls Try.prog 76 #[v, .agg (grCells g).toArray] w (GrPost w (holdR l g)):=by
 rw [← holdGo_sorted hup]
 clear hup
 obtain ⟨a, cap, rfl, hnc, hcm, hg0⟩:=SlRd.open h hR
 have HGe:=Lib.hid hg
 have HN:=Lib.hid hn
 have HK:=Lib.hid hk
 have HUX:=Lib.hid under_grs
 clear h hR hg hk
 have h1:=(Hp.start w).put 29 (grCells g)
 simp only [List.nil_append] at h1
 have HS0 : Hid (Hp w [.ob w.heap.size 29 (grCells g)] (w.alloc (.cells (grCells g).toArray 29))):=h1
 clear h1
 obtain ⟨fsHUG, huHUG⟩:=under_gr
 have HUG:=Lib.hid huHUG
 clear huHUG
 obtain ⟨fsHUK, huHUK⟩:=under_lk
 have HUK:=Lib.hid huHUK
 clear huHUK
 obtain ⟨fsHUT, huHUT⟩:=under_tb
 have HUT:=Lib.hid huHUT
 clear huHUT
 have hnm : (l.length : Int) ≤ 100000:=by omega
 go_enter Try.func76, Try.ntmps76
 go_upto_region 1 with (fail)
 generalize (w.alloc (.cells (grCells g).toArray 29)) = w1 at *
 go_wp2_with fail
 go_loopw [5, 6, 7] (fun ov dv iv wr=>∃ (i : Nat) (d : Bool) (acc : List Gr), i ≤ l.length ∧ iv = .int .i64 i ∧ dv = .bool d ∧ acc.length ≤ 2 * i ∧ acc ++ holdGo g d (l.drop i) = holdGo g false l ∧ Hp w [.ob w.heap.size 29 (grCells g), .sl ov 29 4 acc.length (grRow acc)] wr) (fun _ _ iv _=>l.length - (intOf iv).toNat)
 case atStart=>exact ⟨0, false, [], by omega, rfl, rfl, Nat.le_refl _, rfl, HS0.out.nil 29 4⟩
 case round =>
  clear HS0
  obtain ⟨i, d, acc, hi, rfl, rfl, hal, hf, hs⟩:=hrel
  have HY:=Lib.hid hs
  have HAl : Hid (acc.length ≤ 2 * i ∧ i ≤ 100000):=Lib.hid (by omega)
  have HFT:=Lib.hid hf
  clear hs hal hf
  by_cases hlt : i < l.length
  ·obtain ⟨g0, off, rfl, hr⟩:=hg0.out (by omega)
   have HRg:=Lib.hid hr
   obtain ⟨x, hx⟩ : ∃ x, l[i]? = some x:=⟨_, List.getElem?_eq_getElem hlt⟩
   have HXi:=Lib.hid hx
   have HGx:=Lib.hid (HGe.out x (List.mem_of_getElem? hx))
   have hii : (i : Int) < (l.length : Int):=by omega
   have hi0 : (0 : Int) ≤ (i : Int):=by omega
   have HLt:=Lib.hid hlt
   have hqe : ∀ W, Sem.run Try.prog (binOp .neq 27 (.agg #[.int .i64 x.page, .int .i64 x.slot]) (.agg #[.int .i64 g.page, .int .i64 g.slot])) W = .ok (.bool (!sameV x.lock g.lock)) W:=fun W=>run_neq (equal_lk x.lock g.lock HGx.out.lock HK.out.lock) W
   have hss : sameV x.lock g.lock = (decide (x.page = g.page) && decide (x.slot = g.slot)):=lock_same x g.lock
   have HF : Hid (acc ++ ((if (!d && !ltB x g) = true then [g] else []) ++ ((if otherB g x = true then [x] else []) ++ holdGo g (d || !ltB x g) (l.drop (i + 1)))) = holdGo g false l):=Lib.hid (by rw [← holdGo_at d hx];exact HFT.out)
   have HLs : Hid (∀ W, Calls Try.prog 50 #[.agg (grCells x).toArray, .agg (grCells g).toArray] W fun e w'=>e = .returned (.bool (ltB x g)) ∧ Below W.heap.size W w'):=fun W=>rless_any x g W
   clear hr hg0 hx hi hlt HFT
   generalize ltB x g = lb at *
   cases d
   case true =>
    have HF2 : Hid (acc ++ ((if otherB g x = true then [x] else []) ++ holdGo g true (l.drop (i + 1))) = holdGo g false l):=Lib.hid (by have:=HF.out;simpa using this)
    have HL2 : Hid (acc.length ≤ 2 * i + 1):=Lib.hid (by have:=HAl.out;omega)
    clear HF HLs
    go_wp2_with fail
    go_quiet (fail)
    have HZ0:=Lib.hid (HY.out.drewN nq)
    clear HY
    generalize wr.drewN nq = w2 at *
    have cx0 : w2.cell? ⟨g0, off + i * 4, none⟩ = some (.int .i64 x.tx):=HRg.out w2 HZ0.out.old (i * 4 + 0) _ (grRow_at l i x HXi.out 0 _ rfl)
    have cx1 : w2.cell? ⟨g0, off + i * 4 + 1, none⟩ = some (.int .i64 x.page):=HRg.out w2 HZ0.out.old (i * 4 + 1) _ (grRow_at l i x HXi.out 1 _ rfl)
    have cx2 : w2.cell? ⟨g0, off + i * 4 + 2, none⟩ = some (.int .i64 x.slot):=HRg.out w2 HZ0.out.old (i * 4 + 2) _ (grRow_at l i x HXi.out 2 _ rfl)
    have k0 : w2.cell? ⟨w.heap.size, 0, none⟩ = some (.int .i64 g.tx):=HZ0.out.at 0 rfl 0 rfl
    have k1 : w2.cell? ⟨w.heap.size, 1, none⟩ = some (.int .i64 g.page):=HZ0.out.at 0 rfl 1 rfl
    have k2 : w2.cell? ⟨w.heap.size, 2, none⟩ = some (.int .i64 g.slot):=HZ0.out.at 0 rfl 2 rfl
    by_cases htx : x.tx = g.tx
    ·obtain ⟨e1, n1⟩:=eq_facts htx
     cases hsv : sameV x.lock g.lock
     ·have HKp : Hid (otherB g x = true):=Lib.hid (by unfold otherB;rw [← hss, hsv];simp)
      rw [hsv] at hqe
      clear htx hss hsv
      go_wp2_with fail
      go_quiet (fail)
      have HY2:=Lib.hid (HZ0.out.drewN nq)
      clear HZ0 cx0 cx1 cx2 k0 k1 k2 hqe
      generalize w2.drewN nq = w40 at *
      go_wp2_with (first | ((with_reducible refine wpList_load_at 29 (.tmp 50) g0 ((off + i * 4)) (grCells x) HUG.out ?_ ?_ ?_ ?_ ?_);(exact rfl);(exact (elem_rng (HRg.out _ (HY2.out).old) HXi.out));(exact rfl);(exact info_gr);simp only [z0, z1, z2, z3]) | ((with_reducible refine wpList_build_obs 23 1 elem_gr HUX.out [grCells x] ?_ ?_ ?_ ?_ ?_ ?_);(exact (List.forall_mem_cons.2 ⟨rfl, (fun _ h=>absurd h List.not_mem_nil)⟩));(exact Nat.succ_pos _);(simp only [List.length_cons, List.length_nil];omega);(exact rfl);(simp only [List.map_toArray, List.map_cons, List.map_nil, List.zipIdx_cons, List.zipIdx_nil];exact rfl);simp only [z0, z1, z2, z3]) | ((with_reducible refine wpList_append_hp ((HY2.out).put 29 (([grCells x] : List (List Value)).flatMap id)) (.tmp 47) (.tmp 52) 23 1 (v:=u5) (e:=29) (z:=4) (n:=acc.length) (xs:=grRow acc) ?_ 2 (b:=(w40.heap.size)) (t':=29) (ys:=([grCells x] : List (List Value)).flatMap id) ?_ HUX.out elem_gr 1 1 ?_ ?_ ?_ ?_ ?_ ?_);(exact rfl);(exact rfl);(exact rfl);(exact rfl);(exact rfl);(exact (one_gr _));(exact (by have:=HL2.out;have:=HAl.out;omega))))
      intro v51 w51 hs hnil
      have HS52:=Lib.hid hs
      clear hs
      clear HY2
      generalize w40.heap.size = B1 at *
      have HS53 : Hid (Hp w [.ob (w.heap.size) 29 (grCells g), .sl v51 29 4 (acc.length + 1) ((grRow acc) ++ (([grCells x] : List (List Value)).flatMap id))] w51):=HS52.out.pull [0, 1] rfl (pull_nd HS52.out.nd [0, 1] rfl (by decide))
      clear HS52
      have HZ : Hid (Hp w [.ob (w.heap.size) 29 (grCells g), .sl v51 29 4 ((acc ++ [x]).length) (grRow (acc ++ [x]))] w51):=hp_snoc (A:=[.ob (w.heap.size) 29 (grCells g)]) HS53.out
      clear HS53
      go_wp2_with fail
      go_roundw
      case rel =>
       refine ⟨i + 1, true, acc ++ [x], HLt.out, by go_num, rfl, by have:=HL2.out;rw [List.length_append, List.length_singleton];omega, ?_, HZ.out⟩
       have:=HF2.out
       rw [HKp.out, if_pos rfl, ← List.append_assoc] at this
       exact this
      case measure=>simp [intOf];try (have:=HLt.out;omega)
     ·have HKp : Hid (otherB g x = false):=Lib.hid (by unfold otherB;rw [← hss, hsv, decide_eq_true htx];rfl)
      rw [hsv] at hqe
      clear htx hss hsv
      go_wp2_with fail
      go_quiet (fail)
      have HY2:=Lib.hid (HZ0.out.drewN nq)
      clear HZ0 cx0 cx1 cx2 k0 k1 k2 hqe
      generalize w2.drewN nq = w40 at *
      go_wp2_with fail
      go_roundw
      case rel =>
       refine ⟨i + 1, true, acc, HLt.out, by go_num, rfl, by have:=HL2.out;omega, ?_, HY2.out⟩
       have:=HF2.out
       rw [HKp.out, if_neg (by decide), List.nil_append] at this
       exact this
      case measure=>simp [intOf];try (have:=HLt.out;omega)
    ·obtain ⟨e1, n1⟩:=ne_facts htx
     have HKp : Hid (otherB g x = true):=Lib.hid (by unfold otherB;rw [decide_eq_false htx];rfl)
     clear htx hss
     go_wp2_with fail
     go_quiet (fail)
     have HY2:=Lib.hid (HZ0.out.drewN nq)
     clear HZ0 cx0 cx1 cx2 k0 k1 k2 hqe
     generalize w2.drewN nq = w40 at *
     go_wp2_with (first | ((with_reducible refine wpList_load_at 29 (.tmp 50) g0 ((off + i * 4)) (grCells x) HUG.out ?_ ?_ ?_ ?_ ?_);(exact rfl);(exact (elem_rng (HRg.out _ (HY2.out).old) HXi.out));(exact rfl);(exact info_gr);simp only [z0, z1, z2, z3]) | ((with_reducible refine wpList_build_obs 23 1 elem_gr HUX.out [grCells x] ?_ ?_ ?_ ?_ ?_ ?_);(exact (List.forall_mem_cons.2 ⟨rfl, (fun _ h=>absurd h List.not_mem_nil)⟩));(exact Nat.succ_pos _);(simp only [List.length_cons, List.length_nil];omega);(exact rfl);(simp only [List.map_toArray, List.map_cons, List.map_nil, List.zipIdx_cons, List.zipIdx_nil];exact rfl);simp only [z0, z1, z2, z3]) | ((with_reducible refine wpList_append_hp ((HY2.out).put 29 (([grCells x] : List (List Value)).flatMap id)) (.tmp 47) (.tmp 52) 23 1 (v:=u5) (e:=29) (z:=4) (n:=acc.length) (xs:=grRow acc) ?_ 2 (b:=(w40.heap.size)) (t':=29) (ys:=([grCells x] : List (List Value)).flatMap id) ?_ HUX.out elem_gr 1 1 ?_ ?_ ?_ ?_ ?_ ?_);(exact rfl);(exact rfl);(exact rfl);(exact rfl);(exact rfl);(exact (one_gr _));(exact (by have:=HL2.out;have:=HAl.out;omega))))
     intro v51 w51 hs hnil
     have HS52:=Lib.hid hs
     clear hs
     clear HY2
     generalize w40.heap.size = B1 at *
     have HS53 : Hid (Hp w [.ob (w.heap.size) 29 (grCells g), .sl v51 29 4 (acc.length + 1) ((grRow acc) ++ (([grCells x] : List (List Value)).flatMap id))] w51):=HS52.out.pull [0, 1] rfl (pull_nd HS52.out.nd [0, 1] rfl (by decide))
     clear HS52
     have HZ : Hid (Hp w [.ob (w.heap.size) 29 (grCells g), .sl v51 29 4 ((acc ++ [x]).length) (grRow (acc ++ [x]))] w51):=hp_snoc (A:=[.ob (w.heap.size) 29 (grCells g)]) HS53.out
     clear HS53
     go_wp2_with fail
     go_roundw
     case rel =>
      refine ⟨i + 1, true, acc ++ [x], HLt.out, by go_num, rfl, by have:=HL2.out;rw [List.length_append, List.length_singleton];omega, ?_, HZ.out⟩
      have:=HF2.out
      rw [HKp.out, if_pos rfl, ← List.append_assoc] at this
      exact this
     case measure=>simp [intOf];try (have:=HLt.out;omega)
   case false =>
    cases lb
    case true =>
     have HF2 : Hid (acc ++ ((if otherB g x = true then [x] else []) ++ holdGo g false (l.drop (i + 1))) = holdGo g false l):=Lib.hid (by have:=HF.out;simpa using this)
     have HL2 : Hid (acc.length ≤ 2 * i + 1):=Lib.hid (by have:=HAl.out;omega)
     clear HF
     go_upto_region 6 with (fail)
     refine wp_region_held_drew (S:=fun w'=>w'.rangeAt g0 (off + i * 4) (grCells x) ∧ w'.rangeAt w.heap.size 0 (grCells g)) (by kernel_rfl) (⟨(elem_rng (HRg.out _ ((HY.out).drew).old) HXi.out), (fun j v hv=>by rw [Nat.zero_add];exact ((HY.out).drew).at 0 rfl j hv)⟩) (fun hHeld=>?_)
     refine tk 0 qRfLk5_0 (some 14) (v:=?q301v) (Or.inl ⟨by rfl, ?q301h⟩) hHeld ?q301r
     case q301h=>(intro _ h;clear h;go_simp;try with_reducible rfl)
     try simp only [z0, z1, z2, z3]
     refine tk 1 qRfLk5_1 (some 15) (v:=.bool true) (Or.inl ⟨by rfl, ?q302h⟩) hHeld ?q302r
     case q302h=>(intro _ h;clear h;go_simp;try with_reducible rfl)
     try simp only [z0, z1, z2, z3]
     refine tk 2 qRfLk5_2 (some 16) (v:=?q303v) (Or.inl ⟨by rfl, ?q303h⟩) hHeld ?q303r
     case q303h=>(intro _ h;clear h;go_simp;try with_reducible rfl)
     try simp only [z0, z1, z2, z3]
     refine tk 3 qRfLk5_3 (some 17) (v:=?q304v) (Or.inl ⟨by rfl, ?q304h⟩) hHeld ?q304r
     case q304h=>(intro _ h;clear h;go_simp;try with_reducible rfl)
     try simp only [z0, z1, z2, z3]
     refine tk 4 qRfLk5_4 (some 18) (v:=?q305v) (Or.inl ⟨by rfl, ?q305h⟩) hHeld ?q305r
     case q305h=>(intro _ h;clear h;go_simp;try with_reducible rfl)
     try simp only [z0, z1, z2, z3]
     refine tk 5 qRfLk5_5 (some 19) (v:=?q306v) (Or.inl ⟨by rfl, ?q306h⟩) hHeld ?q306r
     case q306h=>(intro _ h;clear h;go_simp;try with_reducible rfl)
     try simp only [z0, z1, z2, z3]
     refine tk 6 qRfLk5_6 (some 20) (yieldsIf_load_mid (by rfl) 29 (.tmp 19) rfl g0 (off + i * 4) rfl (grCells x) _ (fun _ h=>h.1) HUG.out rfl (info_gr)) hHeld ?_
     try simp only [z0, z1, z2, z3]
     refine tk 7 qRfLk5_7 (some 21) (yieldsIf_load_mid (by rfl) 29 (.tmp 3) rfl w.heap.size (0) rfl (grCells g) _ (fun _ h=>h.2) HUG.out rfl (info_gr)) hHeld ?_
     try simp only [z0, z1, z2, z3]
     refine tn 8 qRfLk5_8 (fun K hK=>?_)
     go_simp
     go_wp2_with (go_at_call 50;refine (HLs.out _).mono ?_;rintro e w21 ⟨rfl, hb⟩)
     have HS21 : Hid (Hp w [.ob (w.heap.size) 29 (grCells g), .sl u5 29 4 (acc.length) (grRow acc)] w21):=((HY.out).drew).calls hb
     refine hK.out _ _ (⟨(elem_rng (HRg.out _ (HS21.out).old) HXi.out), (fun j v hv=>by rw [Nat.zero_add];exact (HS21.out).at 0 rfl j hv)⟩) (fun hHeld=>?_)
     clear hK K hb
     try simp only [z0, z1, z2, z3]
     refine tk 9 qRfLk5_9 (some 23) (v:=?q309v) (Or.inl ⟨by rfl, ?q309h⟩) hHeld ?q309r
     case q309h=>(intro _ h;clear h;go_simp;try with_reducible rfl)
     try simp only [z0, z1, z2, z3]
     refine tk 10 qRfLk5_10 (some 24) (v:=?q310v) (Or.inl ⟨by rfl, ?q310h⟩) hHeld ?q310r
     case q310h=>(intro _ h;clear h;go_simp;try with_reducible rfl)
     try simp only [z0, z1, z2, z3]
     refine wpAnyH_done (by kernel_rfl) ?_ _
     go_wp2_with fail
     have cx0 : w21.cell? ⟨g0, off + i * 4, none⟩ = some (.int .i64 x.tx):=HRg.out w21 HS21.out.old (i * 4 + 0) _ (grRow_at l i x HXi.out 0 _ rfl)
     have cx1 : w21.cell? ⟨g0, off + i * 4 + 1, none⟩ = some (.int .i64 x.page):=HRg.out w21 HS21.out.old (i * 4 + 1) _ (grRow_at l i x HXi.out 1 _ rfl)
     have cx2 : w21.cell? ⟨g0, off + i * 4 + 2, none⟩ = some (.int .i64 x.slot):=HRg.out w21 HS21.out.old (i * 4 + 2) _ (grRow_at l i x HXi.out 2 _ rfl)
     have k0 : w21.cell? ⟨w.heap.size, 0, none⟩ = some (.int .i64 g.tx):=HS21.out.at 0 rfl 0 rfl
     have k1 : w21.cell? ⟨w.heap.size, 1, none⟩ = some (.int .i64 g.page):=HS21.out.at 0 rfl 1 rfl
     have k2 : w21.cell? ⟨w.heap.size, 2, none⟩ = some (.int .i64 g.slot):=HS21.out.at 0 rfl 2 rfl
     by_cases htx : x.tx = g.tx
     ·obtain ⟨e1, n1⟩:=eq_facts htx
      cases hsv : sameV x.lock g.lock
      ·have HKp : Hid (otherB g x = true):=Lib.hid (by unfold otherB;rw [← hss, hsv];simp)
       rw [hsv] at hqe
       clear htx hss hsv
       go_wp2_with fail
       go_quiet (fail)
       have HY2:=Lib.hid (HS21.out.drewN nq)
       clear HS21 cx0 cx1 cx2 k0 k1 k2 hqe
       generalize w21.drewN nq = w40 at *
       go_wp2_with (first | ((with_reducible refine wpList_load_at 29 (.tmp 50) g0 ((off + i * 4)) (grCells x) HUG.out ?_ ?_ ?_ ?_ ?_);(exact rfl);(exact (elem_rng (HRg.out _ (HY2.out).old) HXi.out));(exact rfl);(exact info_gr);simp only [z0, z1, z2, z3]) | ((with_reducible refine wpList_build_obs 23 1 elem_gr HUX.out [grCells x] ?_ ?_ ?_ ?_ ?_ ?_);(exact (List.forall_mem_cons.2 ⟨rfl, (fun _ h=>absurd h List.not_mem_nil)⟩));(exact Nat.succ_pos _);(simp only [List.length_cons, List.length_nil];omega);(exact rfl);(simp only [List.map_toArray, List.map_cons, List.map_nil, List.zipIdx_cons, List.zipIdx_nil];exact rfl);simp only [z0, z1, z2, z3]) | ((with_reducible refine wpList_append_hp ((HY2.out).put 29 (([grCells x] : List (List Value)).flatMap id)) (.tmp 47) (.tmp 52) 23 1 (v:=u5) (e:=29) (z:=4) (n:=acc.length) (xs:=grRow acc) ?_ 2 (b:=(w40.heap.size)) (t':=29) (ys:=([grCells x] : List (List Value)).flatMap id) ?_ HUX.out elem_gr 1 1 ?_ ?_ ?_ ?_ ?_ ?_);(exact rfl);(exact rfl);(exact rfl);(exact rfl);(exact rfl);(exact (one_gr _));(exact (by have:=HL2.out;have:=HAl.out;omega))))
       intro v51 w51 hs hnil
       have HS52:=Lib.hid hs
       clear hs
       clear HY2
       generalize w40.heap.size = B1 at *
       have HS53 : Hid (Hp w [.ob (w.heap.size) 29 (grCells g), .sl v51 29 4 (acc.length + 1) ((grRow acc) ++ (([grCells x] : List (List Value)).flatMap id))] w51):=HS52.out.pull [0, 1] rfl (pull_nd HS52.out.nd [0, 1] rfl (by decide))
       clear HS52
       have HZ : Hid (Hp w [.ob (w.heap.size) 29 (grCells g), .sl v51 29 4 ((acc ++ [x]).length) (grRow (acc ++ [x]))] w51):=hp_snoc (A:=[.ob (w.heap.size) 29 (grCells g)]) HS53.out
       clear HS53
       go_wp2_with fail
       go_roundw
       case rel =>
        refine ⟨i + 1, false, acc ++ [x], HLt.out, by go_num, rfl, by have:=HL2.out;rw [List.length_append, List.length_singleton];omega, ?_, HZ.out⟩
        have:=HF2.out
        rw [HKp.out, if_pos rfl, ← List.append_assoc] at this
        exact this
       case measure=>simp [intOf];try (have:=HLt.out;omega)
      ·have HKp : Hid (otherB g x = false):=Lib.hid (by unfold otherB;rw [← hss, hsv, decide_eq_true htx];rfl)
       rw [hsv] at hqe
       clear htx hss hsv
       go_wp2_with fail
       go_quiet (fail)
       have HY2:=Lib.hid (HS21.out.drewN nq)
       clear HS21 cx0 cx1 cx2 k0 k1 k2 hqe
       generalize w21.drewN nq = w40 at *
       go_wp2_with fail
       go_roundw
       case rel =>
        refine ⟨i + 1, false, acc, HLt.out, by go_num, rfl, by have:=HL2.out;omega, ?_, HY2.out⟩
        have:=HF2.out
        rw [HKp.out, if_neg (by decide), List.nil_append] at this
        exact this
       case measure=>simp [intOf];try (have:=HLt.out;omega)
     ·obtain ⟨e1, n1⟩:=ne_facts htx
      have HKp : Hid (otherB g x = true):=Lib.hid (by unfold otherB;rw [decide_eq_false htx];rfl)
      clear htx hss
      go_wp2_with fail
      go_quiet (fail)
      have HY2:=Lib.hid (HS21.out.drewN nq)
      clear HS21 cx0 cx1 cx2 k0 k1 k2 hqe
      generalize w21.drewN nq = w40 at *
      go_wp2_with (first | ((with_reducible refine wpList_load_at 29 (.tmp 50) g0 ((off + i * 4)) (grCells x) HUG.out ?_ ?_ ?_ ?_ ?_);(exact rfl);(exact (elem_rng (HRg.out _ (HY2.out).old) HXi.out));(exact rfl);(exact info_gr);simp only [z0, z1, z2, z3]) | ((with_reducible refine wpList_build_obs 23 1 elem_gr HUX.out [grCells x] ?_ ?_ ?_ ?_ ?_ ?_);(exact (List.forall_mem_cons.2 ⟨rfl, (fun _ h=>absurd h List.not_mem_nil)⟩));(exact Nat.succ_pos _);(simp only [List.length_cons, List.length_nil];omega);(exact rfl);(simp only [List.map_toArray, List.map_cons, List.map_nil, List.zipIdx_cons, List.zipIdx_nil];exact rfl);simp only [z0, z1, z2, z3]) | ((with_reducible refine wpList_append_hp ((HY2.out).put 29 (([grCells x] : List (List Value)).flatMap id)) (.tmp 47) (.tmp 52) 23 1 (v:=u5) (e:=29) (z:=4) (n:=acc.length) (xs:=grRow acc) ?_ 2 (b:=(w40.heap.size)) (t':=29) (ys:=([grCells x] : List (List Value)).flatMap id) ?_ HUX.out elem_gr 1 1 ?_ ?_ ?_ ?_ ?_ ?_);(exact rfl);(exact rfl);(exact rfl);(exact rfl);(exact rfl);(exact (one_gr _));(exact (by have:=HL2.out;have:=HAl.out;omega))))
      intro v51 w51 hs hnil
      have HS52:=Lib.hid hs
      clear hs
      clear HY2
      generalize w40.heap.size = B1 at *
      have HS53 : Hid (Hp w [.ob (w.heap.size) 29 (grCells g), .sl v51 29 4 (acc.length + 1) ((grRow acc) ++ (([grCells x] : List (List Value)).flatMap id))] w51):=HS52.out.pull [0, 1] rfl (pull_nd HS52.out.nd [0, 1] rfl (by decide))
      clear HS52
      have HZ : Hid (Hp w [.ob (w.heap.size) 29 (grCells g), .sl v51 29 4 ((acc ++ [x]).length) (grRow (acc ++ [x]))] w51):=hp_snoc (A:=[.ob (w.heap.size) 29 (grCells g)]) HS53.out
      clear HS53
      go_wp2_with fail
      go_roundw
      case rel =>
       refine ⟨i + 1, false, acc ++ [x], HLt.out, by go_num, rfl, by have:=HL2.out;rw [List.length_append, List.length_singleton];omega, ?_, HZ.out⟩
       have:=HF2.out
       rw [HKp.out, if_pos rfl, ← List.append_assoc] at this
       exact this
      case measure=>simp [intOf];try (have:=HLt.out;omega)
    case false =>
     have HF2 : Hid ((acc ++ [g]) ++ ((if otherB g x = true then [x] else []) ++ holdGo g true (l.drop (i + 1))) = holdGo g false l):=Lib.hid (by have:=HF.out;simpa using this)
     have HL2 : Hid ((acc ++ [g]).length ≤ 2 * i + 1):=Lib.hid (by have:=HAl.out;rw [List.length_append, List.length_singleton];omega)
     clear HF
     go_upto_region 6 with (fail)
     refine wp_region_held_drew (S:=fun w'=>w'.rangeAt g0 (off + i * 4) (grCells x) ∧ w'.rangeAt w.heap.size 0 (grCells g)) (by kernel_rfl) (⟨(elem_rng (HRg.out _ ((HY.out).drew).old) HXi.out), (fun j v hv=>by rw [Nat.zero_add];exact ((HY.out).drew).at 0 rfl j hv)⟩) (fun hHeld=>?_)
     refine tk 0 qRfLk5_0 (some 14) (v:=?q401v) (Or.inl ⟨by rfl, ?q401h⟩) hHeld ?q401r
     case q401h=>(intro _ h;clear h;go_simp;try with_reducible rfl)
     try simp only [z0, z1, z2, z3]
     refine tk 1 qRfLk5_1 (some 15) (v:=.bool true) (Or.inl ⟨by rfl, ?q402h⟩) hHeld ?q402r
     case q402h=>(intro _ h;clear h;go_simp;try with_reducible rfl)
     try simp only [z0, z1, z2, z3]
     refine tk 2 qRfLk5_2 (some 16) (v:=?q403v) (Or.inl ⟨by rfl, ?q403h⟩) hHeld ?q403r
     case q403h=>(intro _ h;clear h;go_simp;try with_reducible rfl)
     try simp only [z0, z1, z2, z3]
     refine tk 3 qRfLk5_3 (some 17) (v:=?q404v) (Or.inl ⟨by rfl, ?q404h⟩) hHeld ?q404r
     case q404h=>(intro _ h;clear h;go_simp;try with_reducible rfl)
     try simp only [z0, z1, z2, z3]
     refine tk 4 qRfLk5_4 (some 18) (v:=?q405v) (Or.inl ⟨by rfl, ?q405h⟩) hHeld ?q405r
     case q405h=>(intro _ h;clear h;go_simp;try with_reducible rfl)
     try simp only [z0, z1, z2, z3]
     refine tk 5 qRfLk5_5 (some 19) (v:=?q406v) (Or.inl ⟨by rfl, ?q406h⟩) hHeld ?q406r
     case q406h=>(intro _ h;clear h;go_simp;try with_reducible rfl)
     try simp only [z0, z1, z2, z3]
     refine tk 6 qRfLk5_6 (some 20) (yieldsIf_load_mid (by rfl) 29 (.tmp 19) rfl g0 (off + i * 4) rfl (grCells x) _ (fun _ h=>h.1) HUG.out rfl (info_gr)) hHeld ?_
     try simp only [z0, z1, z2, z3]
     refine tk 7 qRfLk5_7 (some 21) (yieldsIf_load_mid (by rfl) 29 (.tmp 3) rfl w.heap.size (0) rfl (grCells g) _ (fun _ h=>h.2) HUG.out rfl (info_gr)) hHeld ?_
     try simp only [z0, z1, z2, z3]
     refine tn 8 qRfLk5_8 (fun K hK=>?_)
     go_simp
     go_wp2_with (go_at_call 50;refine (HLs.out _).mono ?_;rintro e w21 ⟨rfl, hb⟩)
     have HS21 : Hid (Hp w [.ob (w.heap.size) 29 (grCells g), .sl u5 29 4 (acc.length) (grRow acc)] w21):=((HY.out).drew).calls hb
     refine hK.out _ _ (⟨(elem_rng (HRg.out _ (HS21.out).old) HXi.out), (fun j v hv=>by rw [Nat.zero_add];exact (HS21.out).at 0 rfl j hv)⟩) (fun hHeld=>?_)
     clear hK K hb
     try simp only [z0, z1, z2, z3]
     refine tk 9 qRfLk5_9 (some 23) (v:=?q409v) (Or.inl ⟨by rfl, ?q409h⟩) hHeld ?q409r
     case q409h=>(intro _ h;clear h;go_simp;try with_reducible rfl)
     try simp only [z0, z1, z2, z3]
     refine tk 10 qRfLk5_10 (some 24) (v:=?q410v) (Or.inl ⟨by rfl, ?q410h⟩) hHeld ?q410r
     case q410h=>(intro _ h;clear h;go_simp;try with_reducible rfl)
     try simp only [z0, z1, z2, z3]
     refine wpAnyH_done (by kernel_rfl) ?_ _
     go_wp2_with (first | ((with_reducible refine wpList_load_ob 29 (.tmp 3) (w.heap.size) (grCells g) 29 HUG.out ?_ ?_ ?_ ?_ ?_);(exact rfl);(exact (HS21.out).get 0 rfl);(exact rfl);(exact info_gr);simp only [z0, z1, z2, z3]) | ((with_reducible refine wpList_build_obs 23 1 elem_gr HUX.out [grCells g] ?_ ?_ ?_ ?_ ?_ ?_);(exact (List.forall_mem_cons.2 ⟨rfl, (fun _ h=>absurd h List.not_mem_nil)⟩));(exact Nat.succ_pos _);(simp only [List.length_cons, List.length_nil];omega);(exact rfl);(simp only [List.map_toArray, List.map_cons, List.map_nil, List.zipIdx_cons, List.zipIdx_nil];exact rfl);simp only [z0, z1, z2, z3]) | ((with_reducible refine wpList_append_hp ((HS21.out).put 29 (([grCells g] : List (List Value)).flatMap id)) (.tmp 25) (.tmp 27) 23 1 (v:=u5) (e:=29) (z:=4) (n:=acc.length) (xs:=grRow acc) ?_ 2 (b:=(w21.heap.size)) (t':=29) (ys:=([grCells g] : List (List Value)).flatMap id) ?_ HUX.out elem_gr 1 1 ?_ ?_ ?_ ?_ ?_ ?_);(exact rfl);(exact rfl);(exact rfl);(exact rfl);(exact rfl);(exact (one_gr _));(exact (by have:=HAl.out;omega))))
     intro v22 w22 hs hnil
     have HS23:=Lib.hid hs
     clear hs
     clear HS21
     generalize w21.heap.size = B1 at *
     have HS24 : Hid (Hp w [.ob (w.heap.size) 29 (grCells g), .sl v22 29 4 (acc.length + 1) ((grRow acc) ++ (([grCells g] : List (List Value)).flatMap id))] w22):=HS23.out.pull [0, 1] rfl (pull_nd HS23.out.nd [0, 1] rfl (by decide))
     clear HS23
     have HZ : Hid (Hp w [.ob (w.heap.size) 29 (grCells g), .sl v22 29 4 ((acc ++ [g]).length) (grRow (acc ++ [g]))] w22):=hp_snoc (A:=[.ob (w.heap.size) 29 (grCells g)]) HS24.out
     clear HS24
     go_wp2_with fail
     have cx0 : w22.cell? ⟨g0, off + i * 4, none⟩ = some (.int .i64 x.tx):=HRg.out w22 HZ.out.old (i * 4 + 0) _ (grRow_at l i x HXi.out 0 _ rfl)
     have cx1 : w22.cell? ⟨g0, off + i * 4 + 1, none⟩ = some (.int .i64 x.page):=HRg.out w22 HZ.out.old (i * 4 + 1) _ (grRow_at l i x HXi.out 1 _ rfl)
     have cx2 : w22.cell? ⟨g0, off + i * 4 + 2, none⟩ = some (.int .i64 x.slot):=HRg.out w22 HZ.out.old (i * 4 + 2) _ (grRow_at l i x HXi.out 2 _ rfl)
     have k0 : w22.cell? ⟨w.heap.size, 0, none⟩ = some (.int .i64 g.tx):=HZ.out.at 0 rfl 0 rfl
     have k1 : w22.cell? ⟨w.heap.size, 1, none⟩ = some (.int .i64 g.page):=HZ.out.at 0 rfl 1 rfl
     have k2 : w22.cell? ⟨w.heap.size, 2, none⟩ = some (.int .i64 g.slot):=HZ.out.at 0 rfl 2 rfl
     by_cases htx : x.tx = g.tx
     ·obtain ⟨e1, n1⟩:=eq_facts htx
      cases hsv : sameV x.lock g.lock
      ·have HKp : Hid (otherB g x = true):=Lib.hid (by unfold otherB;rw [← hss, hsv];simp)
       rw [hsv] at hqe
       clear htx hss hsv
       go_wp2_with fail
       go_quiet (fail)
       have HY2:=Lib.hid (HZ.out.drewN nq)
       clear HZ cx0 cx1 cx2 k0 k1 k2 hqe
       generalize w22.drewN nq = w40 at *
       go_wp2_with (first | ((with_reducible refine wpList_load_at 29 (.tmp 50) g0 ((off + i * 4)) (grCells x) HUG.out ?_ ?_ ?_ ?_ ?_);(exact rfl);(exact (elem_rng (HRg.out _ (HY2.out).old) HXi.out));(exact rfl);(exact info_gr);simp only [z0, z1, z2, z3]) | ((with_reducible refine wpList_build_obs 23 1 elem_gr HUX.out [grCells x] ?_ ?_ ?_ ?_ ?_ ?_);(exact (List.forall_mem_cons.2 ⟨rfl, (fun _ h=>absurd h List.not_mem_nil)⟩));(exact Nat.succ_pos _);(simp only [List.length_cons, List.length_nil];omega);(exact rfl);(simp only [List.map_toArray, List.map_cons, List.map_nil, List.zipIdx_cons, List.zipIdx_nil];exact rfl);simp only [z0, z1, z2, z3]) | ((with_reducible refine wpList_append_hp ((HY2.out).put 29 (([grCells x] : List (List Value)).flatMap id)) (.tmp 47) (.tmp 52) 23 1 (v:=v22) (e:=29) (z:=4) (n:=(acc ++ [g]).length) (xs:=grRow (acc ++ [g])) ?_ 2 (b:=(w40.heap.size)) (t':=29) (ys:=([grCells x] : List (List Value)).flatMap id) ?_ HUX.out elem_gr 1 1 ?_ ?_ ?_ ?_ ?_ ?_);(exact rfl);(exact rfl);(exact rfl);(exact rfl);(exact rfl);(exact (one_gr _));(exact (by have:=HL2.out;have:=HAl.out;omega))))
       intro v51 w51 hs hnil
       have HS52:=Lib.hid hs
       clear hs
       clear HY2
       generalize w40.heap.size = B1 at *
       have HS53 : Hid (Hp w [.ob (w.heap.size) 29 (grCells g), .sl v51 29 4 ((acc ++ [g]).length + 1) ((grRow (acc ++ [g])) ++ (([grCells x] : List (List Value)).flatMap id))] w51):=HS52.out.pull [0, 1] rfl (pull_nd HS52.out.nd [0, 1] rfl (by decide))
       clear HS52
       have HZ : Hid (Hp w [.ob (w.heap.size) 29 (grCells g), .sl v51 29 4 (((acc ++ [g]) ++ [x]).length) (grRow ((acc ++ [g]) ++ [x]))] w51):=hp_snoc (A:=[.ob (w.heap.size) 29 (grCells g)]) HS53.out
       clear HS53
       go_wp2_with fail
       go_roundw
       case rel =>
        refine ⟨i + 1, true, (acc ++ [g]) ++ [x], HLt.out, by go_num, rfl, by have:=HL2.out;rw [List.length_append, List.length_singleton];omega, ?_, HZ.out⟩
        have:=HF2.out
        rw [HKp.out, if_pos rfl, ← List.append_assoc] at this
        exact this
       case measure=>simp [intOf];try (have:=HLt.out;omega)
      ·have HKp : Hid (otherB g x = false):=Lib.hid (by unfold otherB;rw [← hss, hsv, decide_eq_true htx];rfl)
       rw [hsv] at hqe
       clear htx hss hsv
       go_wp2_with fail
       go_quiet (fail)
       have HY2:=Lib.hid (HZ.out.drewN nq)
       clear HZ cx0 cx1 cx2 k0 k1 k2 hqe
       generalize w22.drewN nq = w40 at *
       go_wp2_with fail
       go_roundw
       case rel =>
        refine ⟨i + 1, true, (acc ++ [g]), HLt.out, by go_num, rfl, by have:=HL2.out;omega, ?_, HY2.out⟩
        have:=HF2.out
        rw [HKp.out, if_neg (by decide), List.nil_append] at this
        exact this
       case measure=>simp [intOf];try (have:=HLt.out;omega)
     ·obtain ⟨e1, n1⟩:=ne_facts htx
      have HKp : Hid (otherB g x = true):=Lib.hid (by unfold otherB;rw [decide_eq_false htx];rfl)
      clear htx hss
      go_wp2_with fail
      go_quiet (fail)
      have HY2:=Lib.hid (HZ.out.drewN nq)
      clear HZ cx0 cx1 cx2 k0 k1 k2 hqe
      generalize w22.drewN nq = w40 at *
      go_wp2_with (first | ((with_reducible refine wpList_load_at 29 (.tmp 50) g0 ((off + i * 4)) (grCells x) HUG.out ?_ ?_ ?_ ?_ ?_);(exact rfl);(exact (elem_rng (HRg.out _ (HY2.out).old) HXi.out));(exact rfl);(exact info_gr);simp only [z0, z1, z2, z3]) | ((with_reducible refine wpList_build_obs 23 1 elem_gr HUX.out [grCells x] ?_ ?_ ?_ ?_ ?_ ?_);(exact (List.forall_mem_cons.2 ⟨rfl, (fun _ h=>absurd h List.not_mem_nil)⟩));(exact Nat.succ_pos _);(simp only [List.length_cons, List.length_nil];omega);(exact rfl);(simp only [List.map_toArray, List.map_cons, List.map_nil, List.zipIdx_cons, List.zipIdx_nil];exact rfl);simp only [z0, z1, z2, z3]) | ((with_reducible refine wpList_append_hp ((HY2.out).put 29 (([grCells x] : List (List Value)).flatMap id)) (.tmp 47) (.tmp 52) 23 1 (v:=v22) (e:=29) (z:=4) (n:=(acc ++ [g]).length) (xs:=grRow (acc ++ [g])) ?_ 2 (b:=(w40.heap.size)) (t':=29) (ys:=([grCells x] : List (List Value)).flatMap id) ?_ HUX.out elem_gr 1 1 ?_ ?_ ?_ ?_ ?_ ?_);(exact rfl);(exact rfl);(exact rfl);(exact rfl);(exact rfl);(exact (one_gr _));(exact (by have:=HL2.out;have:=HAl.out;omega))))
      intro v51 w51 hs hnil
      have HS52:=Lib.hid hs
      clear hs
      clear HY2
      generalize w40.heap.size = B1 at *
      have HS53 : Hid (Hp w [.ob (w.heap.size) 29 (grCells g), .sl v51 29 4 ((acc ++ [g]).length + 1) ((grRow (acc ++ [g])) ++ (([grCells x] : List (List Value)).flatMap id))] w51):=HS52.out.pull [0, 1] rfl (pull_nd HS52.out.nd [0, 1] rfl (by decide))
      clear HS52
      have HZ : Hid (Hp w [.ob (w.heap.size) 29 (grCells g), .sl v51 29 4 (((acc ++ [g]) ++ [x]).length) (grRow ((acc ++ [g]) ++ [x]))] w51):=hp_snoc (A:=[.ob (w.heap.size) 29 (grCells g)]) HS53.out
      clear HS53
      go_wp2_with fail
      go_roundw
      case rel =>
       refine ⟨i + 1, true, (acc ++ [g]) ++ [x], HLt.out, by go_num, rfl, by have:=HL2.out;rw [List.length_append, List.length_singleton];omega, ?_, HZ.out⟩
       have:=HF2.out
       rw [HKp.out, if_pos rfl, ← List.append_assoc] at this
       exact this
      case measure=>simp [intOf];try (have:=HLt.out;omega)
  ·obtain rfl : i = l.length:=by omega
   have HE : Hid (acc ++ (if d = true then [] else [g]) = holdGo g false l):=Lib.hid (by have:=HFT.out;rw [List.drop_length] at this;exact this)
   clear hlt hi HFT
   cases d
   case true =>
    go_wp2_with fail
    go_ret
    have hE:=HE.out
    simp only [if_true, List.append_nil] at hE
    rw [← hE]
    exact gr_hand (HY.out.own 1 rfl) HY.out.old
   case false =>
    go_wp2_with (first | ((with_reducible refine wpList_load_ob 29 (.tmp 3) (w.heap.size) (grCells g) 29 HUG.out ?_ ?_ ?_ ?_ ?_);(exact rfl);(exact (HY.out).get 0 rfl);(exact rfl);(exact info_gr);simp only [z0, z1, z2, z3]) | ((with_reducible refine wpList_build_obs 23 1 elem_gr HUX.out [grCells g] ?_ ?_ ?_ ?_ ?_ ?_);(exact (List.forall_mem_cons.2 ⟨rfl, (fun _ h=>absurd h List.not_mem_nil)⟩));(exact Nat.succ_pos _);(simp only [List.length_cons, List.length_nil];omega);(exact rfl);(simp only [List.map_toArray, List.map_cons, List.map_nil, List.zipIdx_cons, List.zipIdx_nil];exact rfl);simp only [z0, z1, z2, z3]) | ((with_reducible refine wpList_append_hp ((HY.out).put 29 (([grCells g] : List (List Value)).flatMap id)) (.tmp 56) (.tmp 58) 23 1 (v:=u5) (e:=29) (z:=4) (n:=acc.length) (xs:=grRow acc) ?_ 2 (b:=(wr.heap.size)) (t':=29) (ys:=([grCells g] : List (List Value)).flatMap id) ?_ HUX.out elem_gr 1 1 ?_ ?_ ?_ ?_ ?_ ?_);(exact rfl);(exact rfl);(exact rfl);(exact rfl);(exact rfl);(exact (one_gr _));(exact (by have:=HAl.out;omega))))
    intro v21 w21 hs hnil
    have HS22:=Lib.hid hs
    clear hs
    clear HY
    generalize wr.heap.size = B1 at *
    have HS23 : Hid (Hp w [.ob (w.heap.size) 29 (grCells g), .sl v21 29 4 (acc.length + 1) ((grRow acc) ++ (([grCells g] : List (List Value)).flatMap id))] w21):=HS22.out.pull [0, 1] rfl (pull_nd HS22.out.nd [0, 1] rfl (by decide))
    clear HS22
    have HZ : Hid (Hp w [.ob (w.heap.size) 29 (grCells g), .sl v21 29 4 ((acc ++ [g]).length) (grRow (acc ++ [g]))] w21):=hp_snoc (A:=[.ob (w.heap.size) 29 (grCells g)]) HS23.out
    clear HS23
    go_wp2_with fail
    go_ret
    have hE:=HE.out
    simp only [Bool.false_eq_true, if_false] at hE
    rw [← hE]
    exact gr_hand ((HZ.out).own 1 rfl) (HZ.out).old
set_option maxHeartbeats 8000000 in
theorem rable_any {h v : Value} {t : Tb} {R : List Rng} (i : Nat) (x : Gr) (w : World) (ht : TbRd h v t R) (hR : RdIn w R) (hg : GoodTb t) (hx : t.wait[i]? = some x) :
  Calls Try.prog 75 #[.agg (tbCells h v).toArray, .int .i64 (i : Int)] w fun e w'=>e = .returned (.bool (ableB t.held (t.wait.take i) x)) ∧ Below w.heap.size w w':=by
 obtain ⟨a, cap, rfl, hnc, hcm, hg0⟩:=SlRd.open ht.1 hR
 obtain ⟨a2, cap2, rfl, hnc2, hcm2, hg2⟩:=SlRd.open ht.2 hR
 have HGe:=Lib.hid hg.held
 have HGw:=Lib.hid hg.wait
 have hfew:=hg.few
 have HNh : Hid (∀ q z, t.held[q]? = some z → confB z x = true → ableB t.held (t.wait.take i) x = false):=fun q z h1 h2=>able_no_h h1 h2
 have HNk : Hid (∀ q z, q < i → t.wait[q]? = some z → confB z x = true → ableB t.held (t.wait.take i) x = false):=fun q z h0 h1 h2=>able_no_k h0 h1 h2
 have HYs : Hid ((∀ q, q < t.held.length → ∀ z, t.held[q]? = some z → confB z x = false) → (∀ q, q < i → ∀ z, t.wait[q]? = some z → confB z x = false) → ableB t.held (t.wait.take i) x = true):=fun h1 h2=>able_yes h1 h2
 clear ht hR hg
 generalize ableB t.held (t.wait.take i) x = ok at *
 generalize t.held = l at *
 generalize t.wait = m at *
 have him : i < m.length:=(List.getElem?_eq_some_iff.1 hx).1
 obtain ⟨g1, off1, rfl, hr2⟩:=hg2.out (by omega)
 have HRw:=Lib.hid hr2
 have HXi:=Lib.hid hx
 have HGx:=Lib.hid (HGw.out x (List.mem_of_getElem? hx))
 have HIm:=Lib.hid him
 have hil : (i : Int) < (m.length : Int):=by omega
 have hi0 : (0 : Int) ≤ (i : Int):=by omega
 have hn1 : (l.length : Int) ≤ 100000:=by omega
 have hm1 : (m.length : Int) ≤ 100000:=by omega
 clear hr2 hg2 hx him hfew
 have h1:=(Hp.start w).put 25 (tbCells (.slice a l.length cap) (.slice (some ⟨g1, off1, none⟩) m.length cap2))
 simp only [List.nil_append] at h1
 have HS0 : Hid (Hp w [.ob w.heap.size 25 (tbCells (.slice a l.length cap) (.slice (some ⟨g1, off1, none⟩) m.length cap2))] (w.alloc (.cells (tbCells (.slice a l.length cap) (.slice (some ⟨g1, off1, none⟩) m.length cap2)).toArray 25))):=h1
 clear h1
 obtain ⟨fsHUG, huHUG⟩:=under_gr
 have HUG:=Lib.hid huHUG
 clear huHUG
 obtain ⟨fsHUK, huHUK⟩:=under_lk
 have HUK:=Lib.hid huHUK
 clear huHUK
 obtain ⟨fsHUT, huHUT⟩:=under_tb
 have HUT:=Lib.hid huHUT
 clear huHUT
 go_enter Try.func75, Try.ntmps75
 go_upto_region 1 with (fail)
 generalize (w.alloc (.cells (tbCells (.slice a l.length cap) (.slice (some ⟨g1, off1, none⟩) m.length cap2)).toArray 25)) = w1 at *
 go_wp2_with fail
 go_loopw [5] (fun kv wr=>∃ k : Nat, k ≤ l.length ∧ kv = .int .i64 k ∧ (∀ q, q < k → ∀ z, l[q]? = some z → confB z x = false) ∧ Hp w [.ob w.heap.size 25 (tbCells (.slice a l.length cap) (.slice (some ⟨g1, off1, none⟩) m.length cap2))] wr) (fun kv _=>l.length - (intOf kv).toNat)
 case atStart=>exact ⟨0, by omega, rfl, fun q h=>absurd h (by omega), HS0.out⟩
 case round =>
  clear HS0
  obtain ⟨k, hk, rfl, hf, hs⟩:=hrel
  have HY:=Lib.hid hs
  have HF:=Lib.hid hf
  have b0 : wr.cell? ⟨w.heap.size, 0, none⟩ = some (.slice a l.length cap):=hs.at 0 rfl 0 rfl
  clear hs hf
  by_cases hlt : k < l.length
  ·obtain ⟨g0, off, rfl, hr⟩:=hg0.out (by omega)
   have HRg:=Lib.hid hr
   obtain ⟨y, hy⟩ : ∃ y, l[k]? = some y:=⟨_, List.getElem?_eq_getElem hlt⟩
   have HYk:=Lib.hid hy
   have hkk : (k : Int) < (l.length : Int):=by omega
   have hk0 : (0 : Int) ≤ (k : Int):=by omega
   have HLt:=Lib.hid hlt
   have HCf : Hid (∀ W, Calls Try.prog 34 #[.agg (grCells y).toArray, .agg (grCells x).toArray] W fun e w'=>e = .returned (.bool (confB y x)) ∧ Below W.heap.size W w'):=fun W=>rconflict_any y x W (HGe.out y (List.mem_of_getElem? hy)) HGx.out
   have hNx:=HNh.out k y hy
   have hFn : confB y x = false → ∀ q, q < k + 1 → ∀ z, l[q]? = some z → confB z x = false:=fun h q hq z hz=>by
    rcases Nat.lt_or_ge q k with h3 | h3
    ·exact HF.out q h3 z hz
    ·obtain rfl : q = k:=by omega
     rw [HYk.out] at hz
     rw [← Option.some.inj hz];exact h
   clear hr hg0 hy hk hlt HF
   generalize confB y x = cb at *
   cases cb
   case true =>
    have HX:=Lib.hid (hNx rfl)
    clear hNx hFn
    go_upto_region 4 with (fail)
    clear b0
    refine wp_region_held_drew (S:=fun w'=>w'.rangeAt w.heap.size 0 (tbCells (.slice (some ⟨g0, off, none⟩) l.length cap) (.slice (some ⟨g1, off1, none⟩) m.length cap2)) ∧ w'.rangeAt g0 (off + k * 4) (grCells y) ∧ w'.rangeAt g1 (off1 + i * 4) (grCells x)) (by kernel_rfl) (⟨(fun j v hv=>by rw [Nat.zero_add];exact ((HY.out).drew).at 0 rfl j hv), (elem_rng (HRg.out _ ((HY.out).drew).old) HYk.out), (elem_rng (HRw.out _ ((HY.out).drew).old) HXi.out)⟩) (fun hHeld=>?_)
    refine tk 0 qRfLk5_11 (some 14) (v:=?q1v) (Or.inl ⟨by rfl, ?q1h⟩) hHeld ?q1r
    case q1h=>(intro _ h;clear h;go_simp;try with_reducible rfl)
    try simp only [z0, z1, z2, z3]
    refine tk 1 qRfLk5_12 (some 15) (v:=.slice (some ⟨g0, off, none⟩) l.length cap) (Or.inl ⟨by rfl, ?q2h⟩) hHeld ?q2r
    case q2h=>(intro wq hSw;have lq:=(hSw.1) 0 (.slice (some ⟨g0, off, none⟩) l.length cap) rfl;simp only [Nat.zero_add] at lq;clear hSw;go_simp;try with_reducible rfl)
    try simp only [z0, z1, z2, z3]
    refine tk 2 qRfLk5_13 (some 16) (v:=?q3v) (Or.inl ⟨by rfl, ?q3h⟩) hHeld ?q3r
    case q3h=>(intro _ h;clear h;go_simp;try with_reducible rfl)
    try simp only [z0, z1, z2, z3]
    refine tk 3 qRfLk5_14 (some 17) (v:=?q4v) (Or.inl ⟨by rfl, ?q4h⟩) hHeld ?q4r
    case q4h=>(intro _ h;clear h;go_simp;try with_reducible rfl)
    try simp only [z0, z1, z2, z3]
    refine tk 4 qRfLk5_15 (some 18) (yieldsIf_load_mid (by rfl) 29 (.tmp 17) rfl g0 (off + k * 4) rfl (grCells y) _ (fun _ h=>h.2.1) HUG.out rfl (info_gr)) hHeld ?_
    try simp only [z0, z1, z2, z3]
    refine tk 5 qRfLk5_16 (some 19) (v:=?q6v) (Or.inl ⟨by rfl, ?q6h⟩) hHeld ?q6r
    case q6h=>(intro _ h;clear h;go_simp;try with_reducible rfl)
    try simp only [z0, z1, z2, z3]
    refine tk 6 qRfLk5_17 (some 20) (v:=.slice (some ⟨g1, off1, none⟩) m.length cap2) (Or.inl ⟨by rfl, ?q7h⟩) hHeld ?q7r
    case q7h=>(intro wq hSw;have lq:=(hSw.1) 1 (.slice (some ⟨g1, off1, none⟩) m.length cap2) rfl;simp only [Nat.zero_add] at lq;clear hSw;go_simp;try with_reducible rfl)
    try simp only [z0, z1, z2, z3]
    refine tk 7 qRfLk5_18 (some 21) (v:=?q8v) (Or.inl ⟨by rfl, ?q8h⟩) hHeld ?q8r
    case q8h=>(intro _ h;clear h;go_simp;try with_reducible rfl)
    try simp only [z0, z1, z2, z3]
    refine tk 8 qRfLk5_19 (some 22) (v:=?q9v) (Or.inl ⟨by rfl, ?q9h⟩) hHeld ?q9r
    case q9h=>(intro _ h;clear h;go_simp;try with_reducible rfl)
    try simp only [z0, z1, z2, z3]
    refine tk 9 qRfLk5_20 (some 23) (yieldsIf_load_mid (by rfl) 29 (.tmp 22) rfl g1 (off1 + i * 4) rfl (grCells x) _ (fun _ h=>h.2.2) HUG.out rfl (info_gr)) hHeld ?_
    try simp only [z0, z1, z2, z3]
    refine tn 10 qRfLk5_21 (fun K hK=>?_)
    go_simp
    go_wp2_with (go_at_call 34;refine (HCf.out _).mono ?_;rintro e w21 ⟨rfl, hb⟩)
    have HS21 : Hid (Hp w [.ob (w.heap.size) 25 (tbCells (.slice (some ⟨g0, off, none⟩) l.length cap) (.slice (some ⟨g1, off1, none⟩) m.length cap2))] w21):=((HY.out).drew).calls hb
    refine hK.out _ _ (⟨(fun j v hv=>by rw [Nat.zero_add];exact (HS21.out).at 0 rfl j hv), (elem_rng (HRg.out _ (HS21.out).old) HYk.out), (elem_rng (HRw.out _ (HS21.out).old) HXi.out)⟩) (fun hHeld=>?_)
    clear hK K hb
    try simp only [z0, z1, z2, z3]
    refine wpAnyH_done (by kernel_rfl) ?_ _
    go_wp2_with fail
    go_ret
    exact ⟨by rw [HX.out];rfl, HS21.out.old⟩
   case false =>
    have HFn:=Lib.hid (hFn rfl)
    clear hNx hFn
    go_upto_region 4 with (fail)
    clear b0
    refine wp_region_held_drew (S:=fun w'=>w'.rangeAt w.heap.size 0 (tbCells (.slice (some ⟨g0, off, none⟩) l.length cap) (.slice (some ⟨g1, off1, none⟩) m.length cap2)) ∧ w'.rangeAt g0 (off + k * 4) (grCells y) ∧ w'.rangeAt g1 (off1 + i * 4) (grCells x)) (by kernel_rfl) (⟨(fun j v hv=>by rw [Nat.zero_add];exact ((HY.out).drew).at 0 rfl j hv), (elem_rng (HRg.out _ ((HY.out).drew).old) HYk.out), (elem_rng (HRw.out _ ((HY.out).drew).old) HXi.out)⟩) (fun hHeld=>?_)
    refine tk 0 qRfLk5_11 (some 14) (v:=?q51v) (Or.inl ⟨by rfl, ?q51h⟩) hHeld ?q51r
    case q51h=>(intro _ h;clear h;go_simp;try with_reducible rfl)
    try simp only [z0, z1, z2, z3]
    refine tk 1 qRfLk5_12 (some 15) (v:=.slice (some ⟨g0, off, none⟩) l.length cap) (Or.inl ⟨by rfl, ?q52h⟩) hHeld ?q52r
    case q52h=>(intro wq hSw;have lq:=(hSw.1) 0 (.slice (some ⟨g0, off, none⟩) l.length cap) rfl;simp only [Nat.zero_add] at lq;clear hSw;go_simp;try with_reducible rfl)
    try simp only [z0, z1, z2, z3]
    refine tk 2 qRfLk5_13 (some 16) (v:=?q53v) (Or.inl ⟨by rfl, ?q53h⟩) hHeld ?q53r
    case q53h=>(intro _ h;clear h;go_simp;try with_reducible rfl)
    try simp only [z0, z1, z2, z3]
    refine tk 3 qRfLk5_14 (some 17) (v:=?q54v) (Or.inl ⟨by rfl, ?q54h⟩) hHeld ?q54r
    case q54h=>(intro _ h;clear h;go_simp;try with_reducible rfl)
    try simp only [z0, z1, z2, z3]
    refine tk 4 qRfLk5_15 (some 18) (yieldsIf_load_mid (by rfl) 29 (.tmp 17) rfl g0 (off + k * 4) rfl (grCells y) _ (fun _ h=>h.2.1) HUG.out rfl (info_gr)) hHeld ?_
    try simp only [z0, z1, z2, z3]
    refine tk 5 qRfLk5_16 (some 19) (v:=?q56v) (Or.inl ⟨by rfl, ?q56h⟩) hHeld ?q56r
    case q56h=>(intro _ h;clear h;go_simp;try with_reducible rfl)
    try simp only [z0, z1, z2, z3]
    refine tk 6 qRfLk5_17 (some 20) (v:=.slice (some ⟨g1, off1, none⟩) m.length cap2) (Or.inl ⟨by rfl, ?q57h⟩) hHeld ?q57r
    case q57h=>(intro wq hSw;have lq:=(hSw.1) 1 (.slice (some ⟨g1, off1, none⟩) m.length cap2) rfl;simp only [Nat.zero_add] at lq;clear hSw;go_simp;try with_reducible rfl)
    try simp only [z0, z1, z2, z3]
    refine tk 7 qRfLk5_18 (some 21) (v:=?q58v) (Or.inl ⟨by rfl, ?q58h⟩) hHeld ?q58r
    case q58h=>(intro _ h;clear h;go_simp;try with_reducible rfl)
    try simp only [z0, z1, z2, z3]
    refine tk 8 qRfLk5_19 (some 22) (v:=?q59v) (Or.inl ⟨by rfl, ?q59h⟩) hHeld ?q59r
    case q59h=>(intro _ h;clear h;go_simp;try with_reducible rfl)
    try simp only [z0, z1, z2, z3]
    refine tk 9 qRfLk5_20 (some 23) (yieldsIf_load_mid (by rfl) 29 (.tmp 22) rfl g1 (off1 + i * 4) rfl (grCells x) _ (fun _ h=>h.2.2) HUG.out rfl (info_gr)) hHeld ?_
    try simp only [z0, z1, z2, z3]
    refine tn 10 qRfLk5_21 (fun K hK=>?_)
    go_simp
    go_wp2_with (go_at_call 34;refine (HCf.out _).mono ?_;rintro e w21 ⟨rfl, hb⟩)
    have HS21 : Hid (Hp w [.ob (w.heap.size) 25 (tbCells (.slice (some ⟨g0, off, none⟩) l.length cap) (.slice (some ⟨g1, off1, none⟩) m.length cap2))] w21):=((HY.out).drew).calls hb
    refine hK.out _ _ (⟨(fun j v hv=>by rw [Nat.zero_add];exact (HS21.out).at 0 rfl j hv), (elem_rng (HRg.out _ (HS21.out).old) HYk.out), (elem_rng (HRw.out _ (HS21.out).old) HXi.out)⟩) (fun hHeld=>?_)
    clear hK K hb
    try simp only [z0, z1, z2, z3]
    refine wpAnyH_done (by kernel_rfl) ?_ _
    go_wp2_with fail
    go_roundw
    case rel=>exact ⟨k + 1, HLt.out, by go_num, HFn.out, HS21.out⟩
    case measure=>simp [intOf];try (have:=HLt.out;omega)
  ·obtain rfl : k = l.length:=by omega
   have HF1:=Lib.hid HF.out
   clear hlt hk HF
   go_wp2_with fail
   clear b0
   go_loopw [6] (fun kv wr=>∃ k : Nat, k ≤ i ∧ kv = .int .i64 k ∧ (∀ q, q < k → ∀ z, m[q]? = some z → confB z x = false) ∧ Hp w [.ob w.heap.size 25 (tbCells (.slice a l.length cap) (.slice (some ⟨g1, off1, none⟩) m.length cap2))] wr) (fun kv _=>i - (intOf kv).toNat)
   case atStart=>exact ⟨0, by omega, rfl, fun q h=>absurd h (by omega), HY.out⟩
   case round =>
    clear HY
    obtain ⟨k, hk, rfl, hf, hs⟩:=hrel
    have HY:=Lib.hid hs
    have HF:=Lib.hid hf
    clear hs hf
    by_cases hlt : k < i
    ·obtain ⟨y, hy⟩ : ∃ y, m[k]? = some y:=⟨_, List.getElem?_eq_getElem (by have:=HIm.out;omega)⟩
     have HYk:=Lib.hid hy
     have hki : (k : Int) < (i : Int):=by omega
     have hkk : (k : Int) < (m.length : Int):=by omega
     have hk0 : (0 : Int) ≤ (k : Int):=by omega
     have HLt:=Lib.hid hlt
     have HCf : Hid (∀ W, Calls Try.prog 34 #[.agg (grCells y).toArray, .agg (grCells x).toArray] W fun e w'=>e = .returned (.bool (confB y x)) ∧ Below W.heap.size W w'):=fun W=>rconflict_any y x W (HGw.out y (List.mem_of_getElem? hy)) HGx.out
     have hNx:=HNk.out k y hlt hy
     have hFn : confB y x = false → ∀ q, q < k + 1 → ∀ z, m[q]? = some z → confB z x = false:=fun h q hq z hz=>by
      rcases Nat.lt_or_ge q k with h3 | h3
      ·exact HF.out q h3 z hz
      ·obtain rfl : q = k:=by omega
       rw [HYk.out] at hz
       rw [← Option.some.inj hz];exact h
     clear hy hk hlt HF
     generalize confB y x = cb at *
     cases cb
     case true =>
      have HX:=Lib.hid (hNx rfl)
      clear hNx hFn
      go_upto_region 9 with (fail)
      refine wp_region_held_drew (S:=fun w'=>w'.rangeAt w.heap.size 0 (tbCells (.slice a l.length cap) (.slice (some ⟨g1, off1, none⟩) m.length cap2)) ∧ w'.rangeAt g1 (off1 + k * 4) (grCells y) ∧ w'.rangeAt g1 (off1 + i * 4) (grCells x)) (by kernel_rfl) (⟨(fun j v hv=>by rw [Nat.zero_add];exact ((HY.out).drew).at 0 rfl j hv), (elem_rng (HRw.out _ ((HY.out).drew).old) HYk.out), (elem_rng (HRw.out _ ((HY.out).drew).old) HXi.out)⟩) (fun hHeld=>?_)
      refine tk 0 qRfLk5_22 (some 30) (v:=?q101v) (Or.inl ⟨by rfl, ?q101h⟩) hHeld ?q101r
      case q101h=>(intro _ h;clear h;go_simp;try with_reducible rfl)
      try simp only [z0, z1, z2, z3]
      refine tk 1 qRfLk5_23 (some 31) (v:=.slice (some ⟨g1, off1, none⟩) m.length cap2) (Or.inl ⟨by rfl, ?q102h⟩) hHeld ?q102r
      case q102h=>(intro wq hSw;have lq:=(hSw.1) 1 (.slice (some ⟨g1, off1, none⟩) m.length cap2) rfl;simp only [Nat.zero_add] at lq;clear hSw;go_simp;try with_reducible rfl)
      try simp only [z0, z1, z2, z3]
      refine tk 2 qRfLk5_24 (some 32) (v:=?q103v) (Or.inl ⟨by rfl, ?q103h⟩) hHeld ?q103r
      case q103h=>(intro _ h;clear h;go_simp;try with_reducible rfl)
      try simp only [z0, z1, z2, z3]
      refine tk 3 qRfLk5_25 (some 33) (v:=?q104v) (Or.inl ⟨by rfl, ?q104h⟩) hHeld ?q104r
      case q104h=>(intro _ h;clear h;go_simp;try with_reducible rfl)
      try simp only [z0, z1, z2, z3]
      refine tk 4 qRfLk5_26 (some 34) (yieldsIf_load_mid (by rfl) 29 (.tmp 33) rfl g1 (off1 + k * 4) rfl (grCells y) _ (fun _ h=>h.2.1) HUG.out rfl (info_gr)) hHeld ?_
      try simp only [z0, z1, z2, z3]
      refine tk 5 qRfLk5_27 (some 35) (v:=?q106v) (Or.inl ⟨by rfl, ?q106h⟩) hHeld ?q106r
      case q106h=>(intro _ h;clear h;go_simp;try with_reducible rfl)
      try simp only [z0, z1, z2, z3]
      refine tk 6 qRfLk5_28 (some 36) (v:=.slice (some ⟨g1, off1, none⟩) m.length cap2) (Or.inl ⟨by rfl, ?q107h⟩) hHeld ?q107r
      case q107h=>(intro wq hSw;have lq:=(hSw.1) 1 (.slice (some ⟨g1, off1, none⟩) m.length cap2) rfl;simp only [Nat.zero_add] at lq;clear hSw;go_simp;try with_reducible rfl)
      try simp only [z0, z1, z2, z3]
      refine tk 7 qRfLk5_29 (some 37) (v:=?q108v) (Or.inl ⟨by rfl, ?q108h⟩) hHeld ?q108r
      case q108h=>(intro _ h;clear h;go_simp;try with_reducible rfl)
      try simp only [z0, z1, z2, z3]
      refine tk 8 qRfLk5_30 (some 38) (v:=?q109v) (Or.inl ⟨by rfl, ?q109h⟩) hHeld ?q109r
      case q109h=>(intro _ h;clear h;go_simp;try with_reducible rfl)
      try simp only [z0, z1, z2, z3]
      refine tk 9 qRfLk5_31 (some 39) (yieldsIf_load_mid (by rfl) 29 (.tmp 38) rfl g1 (off1 + i * 4) rfl (grCells x) _ (fun _ h=>h.2.2) HUG.out rfl (info_gr)) hHeld ?_
      try simp only [z0, z1, z2, z3]
      refine tn 10 qRfLk5_32 (fun K hK=>?_)
      go_simp
      go_wp2_with (go_at_call 34;refine (HCf.out _).mono ?_;rintro e w21 ⟨rfl, hb⟩)
      have HS21 : Hid (Hp w [.ob (w.heap.size) 25 (tbCells (.slice a l.length cap) (.slice (some ⟨g1, off1, none⟩) m.length cap2))] w21):=((HY.out).drew).calls hb
      refine hK.out _ _ (⟨(fun j v hv=>by rw [Nat.zero_add];exact (HS21.out).at 0 rfl j hv), (elem_rng (HRw.out _ (HS21.out).old) HYk.out), (elem_rng (HRw.out _ (HS21.out).old) HXi.out)⟩) (fun hHeld=>?_)
      clear hK K hb
      try simp only [z0, z1, z2, z3]
      refine wpAnyH_done (by kernel_rfl) ?_ _
      go_wp2_with fail
      go_ret
      exact ⟨by rw [HX.out];rfl, HS21.out.old⟩
     case false =>
      have HFn:=Lib.hid (hFn rfl)
      clear hNx hFn
      go_upto_region 9 with (fail)
      refine wp_region_held_drew (S:=fun w'=>w'.rangeAt w.heap.size 0 (tbCells (.slice a l.length cap) (.slice (some ⟨g1, off1, none⟩) m.length cap2)) ∧ w'.rangeAt g1 (off1 + k * 4) (grCells y) ∧ w'.rangeAt g1 (off1 + i * 4) (grCells x)) (by kernel_rfl) (⟨(fun j v hv=>by rw [Nat.zero_add];exact ((HY.out).drew).at 0 rfl j hv), (elem_rng (HRw.out _ ((HY.out).drew).old) HYk.out), (elem_rng (HRw.out _ ((HY.out).drew).old) HXi.out)⟩) (fun hHeld=>?_)
      refine tk 0 qRfLk5_22 (some 30) (v:=?q151v) (Or.inl ⟨by rfl, ?q151h⟩) hHeld ?q151r
      case q151h=>(intro _ h;clear h;go_simp;try with_reducible rfl)
      try simp only [z0, z1, z2, z3]
      refine tk 1 qRfLk5_23 (some 31) (v:=.slice (some ⟨g1, off1, none⟩) m.length cap2) (Or.inl ⟨by rfl, ?q152h⟩) hHeld ?q152r
      case q152h=>(intro wq hSw;have lq:=(hSw.1) 1 (.slice (some ⟨g1, off1, none⟩) m.length cap2) rfl;simp only [Nat.zero_add] at lq;clear hSw;go_simp;try with_reducible rfl)
      try simp only [z0, z1, z2, z3]
      refine tk 2 qRfLk5_24 (some 32) (v:=?q153v) (Or.inl ⟨by rfl, ?q153h⟩) hHeld ?q153r
      case q153h=>(intro _ h;clear h;go_simp;try with_reducible rfl)
      try simp only [z0, z1, z2, z3]
      refine tk 3 qRfLk5_25 (some 33) (v:=?q154v) (Or.inl ⟨by rfl, ?q154h⟩) hHeld ?q154r
      case q154h=>(intro _ h;clear h;go_simp;try with_reducible rfl)
      try simp only [z0, z1, z2, z3]
      refine tk 4 qRfLk5_26 (some 34) (yieldsIf_load_mid (by rfl) 29 (.tmp 33) rfl g1 (off1 + k * 4) rfl (grCells y) _ (fun _ h=>h.2.1) HUG.out rfl (info_gr)) hHeld ?_
      try simp only [z0, z1, z2, z3]
      refine tk 5 qRfLk5_27 (some 35) (v:=?q156v) (Or.inl ⟨by rfl, ?q156h⟩) hHeld ?q156r
      case q156h=>(intro _ h;clear h;go_simp;try with_reducible rfl)
      try simp only [z0, z1, z2, z3]
      refine tk 6 qRfLk5_28 (some 36) (v:=.slice (some ⟨g1, off1, none⟩) m.length cap2) (Or.inl ⟨by rfl, ?q157h⟩) hHeld ?q157r
      case q157h=>(intro wq hSw;have lq:=(hSw.1) 1 (.slice (some ⟨g1, off1, none⟩) m.length cap2) rfl;simp only [Nat.zero_add] at lq;clear hSw;go_simp;try with_reducible rfl)
      try simp only [z0, z1, z2, z3]
      refine tk 7 qRfLk5_29 (some 37) (v:=?q158v) (Or.inl ⟨by rfl, ?q158h⟩) hHeld ?q158r
      case q158h=>(intro _ h;clear h;go_simp;try with_reducible rfl)
      try simp only [z0, z1, z2, z3]
      refine tk 8 qRfLk5_30 (some 38) (v:=?q159v) (Or.inl ⟨by rfl, ?q159h⟩) hHeld ?q159r
      case q159h=>(intro _ h;clear h;go_simp;try with_reducible rfl)
      try simp only [z0, z1, z2, z3]
      refine tk 9 qRfLk5_31 (some 39) (yieldsIf_load_mid (by rfl) 29 (.tmp 38) rfl g1 (off1 + i * 4) rfl (grCells x) _ (fun _ h=>h.2.2) HUG.out rfl (info_gr)) hHeld ?_
      try simp only [z0, z1, z2, z3]
      refine tn 10 qRfLk5_32 (fun K hK=>?_)
      go_simp
      go_wp2_with (go_at_call 34;refine (HCf.out _).mono ?_;rintro e w21 ⟨rfl, hb⟩)
      have HS21 : Hid (Hp w [.ob (w.heap.size) 25 (tbCells (.slice a l.length cap) (.slice (some ⟨g1, off1, none⟩) m.length cap2))] w21):=((HY.out).drew).calls hb
      refine hK.out _ _ (⟨(fun j v hv=>by rw [Nat.zero_add];exact (HS21.out).at 0 rfl j hv), (elem_rng (HRw.out _ (HS21.out).old) HYk.out), (elem_rng (HRw.out _ (HS21.out).old) HXi.out)⟩) (fun hHeld=>?_)
      clear hK K hb
      try simp only [z0, z1, z2, z3]
      refine wpAnyH_done (by kernel_rfl) ?_ _
      go_wp2_with fail
      go_roundw
      case rel=>exact ⟨k + 1, HLt.out, by go_num, HFn.out, HS21.out⟩
      case measure=>simp [intOf];try (have:=HLt.out;omega)
    ·obtain rfl : k = i:=by omega
     have HX:=Lib.hid (HYs.out HF1.out HF.out)
     clear hlt hk HF
     go_wp2_with fail
     go_ret
     exact ⟨by rw [HX.out];rfl, HY.out.old⟩
end Go.Proofs.Ytooaldglgkjjgaa
/- parts of a list of grants read; what is read, put together -/
namespace Go.Proofs.Ytooaldglgkjjgaa
open Go.RowKit
set_option maxRecDepth 20000

theorem gr_take {a : Option Addr} {cap : Nat} {l : List Gr} {R : List Rng} (h : GrRd (.slice a l.length cap) l R) (k : Nat) (hk : k ≤ l.length) :
    ∃ R', GrRd (.slice a k cap) (l.take k) R' ∧ (∀ W, RdIn W R → RdIn W R') ∧ ∀ r ∈ R', r.1 ∈ R.map (·.1):=by
  obtain ⟨a', cap', e, h2, h3, h4, h5, h6⟩:=h
  obtain ⟨rfl, rfl⟩ : a = a' ∧ cap = cap':=by simpa using e
  have hlen : (l.take k).length = k:=by rw [List.length_take];omega
  rcases Nat.eq_zero_or_pos k with h0 | h0
  · refine ⟨[], ⟨a, cap, by rw [hlen], by rw [grRow_length], by omega, h4, fun h=>by omega, h6⟩, fun W _=>RdIn.nil W, fun r hr=>by cases hr⟩
  · obtain ⟨g, off, rfl, hm⟩:=h5 (by omega)
    refine ⟨[(g, off, grRow (l.take k))], ⟨_, cap, by rw [hlen], by rw [grRow_length], by omega, h4, fun _=>⟨g, off, rfl, List.mem_singleton.2 rfl⟩, h6⟩, fun W hR r hr=>?_, fun r hr=>?_⟩
    · obtain rfl:=List.mem_singleton.1 hr
      obtain ⟨h7, h8⟩:=hR _ hm
      refine ⟨h7, fun j u hu=>h8 j u ?_⟩
      rw [grRow_take] at hu
      rw [List.getElem?_take] at hu
      split at hu
      · exact hu
      · cases hu
    · obtain rfl:=List.mem_singleton.1 hr
      exact List.mem_map.2 ⟨_, hm, rfl⟩
theorem gr_drop {a : Option Addr} {cap : Nat} {l : List Gr} {R : List Rng} (h : GrRd (.slice a l.length cap) l R) (k : Nat) (hk : k ≤ l.length) :
    ∃ R', GrRd (.slice (if cap = k then a else Option.map (fun x=>Addr.add x (k * 4)) a) (l.length - k) (cap - k)) (l.drop k) R' ∧ (∀ W, RdIn W R → RdIn W R') ∧ ∀ r ∈ R', r.1 ∈ R.map (·.1):=by
  obtain ⟨a', cap', e, h2, h3, h4, h5, h6⟩:=h
  obtain ⟨rfl, rfl⟩ : a = a' ∧ cap = cap':=by simpa using e
  have hlen : (l.drop k).length = l.length - k:=List.length_drop ..
  rcases Nat.eq_zero_or_pos (l.length - k) with h0 | h0
  · refine ⟨[], ⟨_, _, by rw [hlen], by rw [grRow_length], by rw [hlen];omega, by omega, fun h=>by omega, fun h=>?_⟩, fun W _=>RdIn.nil W, fun r hr=>by cases hr⟩
    by_cases hc : cap = k
    · omega
    · rw [if_neg hc] at h
      have : a = none:=by simpa using h
      have:=h6 this
      omega
  · obtain ⟨g, off, rfl, hm⟩:=h5 (by omega)
    have hc : ¬ cap = k:=by omega
    rw [if_neg hc]
    refine ⟨[(g, off + k * 4, grRow (l.drop k))], ⟨_, _, by rw [hlen], by rw [grRow_length], by rw [hlen];omega, by omega, fun _=>⟨g, off + k * 4, by rw [Option.map_some, Addr.add_mid], List.mem_singleton.2 rfl⟩, fun h=>by simp at h⟩, fun W hR r hr=>?_, fun r hr=>?_⟩
    · obtain rfl:=List.mem_singleton.1 hr
      obtain ⟨h7, h8⟩:=hR _ hm
      refine ⟨h7, fun j u hu=>?_⟩
      rw [grRow_drop, List.getElem?_drop] at hu
      have:=h8 (k * 4 + j) u hu
      rw [Nat.add_assoc]
      exact this
    · obtain rfl:=List.mem_singleton.1 hr
      exact List.mem_map.2 ⟨_, hm, rfl⟩
theorem Hp.rdmerge {w W : World} {A : List Th} {R S : List Rng} (h : Hp w (A ++ [.rd R, .rd S]) W) : Hp w (A ++ [.rd (R ++ S)]) W:=by
  obtain ⟨ha, _, hc⟩:=List.pairwise_append.1 h.nd
  have h1 : RdIn W R:=h.all (.rd R) (by simp)
  have h2 : RdIn W S:=h.all (.rd S) (by simp)
  refine ⟨h.old, fun x hx=>?_, ?_⟩
  · rcases List.mem_append.1 hx with hx | hx
    · exact h.all x (List.mem_append_left _ hx)
    · obtain rfl:=List.mem_singleton.1 hx
      exact h1.append h2
  · rw [List.pairwise_append]
    refine ⟨ha, List.pairwise_singleton _ _, fun a ham b hb=>?_⟩
    obtain rfl:=List.mem_singleton.1 hb
    have ap1:=hc a ham (.rd R) (by simp)
    have ap2:=hc a ham (.rd S) (by simp)
    refine ⟨fun c hac=>⟨fun hbc=>(by cases hbc), fun hbr=>?_⟩, fun c hbc=>(by cases hbc)⟩
    obtain ⟨r, hr, rfl⟩:=List.mem_map.1 hbr
    rcases List.mem_append.1 hr with hr | hr
    · exact (ap1.1 _ hac).2 (List.mem_map.2 ⟨r, hr, rfl⟩)
    · exact (ap2.1 _ hac).2 (List.mem_map.2 ⟨r, hr, rfl⟩)
theorem Hp.ownrd2 {w W : World} {A : List Th} {v : Value} {e : TypeId} {z n : Nat} {xs : List Value} (h : Hp w (A ++ [.sl v e z n xs]) W) : ∃ R, SlRd v z n xs R ∧ (∀ r ∈ R, w.heap.size ≤ r.1) ∧ Hp w (A ++ [.rd R]) W:=by
  have ho : W.ownsRow w.heap.size e z v n xs:=h.all (.sl v e z n xs) (List.mem_append_right _ (List.mem_singleton.2 rfl))
  obtain ⟨R, h1, h2, h3⟩:=own_reads ho
  obtain ⟨ha, _, hc⟩:=List.pairwise_append.1 h.nd
  refine ⟨R, h1, fun r hr=>(h3 r hr).1, h.old, fun x hx=>?_, ?_⟩
  · rcases List.mem_append.1 hx with hx | hx
    · exact h.all x (List.mem_append_left _ hx)
    · obtain rfl:=List.mem_singleton.1 hx
      exact h2
  · rw [List.pairwise_append]
    refine ⟨ha, List.pairwise_singleton _ _, fun a ham b hb=>?_⟩
    obtain rfl:=List.mem_singleton.1 hb
    have hap:=hc a ham _ (List.mem_singleton.2 rfl)
    refine ⟨fun c hac=>⟨fun hbc=>(by cases hbc), fun hbr=>?_⟩, fun c hbc=>(by cases hbc)⟩
    obtain ⟨r, hr, rfl⟩:=List.mem_map.1 hbr
    exact (hap.1 _ hac).1 (h3 r hr).2
theorem TbRd.mono {h v : Value} {t : Tb} {R S : List Rng} (k : TbRd h v t R) (hs : ∀ r ∈ R, r ∈ S) : TbRd h v t S:=⟨SlRd.mono k.1 hs, SlRd.mono k.2 hs⟩
theorem GrRd.shape {v : Value} {l : List Gr} {R : List Rng} (h : GrRd v l R) : ∃ a c, v = .slice a l.length c ∧ l.length ≤ c ∧ c ≤ maxLen:=by
  obtain ⟨a, c, h1, _, h2, h3, _⟩:=h
  exact ⟨a, c, h1, h2, h3⟩
theorem GrRd.base {a : Option Addr} {c : Nat} {l : List Gr} {R : List Rng} (h : GrRd (.slice a l.length c) l R) (h0 : 0 < l.length) : ∃ g off, a = some ⟨g, off, none⟩ ∧ ∀ W, RdIn W R → W.rangeAt g off (grRow l):=by
  obtain ⟨a', c', h1, _, _, _, h2, _⟩:=h
  obtain ⟨rfl, rfl⟩ : a = a' ∧ c = c':=by simpa using h1
  obtain ⟨g, off, h3, h4⟩:=h2 h0
  exact ⟨g, off, h3, fun W hR=>(hR _ h4).2⟩
theorem wp_load_whole {o : Oper} {a : Act} {w : World} {K : Act → World → Prop} {Q : Exit → Act → World → Prop} (t : TypeId) (x : Operand) (b : Nat) (cs : List Value) (t0 : TypeId) {ds : TypeDesc} (hu : Try.prog.underlying t = some ds) (ho : o.op = .load t x) (hx : a.eval x = .pointer (some ⟨b, 0, none⟩)) (hg : w.heap[b]? = some (.cells cs.toArray t0 (0, 0)))
    (hd : ds.isRow = true) (hi : (Try.prog.info? t).map (·.size) = some cs.length) (h : K (a.put o.dst (.agg cs.toArray)) w) : o.wp Try.prog a w K Q :=
  wp_load_row t x ho b hx t0 cs.toArray (0, 0) ds hg hu (by cases ds <;> simp_all) (by rw [List.size_toArray];exact hi) h
def lkLen (W : World) (b k : Nat) : Nat:=match W.cell? ⟨b, k, none⟩ with | some (.slice _ n _)=>n | _=>0
theorem lkLen_of {W : World} {b k n : Nat} {a : Option Addr} {c : Nat} (h : W.cell? ⟨b, k, none⟩ = some (.slice a n c)) : lkLen W b k = n:=by unfold lkLen;rw [h]
end Go.Proofs.Ytooaldglgkjjgaa
/- the reference's settle -/
namespace Go.Proofs.Ytooaldglgkjjgaa
open Go.RowKit
open Go.Act renaming put → z0
open List renaming setIfInBounds_toArray → z1, set_cons_zero → z2, set_cons_succ → z3
set_option maxRecDepth 20000
set_option linter.unusedSimpArgs false
set_option linter.unusedVariables false

theorem stuck_take {h l : List Gr} {i : Nat} {x : Gr} (hs : Stuck h (l.take i)) (hx : l[i]? = some x) (hn : ableB h (l.take i) x = false) : Stuck h (l.take (i + 1)):=by
 rw [lk_take_snoc hx];exact stuck_snoc hs (ableB_false.1 hn)
theorem split_at {l : List Gr} {i : Nat} {x : Gr} (hx : l[i]? = some x) : l = l.take i ++ x :: l.drop (i + 1):=by
 have hlt:=(List.getElem?_eq_some_iff.1 hx).1
 have:=(List.take_append_drop i l).symm
 rw [List.drop_eq_getElem_cons hlt, (List.getElem?_eq_some_iff.1 hx).2] at this
 exact this
/-- one grant moves -/
theorem moved {u : Tb} {i : Nat} {x : Gr} (hi : TbIn u) (hs : Stuck u.held (u.wait.take i)) (hx : u.wait[i]? = some x) (ha : ableB u.held (u.wait.take i) x = true) :
  TbIn ⟨holdR u.held x, u.wait.take i ++ u.wait.drop (i + 1)⟩ ∧ settleR ⟨holdR u.held x, u.wait.take i ++ u.wait.drop (i + 1)⟩ = settleR u:=by
 obtain ⟨h, l⟩:=u
 simp only at *
 have hi2 : TbIn ⟨h, l.take i ++ x :: l.drop (i + 1)⟩:=by rw [← split_at hx];exact hi
 refine ⟨in_move hi2 (ableB_iff.1 ha), ?_⟩
 rw [← settle_move hi2 hs (ableB_iff.1 ha), ← split_at hx]
abbrev qRfLk6_0 : Oper:={ dst:=some 14, op:=Op.fieldAddr 25 (Operand.tmp 1) 0, type:=0, pos := "ref.go:124", after:=#[], guard:=none }
abbrev qRfLk6_1 : Oper:={ dst:=some 16, op:=Op.fieldAddr 25 (Operand.tmp 1) 1, type:=0, pos := "ref.go:124", after:=#[], guard:=none }
abbrev qRfLk6_2 : Oper:={ dst:=some 17, op:=Op.load 23 (Operand.tmp 16), type:=23, pos := "ref.go:124", after:=#[{ on:=2, ground:=Ground.data }], guard:=none }
abbrev qRfLk6_3 : Oper:={ dst:=some 18, op:=Op.move (Operand.tmp 3), type:=3, pos := "ref.go:124", after:=#[], guard:=none }
abbrev qRfLk6_4 : Oper:={ dst:=some 19, op:=Op.indexAddr 23 (Operand.tmp 17) (Operand.tmp 18), type:=0, pos := "ref.go:124", after:=#[{ on:=3, ground:=Ground.data }, { on:=4, ground:=Ground.data }], guard:=none }
abbrev qRfLk6_5 : Oper:={ dst:=some 20, op:=Op.load 29 (Operand.tmp 19), type:=29, pos := "ref.go:124", after:=#[{ on:=5, ground:=Ground.data }], guard:=none }
abbrev qRfLk6_6 : Oper:={ dst:=some 15, op:=Op.load 23 (Operand.tmp 14), type:=23, pos := "ref.go:124", after:=#[{ on:=0, ground:=Ground.data }], guard:=none }
abbrev qRfLk6_7 : Oper:={ dst:=some 21, op:=Op.call { callee:=Callee.value (Operand.func 76), args:=#[Operand.tmp 15, Operand.tmp 20], argTypes:=#[23, 29] }, type:=23, pos := "ref.go:124", after:=#[{ on:=1, ground:=Ground.data }, { on:=6, ground:=Ground.data }], guard:=none }
abbrev qRfLk6_8 : Oper:={ dst:=some 22, op:=Op.fieldAddr 25 (Operand.tmp 1) 0, type:=0, pos := "ref.go:124", after:=#[{ on:=0, ground:=Ground.phase }, { on:=1, ground:=Ground.phase }, { on:=2, ground:=Ground.phase }, { on:=3, ground:=Ground.phase }, { on:=4, ground:=Ground.phase }, { on:=5, ground:=Ground.phase }, { on:=6, ground:=Ground.phase }, { on:=7, ground:=Ground.phase }], guard:=none }
abbrev qRfLk6_9 : Oper:={ dst:=none, op:=Op.store 23 (Operand.tmp 22) (Operand.tmp 21), type:=0, pos := "ref.go:124", after:=#[{ on:=8, ground:=Ground.data }, { on:=7, ground:=Ground.data }, { on:=7, ground:=Ground.chain }, { on:=0, ground:=Ground.phase }, { on:=1, ground:=Ground.phase }, { on:=2, ground:=Ground.phase }, { on:=3, ground:=Ground.phase }, { on:=4, ground:=Ground.phase }, { on:=5, ground:=Ground.phase }, { on:=6, ground:=Ground.phase }, { on:=7, ground:=Ground.phase }], guard:=none }
abbrev qRfLk6_10 : Oper:={ dst:=some 23, op:=Op.fieldAddr 25 (Operand.tmp 1) 1, type:=0, pos := "ref.go:125", after:=#[], guard:=none }
abbrev qRfLk6_11 : Oper:={ dst:=some 25, op:=Op.move (Operand.tmp 3), type:=3, pos := "ref.go:125", after:=#[], guard:=none }
abbrev qRfLk6_12 : Oper:={ dst:=some 28, op:=Op.fieldAddr 25 (Operand.tmp 1) 1, type:=0, pos := "ref.go:125", after:=#[], guard:=none }
abbrev qRfLk6_13 : Oper:={ dst:=some 30, op:=Op.move (Operand.tmp 3), type:=3, pos := "ref.go:125", after:=#[], guard:=none }
abbrev qRfLk6_14 : Oper:={ dst:=some 31, op:=Op.binOp BinOp.add 3 (Operand.tmp 30) (Operand.const (Value.int IntKind.i64 1)) 3, type:=3, pos := "ref.go:125", after:=#[{ on:=7, ground:=Ground.data }], guard:=none }
abbrev qRfLk6_15 : Oper:={ dst:=some 24, op:=Op.load 23 (Operand.tmp 23), type:=23, pos := "ref.go:125", after:=#[{ on:=0, ground:=Ground.data }], guard:=none }
abbrev qRfLk6_16 : Oper:={ dst:=some 29, op:=Op.load 23 (Operand.tmp 28), type:=23, pos := "ref.go:125", after:=#[{ on:=5, ground:=Ground.data }], guard:=none }
abbrev qRfLk6_17 : Oper:={ dst:=some 26, op:=Op.slice 23 (Operand.tmp 24) none (some (Operand.tmp 25)) none, type:=23, pos := "ref.go:125", after:=#[{ on:=1, ground:=Ground.data }, { on:=2, ground:=Ground.data }], guard:=none }
abbrev qRfLk6_18 : Oper:={ dst:=some 27, op:=Op.call { callee:=Callee.builtin Builtin.append, args:=#[Operand.const (Value.slice none 0 0), Operand.tmp 26], argTypes:=#[23, 23] }, type:=23, pos := "ref.go:125", after:=#[{ on:=3, ground:=Ground.data }], guard:=none }
abbrev qRfLk6_19 : Oper:={ dst:=some 32, op:=Op.slice 23 (Operand.tmp 29) (some (Operand.tmp 31)) none none, type:=23, pos := "ref.go:125", after:=#[{ on:=6, ground:=Ground.data }, { on:=8, ground:=Ground.data }], guard:=none }
abbrev qRfLk6_20 : Oper:={ dst:=some 33, op:=Op.call { callee:=Callee.builtin Builtin.append, args:=#[Operand.tmp 27, Operand.tmp 32], argTypes:=#[23, 23] }, type:=23, pos := "ref.go:125", after:=#[{ on:=4, ground:=Ground.data }, { on:=9, ground:=Ground.data }, { on:=4, ground:=Ground.chain }], guard:=none }
abbrev qRfLk6_21 : Oper:={ dst:=some 34, op:=Op.fieldAddr 25 (Operand.tmp 1) 1, type:=0, pos := "ref.go:125", after:=#[{ on:=0, ground:=Ground.phase }, { on:=1, ground:=Ground.phase }, { on:=2, ground:=Ground.phase }, { on:=3, ground:=Ground.phase }, { on:=4, ground:=Ground.phase }, { on:=5, ground:=Ground.phase }, { on:=6, ground:=Ground.phase }, { on:=7, ground:=Ground.phase }, { on:=8, ground:=Ground.phase }, { on:=9, ground:=Ground.phase }, { on:=10, ground:=Ground.phase }], guard:=none }
abbrev qRfLk6_22 : Oper:={ dst:=none, op:=Op.store 23 (Operand.tmp 34) (Operand.tmp 33), type:=0, pos := "ref.go:125", after:=#[{ on:=11, ground:=Ground.data }, { on:=10, ground:=Ground.data }, { on:=10, ground:=Ground.chain }, { on:=0, ground:=Ground.phase }, { on:=1, ground:=Ground.phase }, { on:=2, ground:=Ground.phase }, { on:=3, ground:=Ground.phase }, { on:=4, ground:=Ground.phase }, { on:=5, ground:=Ground.phase }, { on:=6, ground:=Ground.phase }, { on:=7, ground:=Ground.phase }, { on:=8, ground:=Ground.phase }, { on:=9, ground:=Ground.phase }, { on:=10, ground:=Ground.phase }], guard:=none }
set_option maxHeartbeats 8000000 in
theorem rsettle_any {h v : Value} {t : Tb} {R : List Rng} (w : World) (ht : TbRd h v t R) (hR : RdIn w R) (hin : TbIn t) (hf : t.held.length + t.wait.length ≤ 2000) :
  Calls Try.prog 52 #[.agg (tbCells h v).toArray] w (TbPost w R (settleR t)):=by
 obtain ⟨a, cap, rfl, hnc, hcm⟩:=ht.1.shape
 obtain ⟨a2, cap2, rfl, hnc2, hcm2⟩:=ht.2.shape
 have HT:=Lib.hid ht
 have HR:=Lib.hid hR
 have HIn:=Lib.hid hin
 have HFw:=Lib.hid hf
 have HUX:=Lib.hid under_grs
 have h1:=((Hp.startrd w R hR).put 25 (tbCells (.slice a t.held.length cap) (.slice a2 t.wait.length cap2))).put 25 (tbCells (.slice none 0 0) (.slice none 0 0))
 simp only [World.size_alloc, List.nil_append, List.cons_append] at h1
 have h2:=h1.pull [1, 2, 0] (M:=[.ob w.heap.size 25 (tbCells (.slice a t.held.length cap) (.slice a2 t.wait.length cap2)), .ob (w.heap.size + 1) 25 (tbCells (.slice none 0 0) (.slice none 0 0)), .rd R]) rfl (pull_nd h1.nd [1, 2, 0] rfl (by decide))
 have HS0 : Hid (Hp w [.ob w.heap.size 25 (tbCells (.slice a t.held.length cap) (.slice a2 t.wait.length cap2)), .ob (w.heap.size + 1) 25 (tbCells (.slice none 0 0) (.slice none 0 0)), .rd R] ((w.alloc (.cells (tbCells (.slice a t.held.length cap) (.slice a2 t.wait.length cap2)).toArray 25)).alloc (.cells #[.slice none 0 0, .slice none 0 0] 25))):=h2
 clear h1 h2
 obtain ⟨fsHUG, huHUG⟩:=under_gr
 have HUG:=Lib.hid huHUG
 clear huHUG
 obtain ⟨fsHUK, huHUK⟩:=under_lk
 have HUK:=Lib.hid huHUK
 clear huHUK
 obtain ⟨fsHUT, huHUT⟩:=under_tb
 have HUT:=Lib.hid huHUT
 clear huHUT
 clear ht hR hin hf
 obtain ⟨S, hS⟩ : ∃ S, settleR t = S:=⟨_, rfl⟩
 have HSv:=Lib.hid hS
 rw [hS]
 go_enter Try.func52, Try.ntmps52
 go_upto_region 1 with (fail)
 generalize ((w.alloc (.cells (tbCells (.slice a t.held.length cap) (.slice a2 t.wait.length cap2)).toArray 25)).alloc (.cells #[.slice none 0 0, .slice none 0 0] 25)) = w1 at *
 generalize w.heap.size + 1 = b2 at *
 clear hS
 go_wp2_with fail
 go_loopw [3] (fun iv wr=>∃ (i : Nat) (u : Tb) (a : Option Addr) (cap : Nat) (a2 : Option Addr) (cap2 : Nat) (Q : List Rng), iv = .int .i64 i ∧ i ≤ u.wait.length ∧ TbIn u ∧ settleR u = S ∧ Stuck u.held (u.wait.take i) ∧ u.held.length + u.wait.length ≤ 2000 ∧ TbRd (.slice a u.held.length cap) (.slice a2 u.wait.length cap2) u Q ∧ (∀ r ∈ Q, w.heap.size ≤ r.1 ∨ r.1 ∈ R.map (·.1)) ∧ Hp w [.ob w.heap.size 25 (tbCells (.slice a u.held.length cap) (.slice a2 u.wait.length cap2)), .ob b2 25 (tbCells (.slice none 0 0) (.slice none 0 0)), .rd Q] wr) (fun iv wr=>lkLen wr w.heap.size 1 * 4096 + (lkLen wr w.heap.size 1 - (intOf iv).toNat))
 case atStart=>exact ⟨0, t, a, cap, a2, cap2, R, rfl, Nat.zero_le _, HIn.out, HSv.out, stuck_nil _, HFw.out, HT.out, fun r hr=>.inr (List.mem_map.2 ⟨r, hr, rfl⟩), HS0.out⟩
 case round =>
  clear HS0 HT HSv HIn HFw hnc hcm hnc2 hcm2
  obtain ⟨i, u, a, cap, a2, cap2, Q, rfl, hi, hin, hsv, hst, hfw, hrd, hnew, hs⟩:=hrel
  have HY:=Lib.hid hs
  have HIn:=Lib.hid hin
  have HSv:=Lib.hid hsv
  have HSt:=Lib.hid hst
  have HFw:=Lib.hid hfw
  have HRd:=Lib.hid hrd
  have HNw:=Lib.hid hnew
  have hm1 : (u.wait.length : Int) ≤ 2000:=by omega
  have b1 : wr.cell? ⟨w.heap.size, 1, none⟩ = some (.slice a2 u.wait.length cap2):=hs.at 0 rfl 1 rfl
  have b0 : wr.cell? ⟨w.heap.size, 0, none⟩ = some (.slice a u.held.length cap):=hs.at 0 rfl 0 rfl
  clear hs hin hsv hst hrd hnew
  by_cases hlt : i < u.wait.length
  ·obtain ⟨g1, off1, rfl, hrw⟩:=HRd.out.2.base (by omega)
   have HRw:=Lib.hid hrw
   obtain ⟨x, hx⟩ : ∃ x, u.wait[i]? = some x:=⟨_, List.getElem?_eq_getElem hlt⟩
   have HXi:=Lib.hid hx
   have hii : (i : Int) < (u.wait.length : Int):=by omega
   have hi0 : (0 : Int) ≤ (i : Int):=by omega
   have HLt:=Lib.hid hlt
   have HAb : Hid (∀ W, RdIn W Q → Calls Try.prog 75 #[.agg (tbCells (.slice a u.held.length cap) (.slice (some ⟨g1, off1, none⟩) u.wait.length cap2)).toArray, .int .i64 (i : Int)] W fun e w'=>e = .returned (.bool (ableB u.held (u.wait.take i) x)) ∧ Below W.heap.size W w'):=fun W hR=>rable_any i x W HRd.out hR (HIn.out.good (by have:=HFw.out;omega)) HXi.out
   have hSn:=fun h=>stuck_take HSt.out hx h
   have hMv:=fun h=>moved HIn.out HSt.out hx h
   clear hrw hx hi hlt
   generalize ableB u.held (u.wait.take i) x = ab at *
   have HSn:=Lib.hid hSn
   have HMv:=Lib.hid hMv
   clear hSn hMv
   cases ab
   case false =>
    go_wp2_with fail
    refine (HAb.out _ (HY.out.reads 2 rfl)).mono ?_
    rintro e w3 ⟨rfl, hb⟩
    have HY2:=Lib.hid (HY.out.calls hb)
    have HB1:=Lib.hid b1
    clear HY b0 b1 HAb
    go_wp2_with fail
    go_roundw
    case rel=>exact ⟨i + 1, u, a, cap, _, cap2, Q, by go_num, HLt.out, HIn.out, HSv.out, HSn.out (by first | trivial | rfl), HFw.out, HRd.out, HNw.out, HY2.out⟩
    case measure =>
     have e1:=lkLen_of HB1.out
     have e2:=lkLen_of (HY2.out.at 0 rfl 1 rfl)
     simp only [e1, e2]
     simp [intOf];try (have:=HLt.out;omega)
   case true =>
    obtain ⟨hIn2, hSv2⟩:=HMv.out rfl
    have HIn2:=Lib.hid hIn2
    have HSv2:=Lib.hid (hSv2.trans HSv.out)
    have HHd : Hid (∀ W, RdIn W Q → Calls Try.prog 76 #[.slice a u.held.length cap, .agg (grCells x).toArray] W (GrPost W (holdR u.held x))):=fun W hR=>rhold_any x W HRd.out.1 hR (fun z hz=>(HIn.out.held.ok z hz).good) (by have:=HFw.out;omega) (HIn.out.wait.ok x (List.mem_of_getElem? HXi.out)).1.good HIn.out.held.up
    have HHl : Hid ((holdR u.held x).length ≤ u.held.length + 1):=Lib.hid (hold_len _ _)
    clear hIn2 hSv2 HSn HMv
    obtain ⟨hh, hhe⟩ : ∃ hh, holdR u.held x = hh:=⟨_, rfl⟩
    rw [hhe] at HIn2 HSv2 HHd HHl
    clear hhe
    go_wp2_with fail
    refine (HAb.out _ (HY.out.reads 2 rfl)).mono ?_
    rintro e w3 ⟨rfl, hb⟩
    have HY2:=Lib.hid (HY.out.calls hb)
    have HB1:=Lib.hid (lkLen_of b1)
    have HSz : Hid (w.heap.size ≤ w3.heap.size):=Lib.hid HY2.out.old.size
    clear HY b0 b1 HAb hb
    go_wp2_with fail
    refine wp_region_held_drew (S:=fun w'=>w'.cell? ⟨w.heap.size, 1, none⟩ = some (.slice (some ⟨g1, off1, none⟩) u.wait.length cap2) ∧ w'.rangeAt g1 (off1 + i * 4) (grCells x)) (by kernel_rfl) (⟨(((HY2.out).drew).at 0 rfl 1 rfl), (elem_rng (HRw.out _ (((HY2.out).drew).reads 2 rfl)) HXi.out)⟩) (fun hHeld=>?_)
    refine tk 0 qRfLk6_0 (some 14) (v:=?q1v) (Or.inl ⟨by rfl, ?q1h⟩) hHeld ?q1r
    case q1h=>(intro _ h;clear h;go_simp;try with_reducible rfl)
    try simp only [z0, z1, z2, z3]
    refine tk 2 qRfLk6_1 (some 16) (v:=?q2v) (Or.inl ⟨by rfl, ?q2h⟩) hHeld ?q2r
    case q2h=>(intro _ h;clear h;go_simp;try with_reducible rfl)
    try simp only [z0, z1, z2, z3]
    refine tk 3 qRfLk6_2 (some 17) (v:=.slice (some ⟨g1, off1, none⟩) u.wait.length cap2) (Or.inl ⟨by rfl, ?q3h⟩) hHeld ?q3r
    case q3h=>(intro wq hSw;have lq:=hSw.1;clear hSw;go_simp;try with_reducible rfl)
    try simp only [z0, z1, z2, z3]
    refine tk 4 qRfLk6_3 (some 18) (v:=?q4v) (Or.inl ⟨by rfl, ?q4h⟩) hHeld ?q4r
    case q4h=>(intro _ h;clear h;go_simp;try with_reducible rfl)
    try simp only [z0, z1, z2, z3]
    refine tk 5 qRfLk6_4 (some 19) (v:=?q5v) (Or.inl ⟨by rfl, ?q5h⟩) hHeld ?q5r
    case q5h=>(intro _ h;clear h;go_simp;try with_reducible rfl)
    try simp only [z0, z1, z2, z3]
    refine tk 6 qRfLk6_5 (some 20) (yieldsIf_load_mid (by rfl) 29 (.tmp 19) rfl g1 (off1 + i * 4) rfl (grCells x) _ (fun _ h=>h.2) HUG.out rfl (info_gr)) hHeld ?_
    try simp only [z0, z1, z2, z3]
    refine tn 1 qRfLk6_6 (fun K hK=>?_)
    have q0:=((HY2.out).drew).at 0 rfl 0 rfl
    go_simp
    clear q0
    have HS41 : Hid (Hp w [.ob (w.heap.size) 25 (tbCells (.slice a u.held.length cap) (.slice (some ⟨g1, off1, none⟩) u.wait.length cap2)), .ob b2 25 (tbCells (.slice none 0 0) (.slice none 0 0)), .rd Q] (w3.drew)):=(HY2.out).drew
    refine hK.out _ _ (⟨((HS41.out).at 0 rfl 1 rfl), (elem_rng (HRw.out _ ((HS41.out).reads 2 rfl)) HXi.out)⟩) (fun hHeld=>?_)
    clear hK K
    generalize w3.drew = w41 at *
    try simp only [z0, z1, z2, z3]
    refine tn 7 qRfLk6_7 (fun K hK=>?_)
    go_simp
    go_wp2_with (go_at_call 76;refine (HHd.out _ ((HS41.out).reads 2 rfl)).mono ?_;rintro e w42 ⟨vh, R2, rfl, hrd2, hin2, hnew2, hb⟩)
    have hnew3 : ∀ r ∈ R2, w.heap.size ≤ r.1:=fun r hr=>Nat.le_trans (HS41.out).old.size (hnew2 r hr)
    have HS42 : Hid (Hp w [.ob (w.heap.size) 25 (tbCells (.slice a u.held.length cap) (.slice (some ⟨g1, off1, none⟩) u.wait.length cap2)), .ob b2 25 (tbCells (.slice none 0 0) (.slice none 0 0)), .rd Q, .rd R2] w42):=(HS41.out).addrd hb R2 hin2 (fun r hr=>.inl (hnew2 r hr))
    refine hK.out _ _ (⟨((HS42.out).at 0 rfl 1 rfl), (elem_rng (HRw.out _ ((HS42.out).reads 2 rfl)) HXi.out)⟩) (fun hHeld=>?_)
    clear hK K hb hin2
    try simp only [z0, z1, z2, z3]
    refine tk 8 qRfLk6_8 (some 22) (v:=?q7v) (Or.inl ⟨by rfl, ?q7h⟩) hHeld ?q7r
    case q7h=>(intro _ h;clear h;go_simp;try with_reducible rfl)
    try simp only [z0, z1, z2, z3]
    refine tn 9 qRfLk6_9 (fun K hK=>?_)
    rw [if_pos (by rfl)]
    obtain ⟨a3, c3, rfl, hc3, hm3⟩:=hrd2.shape
    have HH3:=Lib.hid hrd2
    have HN3:=Lib.hid hnew3
    have HC3:=Lib.hid (And.intro hc3 hm3)
    clear hrd2 hnew2 hnew3 hc3 hm3
    have q5:=(HS42.out).at 0 rfl 0 rfl
    have f5:=(HS42.out).frozen 0 rfl 0
    go_simp
    clear q5 f5
    have HS43 : Hid (Hp w [.ob (w.heap.size) 25 (tbCells (.slice a3 hh.length c3) (.slice (some ⟨g1, off1, none⟩) u.wait.length cap2)), .ob b2 25 (tbCells (.slice none 0 0) (.slice none 0 0)), .rd Q, .rd R2] (w42.setCell ⟨w.heap.size, 0, none⟩ (.slice a3 hh.length c3))):=(HS42.out).set 0 rfl 0 (.slice a3 hh.length c3)
    refine hK.out _ _ (⟨((HS43.out).at 0 rfl 1 rfl), (elem_rng (HRw.out _ ((HS43.out).reads 2 rfl)) HXi.out)⟩) (fun hHeld=>?_)
    clear hK K
    generalize (w42.setCell ⟨w.heap.size, 0, none⟩ (.slice a3 hh.length c3)) = w43 at *
    try simp only [z0, z1, z2, z3]
    refine wpAnyH_done (by kernel_rfl) ?_ _
    clear hHeld
    go_wp2_with fail
    obtain ⟨R5, ht5, hi5, hs5⟩:=gr_take HRd.out.2 i (Nat.le_of_lt HLt.out)
    obtain ⟨R6, ht6a, hi6, hs6⟩:=gr_drop HRd.out.2 (i + 1) HLt.out
    have ht6 : GrRd (.slice (if cap2 = i + 1 then some ⟨g1, off1, none⟩ else some ⟨g1, off1 + (i + 1) * 4, none⟩) (u.wait.length - (i + 1)) (cap2 - (i + 1))) (u.wait.drop (i + 1)) R6:=ht6a
    have HT5:=Lib.hid ht5
    have HI5:=Lib.hid hi5
    have HT6:=Lib.hid ht6
    have HI6:=Lib.hid hi6
    have hlw1 : wrap64 ((i : Int) + 1) = ((i + 1 : Nat) : Int):=IntWalk.wrap64_in _ (by omega)
    have hlw2 : IntKind.i64.wrap ((i : Int) + 1) = ((i + 1 : Nat) : Int):=IntWalk.i64_in _ (by omega)
    have hcw : (u.wait.length : Int) ≤ (cap2 : Int):=by have:=HRd.out.2.shape;obtain ⟨_, _, h, h2, _⟩:=this;simp only [Value.slice.injEq] at h;omega
    have hic : (i : Int) ≤ (cap2 : Int):=by omega
    have hi1 : ((i + 1 : Nat) : Int) ≤ (u.wait.length : Int):=by have:=HLt.out;omega
    have hi1c : ((i + 1 : Nat) : Int) ≤ (cap2 : Int):=by omega
    have hi10 : (0 : Int) ≤ ((i + 1 : Nat) : Int):=by omega
    have hil : (i : Int) ≤ (u.wait.length : Int):=by omega
    have hs10 : (0 : Int) ≤ (i : Int) + 1:=by omega
    have hs11 : (i : Int) + 1 ≤ (u.wait.length : Int):=by omega
    have HN0:=Lib.hid (HS43.out.nil 29 4)
    obtain ⟨l6, hl6⟩ : ∃ l6, u.wait.take i ++ u.wait.drop (i + 1) = l6:=⟨_, rfl⟩
    have HL6:=Lib.hid hl6
    rw [hl6] at HIn2 HSv2
    clear hl6
    clear ht5 hi5 hs5 ht6 ht6a hi6 hs6 HS43
    refine wp_region_held_drew (S:=fun w'=>True) (by kernel_rfl) (trivial) (fun hHeld=>?_)
    refine tk 0 qRfLk6_10 (some 23) (v:=?q108v) (Or.inl ⟨by rfl, ?q108h⟩) hHeld ?q108r
    case q108h=>(intro _ h;clear h;go_simp;try with_reducible rfl)
    try simp only [z0, z1, z2, z3]
    refine tk 2 qRfLk6_11 (some 25) (v:=?q109v) (Or.inl ⟨by rfl, ?q109h⟩) hHeld ?q109r
    case q109h=>(intro _ h;clear h;go_simp;try with_reducible rfl)
    try simp only [z0, z1, z2, z3]
    refine tk 5 qRfLk6_12 (some 28) (v:=?q110v) (Or.inl ⟨by rfl, ?q110h⟩) hHeld ?q110r
    case q110h=>(intro _ h;clear h;go_simp;try with_reducible rfl)
    try simp only [z0, z1, z2, z3]
    refine tk 7 qRfLk6_13 (some 30) (v:=?q111v) (Or.inl ⟨by rfl, ?q111h⟩) hHeld ?q111r
    case q111h=>(intro _ h;clear h;go_simp;try with_reducible rfl)
    try simp only [z0, z1, z2, z3]
    refine tk 8 qRfLk6_14 (some 31) (v:=?q112v) (Or.inl ⟨by rfl, ?q112h⟩) hHeld ?q112r
    case q112h=>(intro _ h;clear h;go_simp;try with_reducible rfl)
    try simp only [z0, z1, z2, z3]
    refine wpAnyH_ready (rs:=[1, 6]) (by kernel_rfl) (by simp) ?_
    refine AllReadyH.cons (o:=qRfLk6_15) rfl (fun K hK=>?_) (AllReadyH.cons (o:=qRfLk6_16) rfl (fun K hK=>?_) (AllReadyH.nil))
    ·have q0:=((HN0.out).drew).at 0 rfl 1 rfl
     go_simp
     clear q0
     have HS44 : Hid (Hp w [.ob (w.heap.size) 25 (tbCells (.slice a3 hh.length c3) (.slice (some ⟨g1, off1, none⟩) u.wait.length cap2)), .ob b2 25 (tbCells (.slice none 0 0) (.slice none 0 0)), .rd Q, .rd R2, .sl ((.slice none 0 0)) 29 4 (0) ([])] (w43.drew)):=(HN0.out).drew
     refine hK.out _ _ (trivial) (fun hHeld=>?_)
     clear hK K
     generalize w43.drew = w44 at *
     try simp only [z0, z1, z2, z3]
     refine tk 3 qRfLk6_17 (some 26) (v:=.slice (some ⟨g1, off1, none⟩) i cap2) (Or.inl ⟨by rfl, ?q113h⟩) hHeld ?q113r
     case q113h=>(intro _ h;clear h;go_simp;try with_reducible rfl)
     try simp only [z0, z1, z2, z3]
     refine wpAnyH_ready (rs:=[4, 6]) (by kernel_rfl) (by simp) ?_
     refine AllReadyH.cons (o:=qRfLk6_18) rfl (fun K hK=>?_) (AllReadyH.cons (o:=qRfLk6_16) rfl (fun K hK=>?_) (AllReadyH.nil))
     ·rw [if_pos (by rfl)]
      refine wp_append_sl (HS44.out) (.const (.slice none 0 0)) (.tmp 26) 23 rfl 4 (v:=.slice none 0 0) (n:=0) (xs:=[]) rfl (xv:=.slice (some ⟨g1, off1, none⟩) i cap2) (m:=(u.wait.take i).length) (ys:=grRow (u.wait.take i)) (R:=R5) HT5.out (HI5.out _ ((HS44.out).reads 2 rfl)) HUX.out elem_gr rfl rfl (one_grs _) (by rw [List.length_take];omega) ?_
      intro v5 w45 hs
      have hs2 : Hp w [.ob (w.heap.size) 25 (tbCells (.slice a3 hh.length c3) (.slice (some ⟨g1, off1, none⟩) u.wait.length cap2)), .ob b2 25 (tbCells (.slice none 0 0) (.slice none 0 0)), .rd Q, .rd R2, .sl v5 29 4 ((u.wait.take i).length) (grRow (u.wait.take i))] w45:=by
       have h9:=hs
       simp only [Nat.zero_add, List.nil_append] at h9
       exact h9
      clear hs
      have HS45:=Lib.hid hs2
      refine hK.out _ _ (trivial) (fun hHeld=>?_)
      clear hK K hs2
      try simp only [z0, z1, z2, z3]
      refine tn 6 qRfLk6_16 (fun K hK=>?_)
      have q0:=(HS45.out).at 0 rfl 1 rfl
      go_simp
      clear q0
      have HS46:=HS45
      refine hK.out _ _ (trivial) (fun hHeld=>?_)
      clear hK K
      try simp only [z0, z1, z2, z3]
      refine tk 9 qRfLk6_19 (some 32) (v:=.slice (if cap2 = i + 1 then some ⟨g1, off1, none⟩ else some ⟨g1, off1 + (i + 1) * 4, none⟩) (u.wait.length - (i + 1)) (cap2 - (i + 1))) (Or.inl ⟨by rfl, ?q114h⟩) hHeld ?q114r
      case q114h=>(intro _ h;clear h;go_simp;try with_reducible rfl)
      try simp only [z0, z1, z2, z3]
      refine tn 10 qRfLk6_20 (fun K hK=>?_)
      rw [if_pos (by rfl)]
      refine wp_append_sl (HS46.out) (.tmp 27) (.tmp 32) 23 rfl 4 (v:=v5) (n:=(u.wait.take i).length) (xs:=grRow (u.wait.take i)) rfl (xv:=.slice (if cap2 = i + 1 then some ⟨g1, off1, none⟩ else some ⟨g1, off1 + (i + 1) * 4, none⟩) (u.wait.length - (i + 1)) (cap2 - (i + 1))) (m:=(u.wait.drop (i + 1)).length) (ys:=grRow (u.wait.drop (i + 1))) (R:=R6) HT6.out (HI6.out _ ((HS46.out).reads 2 rfl)) HUX.out elem_gr rfl rfl (one_grs _) (by rw [List.length_take, List.length_drop];omega) ?_
      intro v6 w46 hs
      have hs2 : Hp w [.ob (w.heap.size) 25 (tbCells (.slice a3 hh.length c3) (.slice (some ⟨g1, off1, none⟩) u.wait.length cap2)), .ob b2 25 (tbCells (.slice none 0 0) (.slice none 0 0)), .rd Q, .rd R2, .sl v6 29 4 (l6.length) (grRow l6)] w46:=by
       rw [← HL6.out, grRow_append, List.length_append]
       exact hs
      clear hs
      have HS47:=Lib.hid hs2
      refine hK.out _ _ (trivial) (fun hHeld=>?_)
      clear hK K hs2
      try simp only [z0, z1, z2, z3]
      refine tk 11 qRfLk6_21 (some 34) (v:=?q115v) (Or.inl ⟨by rfl, ?q115h⟩) hHeld ?q115r
      case q115h=>(intro _ h;clear h;go_simp;try with_reducible rfl)
      try simp only [z0, z1, z2, z3]
      refine tn 12 qRfLk6_22 (fun K hK=>?_)
      rw [if_pos (by rfl)]
      obtain ⟨a6, c6, rfl⟩:=own_slice ((HS47.out).own 4 rfl)
      have q5:=(HS47.out).at 0 rfl 1 rfl
      have f5:=(HS47.out).frozen 0 rfl 1
      go_simp
      clear q5 f5
      have HS48 : Hid (Hp w [.ob (w.heap.size) 25 (tbCells (.slice a3 hh.length c3) (.slice a6 l6.length c6)), .ob b2 25 (tbCells (.slice none 0 0) (.slice none 0 0)), .rd Q, .rd R2, .sl ((.slice a6 l6.length c6)) 29 4 (l6.length) (grRow l6)] (w46.setCell ⟨w.heap.size, 1, none⟩ (.slice a6 l6.length c6))):=(HS47.out).set 0 rfl 1 (.slice a6 l6.length c6)
      refine hK.out _ _ (trivial) (fun hHeld=>?_)
      clear hK K
      generalize (w46.setCell ⟨w.heap.size, 1, none⟩ (.slice a6 l6.length c6)) = w47 at *
      try simp only [z0, z1, z2, z3]
      refine wpAnyH_done (by kernel_rfl) ?_ _
      clear hHeld
      obtain ⟨R7, h7, hn7, hs7⟩:=Hp.ownrd2 (A:=[.ob (w.heap.size) 25 (tbCells (.slice a3 hh.length c3) (.slice a6 l6.length c6)), .ob b2 25 (tbCells (.slice none 0 0) (.slice none 0 0)), .rd Q, .rd R2]) HS48.out
      have hm8:=hs7.pull [0, 1, 2, 3, 4] (M:=[.ob (w.heap.size) 25 (tbCells (.slice a3 hh.length c3) (.slice a6 l6.length c6)), .ob b2 25 (tbCells (.slice none 0 0) (.slice none 0 0)), .rd Q, .rd R2] ++ [.rd R7]) rfl hs7.nd
      have hm9:=Hp.rdmerge (A:=[.ob (w.heap.size) 25 (tbCells (.slice a3 hh.length c3) (.slice a6 l6.length c6)), .ob b2 25 (tbCells (.slice none 0 0) (.slice none 0 0)), .rd Q]) hs7
      have hm10:=Hp.rdmerge (A:=[.ob (w.heap.size) 25 (tbCells (.slice a3 hh.length c3) (.slice a6 l6.length c6)), .ob b2 25 (tbCells (.slice none 0 0) (.slice none 0 0))]) hm9
      have HY9:=Lib.hid hm10
      have HR7:=Lib.hid h7
      have HN7:=Lib.hid hn7
      have HB9:=Lib.hid (lkLen_of (HY9.out.at 0 rfl 1 rfl))
      clear hs7 hm8 hm9 hm10 h7 hn7 HS48
      go_wp2_with fail
      go_roundw
      case rel =>
       refine ⟨0, ⟨hh, l6⟩, a3, c3, a6, c6, Q ++ (R2 ++ R7), by go_num, Nat.zero_le _, HIn2.out, HSv2.out, stuck_nil _, ?_, ?_, ?_, HY9.out⟩
       ·have h1:=HHl.out
        have h2:=HFw.out
        have h3:=HLt.out
        have h4:=congrArg List.length HL6.out
        simp only [List.length_append, List.length_take, List.length_drop] at h4 ⊢
        omega
       ·exact ⟨SlRd.mono HH3.out (fun r hr=>by simp [hr]), SlRd.mono HR7.out (fun r hr=>by simp [hr])⟩
       ·intro r hr
        rcases List.mem_append.1 hr with hr | hr
        ·exact HNw.out r hr
        ·rcases List.mem_append.1 hr with hr | hr
         ·exact .inl (HN3.out r hr)
         ·exact .inl (HN7.out r hr)
      case measure =>
       rw [HB1.out, HB9.out]
       have h3:=HLt.out
       have h4:=congrArg List.length HL6.out
       simp only [List.length_append, List.length_take, List.length_drop] at h4
       simp [intOf]
       omega
     ·have q0:=(HS44.out).at 0 rfl 1 rfl
      go_simp
      clear q0
      have HS45:=HS44
      refine hK.out _ _ (trivial) (fun hHeld=>?_)
      clear hK K
      try simp only [z0, z1, z2, z3]
      refine tk 9 qRfLk6_19 (some 32) (v:=.slice (if cap2 = i + 1 then some ⟨g1, off1, none⟩ else some ⟨g1, off1 + (i + 1) * 4, none⟩) (u.wait.length - (i + 1)) (cap2 - (i + 1))) (Or.inl ⟨by rfl, ?q116h⟩) hHeld ?q116r
      case q116h=>(intro _ h;clear h;go_simp;try with_reducible rfl)
      try simp only [z0, z1, z2, z3]
      refine tn 4 qRfLk6_18 (fun K hK=>?_)
      rw [if_pos (by rfl)]
      refine wp_append_sl (HS45.out) (.const (.slice none 0 0)) (.tmp 26) 23 rfl 4 (v:=.slice none 0 0) (n:=0) (xs:=[]) rfl (xv:=.slice (some ⟨g1, off1, none⟩) i cap2) (m:=(u.wait.take i).length) (ys:=grRow (u.wait.take i)) (R:=R5) HT5.out (HI5.out _ ((HS45.out).reads 2 rfl)) HUX.out elem_gr rfl rfl (one_grs _) (by rw [List.length_take];omega) ?_
      intro v5 w45 hs
      have hs2 : Hp w [.ob (w.heap.size) 25 (tbCells (.slice a3 hh.length c3) (.slice (some ⟨g1, off1, none⟩) u.wait.length cap2)), .ob b2 25 (tbCells (.slice none 0 0) (.slice none 0 0)), .rd Q, .rd R2, .sl v5 29 4 ((u.wait.take i).length) (grRow (u.wait.take i))] w45:=by
       have h9:=hs
       simp only [Nat.zero_add, List.nil_append] at h9
       exact h9
      clear hs
      have HS46:=Lib.hid hs2
      refine hK.out _ _ (trivial) (fun hHeld=>?_)
      clear hK K hs2
      try simp only [z0, z1, z2, z3]
      refine tn 10 qRfLk6_20 (fun K hK=>?_)
      rw [if_pos (by rfl)]
      refine wp_append_sl (HS46.out) (.tmp 27) (.tmp 32) 23 rfl 4 (v:=v5) (n:=(u.wait.take i).length) (xs:=grRow (u.wait.take i)) rfl (xv:=.slice (if cap2 = i + 1 then some ⟨g1, off1, none⟩ else some ⟨g1, off1 + (i + 1) * 4, none⟩) (u.wait.length - (i + 1)) (cap2 - (i + 1))) (m:=(u.wait.drop (i + 1)).length) (ys:=grRow (u.wait.drop (i + 1))) (R:=R6) HT6.out (HI6.out _ ((HS46.out).reads 2 rfl)) HUX.out elem_gr rfl rfl (one_grs _) (by rw [List.length_take, List.length_drop];omega) ?_
      intro v6 w46 hs
      have hs2 : Hp w [.ob (w.heap.size) 25 (tbCells (.slice a3 hh.length c3) (.slice (some ⟨g1, off1, none⟩) u.wait.length cap2)), .ob b2 25 (tbCells (.slice none 0 0) (.slice none 0 0)), .rd Q, .rd R2, .sl v6 29 4 (l6.length) (grRow l6)] w46:=by
       rw [← HL6.out, grRow_append, List.length_append]
       exact hs
      clear hs
      have HS47:=Lib.hid hs2
      refine hK.out _ _ (trivial) (fun hHeld=>?_)
      clear hK K hs2
      try simp only [z0, z1, z2, z3]
      refine tk 11 qRfLk6_21 (some 34) (v:=?q117v) (Or.inl ⟨by rfl, ?q117h⟩) hHeld ?q117r
      case q117h=>(intro _ h;clear h;go_simp;try with_reducible rfl)
      try simp only [z0, z1, z2, z3]
      refine tn 12 qRfLk6_22 (fun K hK=>?_)
      rw [if_pos (by rfl)]
      obtain ⟨a6, c6, rfl⟩:=own_slice ((HS47.out).own 4 rfl)
      have q5:=(HS47.out).at 0 rfl 1 rfl
      have f5:=(HS47.out).frozen 0 rfl 1
      go_simp
      clear q5 f5
      have HS48 : Hid (Hp w [.ob (w.heap.size) 25 (tbCells (.slice a3 hh.length c3) (.slice a6 l6.length c6)), .ob b2 25 (tbCells (.slice none 0 0) (.slice none 0 0)), .rd Q, .rd R2, .sl ((.slice a6 l6.length c6)) 29 4 (l6.length) (grRow l6)] (w46.setCell ⟨w.heap.size, 1, none⟩ (.slice a6 l6.length c6))):=(HS47.out).set 0 rfl 1 (.slice a6 l6.length c6)
      refine hK.out _ _ (trivial) (fun hHeld=>?_)
      clear hK K
      generalize (w46.setCell ⟨w.heap.size, 1, none⟩ (.slice a6 l6.length c6)) = w47 at *
      try simp only [z0, z1, z2, z3]
      refine wpAnyH_done (by kernel_rfl) ?_ _
      clear hHeld
      obtain ⟨R7, h7, hn7, hs7⟩:=Hp.ownrd2 (A:=[.ob (w.heap.size) 25 (tbCells (.slice a3 hh.length c3) (.slice a6 l6.length c6)), .ob b2 25 (tbCells (.slice none 0 0) (.slice none 0 0)), .rd Q, .rd R2]) HS48.out
      have hm8:=hs7.pull [0, 1, 2, 3, 4] (M:=[.ob (w.heap.size) 25 (tbCells (.slice a3 hh.length c3) (.slice a6 l6.length c6)), .ob b2 25 (tbCells (.slice none 0 0) (.slice none 0 0)), .rd Q, .rd R2] ++ [.rd R7]) rfl hs7.nd
      have hm9:=Hp.rdmerge (A:=[.ob (w.heap.size) 25 (tbCells (.slice a3 hh.length c3) (.slice a6 l6.length c6)), .ob b2 25 (tbCells (.slice none 0 0) (.slice none 0 0)), .rd Q]) hs7
      have hm10:=Hp.rdmerge (A:=[.ob (w.heap.size) 25 (tbCells (.slice a3 hh.length c3) (.slice a6 l6.length c6)), .ob b2 25 (tbCells (.slice none 0 0) (.slice none 0 0))]) hm9
      have HY9:=Lib.hid hm10
      have HR7:=Lib.hid h7
      have HN7:=Lib.hid hn7
      have HB9:=Lib.hid (lkLen_of (HY9.out.at 0 rfl 1 rfl))
      clear hs7 hm8 hm9 hm10 h7 hn7 HS48
      go_wp2_with fail
      go_roundw
      case rel =>
       refine ⟨0, ⟨hh, l6⟩, a3, c3, a6, c6, Q ++ (R2 ++ R7), by go_num, Nat.zero_le _, HIn2.out, HSv2.out, stuck_nil _, ?_, ?_, ?_, HY9.out⟩
       ·have h1:=HHl.out
        have h2:=HFw.out
        have h3:=HLt.out
        have h4:=congrArg List.length HL6.out
        simp only [List.length_append, List.length_take, List.length_drop] at h4 ⊢
        omega
       ·exact ⟨SlRd.mono HH3.out (fun r hr=>by simp [hr]), SlRd.mono HR7.out (fun r hr=>by simp [hr])⟩
       ·intro r hr
        rcases List.mem_append.1 hr with hr | hr
        ·exact HNw.out r hr
        ·rcases List.mem_append.1 hr with hr | hr
         ·exact .inl (HN3.out r hr)
         ·exact .inl (HN7.out r hr)
      case measure =>
       rw [HB1.out, HB9.out]
       have h3:=HLt.out
       have h4:=congrArg List.length HL6.out
       simp only [List.length_append, List.length_take, List.length_drop] at h4
       simp [intOf]
       omega
    ·have q0:=((HN0.out).drew).at 0 rfl 1 rfl
     go_simp
     clear q0
     have HS44 : Hid (Hp w [.ob (w.heap.size) 25 (tbCells (.slice a3 hh.length c3) (.slice (some ⟨g1, off1, none⟩) u.wait.length cap2)), .ob b2 25 (tbCells (.slice none 0 0) (.slice none 0 0)), .rd Q, .rd R2, .sl ((.slice none 0 0)) 29 4 (0) ([])] (w43.drew)):=(HN0.out).drew
     refine hK.out _ _ (trivial) (fun hHeld=>?_)
     clear hK K
     generalize w43.drew = w44 at *
     try simp only [z0, z1, z2, z3]
     refine tk 9 qRfLk6_19 (some 32) (v:=.slice (if cap2 = i + 1 then some ⟨g1, off1, none⟩ else some ⟨g1, off1 + (i + 1) * 4, none⟩) (u.wait.length - (i + 1)) (cap2 - (i + 1))) (Or.inl ⟨by rfl, ?q118h⟩) hHeld ?q118r
     case q118h=>(intro _ h;clear h;go_simp;try with_reducible rfl)
     try simp only [z0, z1, z2, z3]
     refine tn 1 qRfLk6_15 (fun K hK=>?_)
     have q0:=(HS44.out).at 0 rfl 1 rfl
     go_simp
     clear q0
     have HS45:=HS44
     refine hK.out _ _ (trivial) (fun hHeld=>?_)
     clear hK K
     try simp only [z0, z1, z2, z3]
     refine tk 3 qRfLk6_17 (some 26) (v:=.slice (some ⟨g1, off1, none⟩) i cap2) (Or.inl ⟨by rfl, ?q119h⟩) hHeld ?q119r
     case q119h=>(intro _ h;clear h;go_simp;try with_reducible rfl)
     try simp only [z0, z1, z2, z3]
     refine tn 4 qRfLk6_18 (fun K hK=>?_)
     rw [if_pos (by rfl)]
     refine wp_append_sl (HS45.out) (.const (.slice none 0 0)) (.tmp 26) 23 rfl 4 (v:=.slice none 0 0) (n:=0) (xs:=[]) rfl (xv:=.slice (some ⟨g1, off1, none⟩) i cap2) (m:=(u.wait.take i).length) (ys:=grRow (u.wait.take i)) (R:=R5) HT5.out (HI5.out _ ((HS45.out).reads 2 rfl)) HUX.out elem_gr rfl rfl (one_grs _) (by rw [List.length_take];omega) ?_
     intro v5 w45 hs
     have hs2 : Hp w [.ob (w.heap.size) 25 (tbCells (.slice a3 hh.length c3) (.slice (some ⟨g1, off1, none⟩) u.wait.length cap2)), .ob b2 25 (tbCells (.slice none 0 0) (.slice none 0 0)), .rd Q, .rd R2, .sl v5 29 4 ((u.wait.take i).length) (grRow (u.wait.take i))] w45:=by
      have h9:=hs
      simp only [Nat.zero_add, List.nil_append] at h9
      exact h9
     clear hs
     have HS46:=Lib.hid hs2
     refine hK.out _ _ (trivial) (fun hHeld=>?_)
     clear hK K hs2
     try simp only [z0, z1, z2, z3]
     refine tn 10 qRfLk6_20 (fun K hK=>?_)
     rw [if_pos (by rfl)]
     refine wp_append_sl (HS46.out) (.tmp 27) (.tmp 32) 23 rfl 4 (v:=v5) (n:=(u.wait.take i).length) (xs:=grRow (u.wait.take i)) rfl (xv:=.slice (if cap2 = i + 1 then some ⟨g1, off1, none⟩ else some ⟨g1, off1 + (i + 1) * 4, none⟩) (u.wait.length - (i + 1)) (cap2 - (i + 1))) (m:=(u.wait.drop (i + 1)).length) (ys:=grRow (u.wait.drop (i + 1))) (R:=R6) HT6.out (HI6.out _ ((HS46.out).reads 2 rfl)) HUX.out elem_gr rfl rfl (one_grs _) (by rw [List.length_take, List.length_drop];omega) ?_
     intro v6 w46 hs
     have hs2 : Hp w [.ob (w.heap.size) 25 (tbCells (.slice a3 hh.length c3) (.slice (some ⟨g1, off1, none⟩) u.wait.length cap2)), .ob b2 25 (tbCells (.slice none 0 0) (.slice none 0 0)), .rd Q, .rd R2, .sl v6 29 4 (l6.length) (grRow l6)] w46:=by
      rw [← HL6.out, grRow_append, List.length_append]
      exact hs
     clear hs
     have HS47:=Lib.hid hs2
     refine hK.out _ _ (trivial) (fun hHeld=>?_)
     clear hK K hs2
     try simp only [z0, z1, z2, z3]
     refine tk 11 qRfLk6_21 (some 34) (v:=?q120v) (Or.inl ⟨by rfl, ?q120h⟩) hHeld ?q120r
     case q120h=>(intro _ h;clear h;go_simp;try with_reducible rfl)
     try simp only [z0, z1, z2, z3]
     refine tn 12 qRfLk6_22 (fun K hK=>?_)
     rw [if_pos (by rfl)]
     obtain ⟨a6, c6, rfl⟩:=own_slice ((HS47.out).own 4 rfl)
     have q5:=(HS47.out).at 0 rfl 1 rfl
     have f5:=(HS47.out).frozen 0 rfl 1
     go_simp
     clear q5 f5
     have HS48 : Hid (Hp w [.ob (w.heap.size) 25 (tbCells (.slice a3 hh.length c3) (.slice a6 l6.length c6)), .ob b2 25 (tbCells (.slice none 0 0) (.slice none 0 0)), .rd Q, .rd R2, .sl ((.slice a6 l6.length c6)) 29 4 (l6.length) (grRow l6)] (w46.setCell ⟨w.heap.size, 1, none⟩ (.slice a6 l6.length c6))):=(HS47.out).set 0 rfl 1 (.slice a6 l6.length c6)
     refine hK.out _ _ (trivial) (fun hHeld=>?_)
     clear hK K
     generalize (w46.setCell ⟨w.heap.size, 1, none⟩ (.slice a6 l6.length c6)) = w47 at *
     try simp only [z0, z1, z2, z3]
     refine wpAnyH_done (by kernel_rfl) ?_ _
     clear hHeld
     obtain ⟨R7, h7, hn7, hs7⟩:=Hp.ownrd2 (A:=[.ob (w.heap.size) 25 (tbCells (.slice a3 hh.length c3) (.slice a6 l6.length c6)), .ob b2 25 (tbCells (.slice none 0 0) (.slice none 0 0)), .rd Q, .rd R2]) HS48.out
     have hm8:=hs7.pull [0, 1, 2, 3, 4] (M:=[.ob (w.heap.size) 25 (tbCells (.slice a3 hh.length c3) (.slice a6 l6.length c6)), .ob b2 25 (tbCells (.slice none 0 0) (.slice none 0 0)), .rd Q, .rd R2] ++ [.rd R7]) rfl hs7.nd
     have hm9:=Hp.rdmerge (A:=[.ob (w.heap.size) 25 (tbCells (.slice a3 hh.length c3) (.slice a6 l6.length c6)), .ob b2 25 (tbCells (.slice none 0 0) (.slice none 0 0)), .rd Q]) hs7
     have hm10:=Hp.rdmerge (A:=[.ob (w.heap.size) 25 (tbCells (.slice a3 hh.length c3) (.slice a6 l6.length c6)), .ob b2 25 (tbCells (.slice none 0 0) (.slice none 0 0))]) hm9
     have HY9:=Lib.hid hm10
     have HR7:=Lib.hid h7
     have HN7:=Lib.hid hn7
     have HB9:=Lib.hid (lkLen_of (HY9.out.at 0 rfl 1 rfl))
     clear hs7 hm8 hm9 hm10 h7 hn7 HS48
     go_wp2_with fail
     go_roundw
     case rel =>
      refine ⟨0, ⟨hh, l6⟩, a3, c3, a6, c6, Q ++ (R2 ++ R7), by go_num, Nat.zero_le _, HIn2.out, HSv2.out, stuck_nil _, ?_, ?_, ?_, HY9.out⟩
      ·have h1:=HHl.out
       have h2:=HFw.out
       have h3:=HLt.out
       have h4:=congrArg List.length HL6.out
       simp only [List.length_append, List.length_take, List.length_drop] at h4 ⊢
       omega
      ·exact ⟨SlRd.mono HH3.out (fun r hr=>by simp [hr]), SlRd.mono HR7.out (fun r hr=>by simp [hr])⟩
      ·intro r hr
       rcases List.mem_append.1 hr with hr | hr
       ·exact HNw.out r hr
       ·rcases List.mem_append.1 hr with hr | hr
        ·exact .inl (HN3.out r hr)
        ·exact .inl (HN7.out r hr)
     case measure =>
      rw [HB1.out, HB9.out]
      have h3:=HLt.out
      have h4:=congrArg List.length HL6.out
      simp only [List.length_append, List.length_take, List.length_drop] at h4
      simp [intOf]
      omega
  ·obtain rfl : i = u.wait.length:=by omega
   have HE : Hid (S = u):=Lib.hid (by have h1:=HSv.out;have h2:=HSt.out;rw [List.take_length] at h2;rw [← h1, settle_id h2])
   clear hlt hi
   go_upto_region 8 with (fail)
   go_wp2_with (first | ((with_reducible refine wpList_load_ob 25 (.tmp 1) (w.heap.size) (tbCells (.slice a u.held.length cap) (.slice a2 u.wait.length cap2)) 25 HUT.out ?_ ?_ ?_ ?_ ?_);(exact rfl);(exact (HY.out).get 0 rfl);(exact rfl);(exact info_tb);simp only [z0, z1, z2, z3]) | ((with_reducible refine wpList_store_ob 25 (.tmp 2) b2 (tbCells (.slice a u.held.length cap) (.slice a2 u.wait.length cap2)) (tbCells (.slice none 0 0) (.slice none 0 0)) 25 ?_ ?_ ?_ ?_ ?_ ?_ ?_);(exact rfl);(exact rfl);(exact (HY.out).get 1 rfl);(exact info_tb);(exact rfl);(exact (oneCell_tb _ _ _ _ _ _));skip))
   refine bodyPost_ret (results_ob Try.results52 _ _ b2 (tbCells (.slice a u.held.length cap) (.slice a2 u.wait.length cap2)) 25 _ rfl (((HY.out).row 1 rfl (tbCells (.slice a u.held.length cap) (.slice a2 u.wait.length cap2))).get 1 rfl) HUT.out rfl info_tb) rfl ?_
   rw [HE.out]
   exact ⟨_, _, Q, rfl, HRd.out, ((HY.out).row 1 rfl (tbCells (.slice a u.held.length cap) (.slice a2 u.wait.length cap2))).reads 2 rfl, HNw.out, ((HY.out).row 1 rfl (tbCells (.slice a u.held.length cap) (.slice a2 u.wait.length cap2))).old⟩
end Go.Proofs.Ytooaldglgkjjgaa
/- the reference's Mode, Waiting, place and Same -/
namespace Go.Proofs.Ytooaldglgkjjgaa
open Go.RowKit
open Go.Act renaming put → z0
open List renaming setIfInBounds_toArray → z1, set_cons_zero → z2, set_cons_succ → z3
set_option maxRecDepth 20000
set_option linter.unusedSimpArgs false
set_option linter.unusedVariables false

theorem wfind_first {l : List Gr} {i : Nat} {tx : Int} {x : Gr} (h : ∀ q, q < i → ∀ z, l[q]? = some z → z.tx ≠ tx) (hx : l[i]? = some x) (hk : x.tx = tx) : wfind l tx = some x:=by
 have hlt:=(List.getElem?_eq_some_iff.1 hx).1
 have e : l = l.take i ++ x :: l.drop (i + 1):=split_at hx
 unfold wfind
 rw [e, List.find?_append, List.find?_cons, decide_eq_true hk]
 have : (l.take i).find? (fun x=>decide (x.tx = tx)) = none:=by
  rw [List.find?_eq_none]
  intro z hz
  have:=mem_take_of (P:=fun z=>z.tx ≠ tx) h z hz
  simpa using this
 rw [this];rfl
theorem wfind_last {l : List Gr} {tx : Int} (h : ∀ q, q < l.length → ∀ z, l[q]? = some z → z.tx ≠ tx) : wfind l tx = none:=by
 refine wfind_none_of (fun x hx=>?_)
 obtain ⟨q, hq, rfl⟩:=List.getElem_of_mem hx
 exact h q hq _ (List.getElem?_eq_getElem hq)
set_option maxHeartbeats 4000000 in
theorem rWaiting_any {h v : Value} {t : Tb} {R : List Rng} (tx : Int) (w : World) (ht : TbRd h v t R) (hR : RdIn w R) (hg : GoodTb t) :
  Calls Try.prog 33 #[.agg (tbCells h v).toArray, .int .i64 tx] w fun e w'=>e = .returned (.tuple #[.agg (grCells (waitR t tx).1).toArray, .bool (waitR t tx).2]) ∧ Below w.heap.size w w':=by
 obtain ⟨a, cap, rfl, hnc, hcm⟩:=ht.1.shape
 obtain ⟨a2, cap2, rfl, hnc2, hcm2⟩:=ht.2.shape
 have HT:=Lib.hid ht
 have HR:=Lib.hid hR
 have HG:=Lib.hid hg
 have HVa : Hid (∀ W, Below w.heap.size w W → Calls Try.prog 25 #[.agg (tbCells (.slice a t.held.length cap) (.slice a2 t.wait.length cap2)).toArray] W fun e w'=>e = .returned (.bool (tbOkB t)) ∧ Below W.heap.size W w'):=fun W hb=>rlkvalid_any W HT.out (HR.out.below hb) HG.out
 have HMo : Hid (∀ W, Below w.heap.size w W → ∀ tx k, GoodLk k → Calls Try.prog 51 #[.agg (tbCells (.slice a t.held.length cap) (.slice a2 t.wait.length cap2)).toArray, .int .i64 tx, .agg (lkCells k).toArray] W fun e w'=>e = .returned (.int .i64 (modeR t.held tx k.page k.slot)) ∧ Below W.heap.size W w'):=fun W hb tx k hk=>rmode_any tx k W HT.out (HR.out.below hb) HG.out hk
 have HNw:=Lib.hid hg.few.2
 have HV : Hid (waitR t tx = if tbOkB t = true then ((wfind t.wait tx).getD grNil, (wfind t.wait tx).isSome) else (grNil, false)):=rfl
 clear HMo ht hR hg
 have h1:=((Hp.start w).put 25 (tbCells (.slice a t.held.length cap) (.slice a2 t.wait.length cap2))).put 29 (grCells grNil)
 simp only [World.size_alloc, List.nil_append, List.cons_append] at h1
 have HS0 : Hid (Hp w [.ob w.heap.size 25 (tbCells (.slice a t.held.length cap) (.slice a2 t.wait.length cap2)), .ob (w.heap.size + 1) 29 (grCells grNil)] ((w.alloc (.cells (tbCells (.slice a t.held.length cap) (.slice a2 t.wait.length cap2)).toArray 25)).alloc (.cells #[.int .i64 0, .int .i64 0, .int .i64 0, .int .i64 0] 29))):=h1
 clear h1
 obtain ⟨fsHUG, huHUG⟩:=under_gr
 have HUG:=Lib.hid huHUG
 clear huHUG
 obtain ⟨fsHUK, huHUK⟩:=under_lk
 have HUK:=Lib.hid huHUK
 clear huHUK
 obtain ⟨fsHUT, huHUT⟩:=under_tb
 have HUT:=Lib.hid huHUT
 clear huHUT
 generalize tbOkB t = ok at *
 go_enter Try.func33, Try.ntmps33
 go_upto_region 1 with (fail)
 generalize ((w.alloc (.cells (tbCells (.slice a t.held.length cap) (.slice a2 t.wait.length cap2)).toArray 25)).alloc (.cells #[.int .i64 0, .int .i64 0, .int .i64 0, .int .i64 0] 29)) = w1 at *
 generalize w.heap.size + 1 = b2 at *
 have b0 : w1.cell? ⟨w.heap.size, 0, none⟩ = some (.slice a t.held.length cap):=(HS0.out).at 0 rfl 0 rfl
 have b1 : w1.cell? ⟨w.heap.size, 1, none⟩ = some (.slice a2 t.wait.length cap2):=(HS0.out).at 0 rfl 1 rfl
 go_wp2_with fail
 refine (HVa.out _ HS0.out.old).mono ?_
 rintro e w2 ⟨rfl, hb⟩
 have HS1:=Lib.hid (HS0.out.calls hb)
 clear b0 b1 HS0 hb
 have hnm : (t.wait.length : Int) ≤ 100000:=by have:=HNw.out;omega
 cases ok
 ·have HE : Hid (waitR t tx = (grNil, false)):=Lib.hid (by rw [HV.out];rfl)
  go_wp2_with (first | ((with_reducible refine wpList_build_v (d:=some 29) 29 (.agg (grCells grNil).toArray) ?_ ?_);(intro W;simp only [List.map_toArray, List.map_cons, List.map_nil];exact build_gr0 W);simp only [z0, z1, z2, z3]) | ((with_reducible refine wpList_store_ob 29 (.tmp 4) b2 (grCells grNil) (grCells grNil) 29 ?_ ?_ ?_ ?_ ?_ ?_ ?_);(exact rfl);(exact rfl);(exact (HS1.out).get 1 rfl);(exact info_gr);(exact rfl);(exact (oneCell_gr _));skip))
  have HS21 : Hid (Hp w [.ob (w.heap.size) 25 (tbCells (.slice a t.held.length cap) (.slice a2 t.wait.length cap2)), .ob b2 29 (grCells grNil)] (w2.setRow b2 (grCells grNil).toArray)):=(HS1.out).row 1 rfl (grCells grNil)
  clear HS1
  generalize (w2.setRow b2 (grCells grNil).toArray) = w21 at *
  refine bodyPost_ret (results_ob_tmp Try.results33 _ _ b2 (grCells grNil) 29 _ rfl ((HS21.out).get 1 rfl) HUG.out rfl info_gr) rfl ?_
  exact ⟨by rw [HE.out];rfl, (HS21.out).old⟩
 ·go_wp2_with fail
  go_loopw [6] (fun iv wr=>∃ i : Nat, i ≤ t.wait.length ∧ iv = .int .i64 i ∧ (∀ q, q < i → ∀ z, t.wait[q]? = some z → z.tx ≠ tx) ∧ Hp w [.ob w.heap.size 25 (tbCells (.slice a t.held.length cap) (.slice a2 t.wait.length cap2)), .ob b2 29 (grCells grNil)] wr) (fun iv _=>t.wait.length - (intOf iv).toNat)
  case atStart=>exact ⟨0, by omega, rfl, fun q h=>absurd h (by omega), HS1.out⟩
  case round =>
   clear HS1
   obtain ⟨i, hi, rfl, hf, hs⟩:=hrel
   have HY:=Lib.hid hs
   have HF:=Lib.hid hf
   have b1 : wr.cell? ⟨w.heap.size, 1, none⟩ = some (.slice a2 t.wait.length cap2):=hs.at 0 rfl 1 rfl
   clear hs hf
   by_cases hlt : i < t.wait.length
   ·obtain ⟨g1, off1, rfl, hrw⟩:=HT.out.2.base (by omega)
    have HRw:=Lib.hid hrw
    obtain ⟨x, hx⟩ : ∃ x, t.wait[i]? = some x:=⟨_, List.getElem?_eq_getElem hlt⟩
    have HXi:=Lib.hid hx
    have hii : (i : Int) < (t.wait.length : Int):=by omega
    have hi0 : (0 : Int) ≤ (i : Int):=by omega
    have HLt:=Lib.hid hlt
    have c0 : wr.cell? ⟨g1, off1 + i * 4, none⟩ = some (.int .i64 x.tx):=HRw.out wr (HR.out.below HY.out.old) (i * 4 + 0) _ (grRow_at t.wait i x hx 0 _ rfl)
    clear hrw hx hi hlt
    by_cases hk : x.tx = tx
    ·obtain ⟨e1, n1⟩:=eq_facts hk
     have HE : Hid (waitR t tx = (x, true)):=Lib.hid (by have hv:=HV.out;simp only [if_true] at hv;rw [hv, wfind_first HF.out HXi.out hk];rfl)
     clear hk HF
     go_wp2_with (first | ((with_reducible refine wpList_load_at 29 (.tmp 27) g1 ((off1 + i * 4)) (grCells x) HUG.out ?_ ?_ ?_ ?_ ?_);(exact rfl);(exact (elem_rng (HRw.out _ (HR.out.below (HY.out).old)) HXi.out));(exact rfl);(exact info_gr);simp only [z0, z1, z2, z3]) | ((with_reducible refine wpList_store_ob 29 (.tmp 4) b2 (grCells x) (grCells grNil) 29 ?_ ?_ ?_ ?_ ?_ ?_ ?_);(exact rfl);(exact rfl);(exact (HY.out).get 1 rfl);(exact info_gr);(exact rfl);(exact (oneCell_gr _));skip))
     have HS41 : Hid (Hp w [.ob (w.heap.size) 25 (tbCells (.slice a t.held.length cap) (.slice (some ⟨g1, off1, none⟩) t.wait.length cap2)), .ob b2 29 (grCells x)] (wr.setRow b2 (grCells x).toArray)):=(HY.out).row 1 rfl (grCells x)
     clear HY
     generalize (wr.setRow b2 (grCells x).toArray) = w41 at *
     refine bodyPost_ret (results_ob_tmp Try.results33 _ _ b2 (grCells x) 29 _ rfl ((HS41.out).get 1 rfl) HUG.out rfl info_gr) rfl ?_
     exact ⟨by rw [HE.out];rfl, (HS41.out).old⟩
    ·obtain ⟨e1, n1⟩:=ne_facts hk
     have HK:=Lib.hid hk
     clear hk
     go_wp2_with fail
     go_roundw
     case rel =>
      refine ⟨i + 1, HLt.out, by go_num, fun q hq z hz=>?_, HY.out⟩
      rcases Nat.lt_or_ge q i with h3 | h3
      ·exact HF.out q h3 z hz
      ·obtain rfl : q = i:=by omega
       rw [HXi.out] at hz
       rw [← Option.some.inj hz];exact HK.out
     case measure=>simp [intOf];try (have:=HLt.out;omega)
   ·obtain rfl : i = t.wait.length:=by omega
    have HE : Hid (waitR t tx = (grNil, false)):=Lib.hid (by have hv:=HV.out;simp only [if_true] at hv;rw [hv, wfind_last HF.out];rfl)
    clear hlt hi HF
    go_wp2_with (first | ((with_reducible refine wpList_build_v (d:=some 29) 29 (.agg (grCells grNil).toArray) ?_ ?_);(intro W;simp only [List.map_toArray, List.map_cons, List.map_nil];exact build_gr0 W);simp only [z0, z1, z2, z3]) | ((with_reducible refine wpList_store_ob 29 (.tmp 4) b2 (grCells grNil) (grCells grNil) 29 ?_ ?_ ?_ ?_ ?_ ?_ ?_);(exact rfl);(exact rfl);(exact (HY.out).get 1 rfl);(exact info_gr);(exact rfl);(exact (oneCell_gr _));skip))
    have HS21 : Hid (Hp w [.ob (w.heap.size) 25 (tbCells (.slice a t.held.length cap) (.slice a2 t.wait.length cap2)), .ob b2 29 (grCells grNil)] (wr.setRow b2 (grCells grNil).toArray)):=(HY.out).row 1 rfl (grCells grNil)
    clear HY
    generalize (wr.setRow b2 (grCells grNil).toArray) = w61 at *
    refine bodyPost_ret (results_ob_tmp Try.results33 _ _ b2 (grCells grNil) 29 _ rfl ((HS21.out).get 1 rfl) HUG.out rfl info_gr) rfl ?_
    exact ⟨by rw [HE.out];rfl, (HS21.out).old⟩
theorem findIdx_first {l : List Gr} {P : Gr → Bool} {i : Nat} {x : Gr} (h : ∀ q, q < i → ∀ z, l[q]? = some z → P z = false) (hx : l[i]? = some x) (hp : P x = true) : l.findIdx P = i:=by
 have hlt:=(List.getElem?_eq_some_iff.1 hx).1
 rw [List.findIdx_eq hlt]
 refine ⟨by rw [(List.getElem?_eq_some_iff.1 hx).2];exact hp, fun q hq=>?_⟩
 exact h q hq _ (List.getElem?_eq_getElem (by omega))
theorem findIdx_none {l : List Gr} {P : Gr → Bool} (h : ∀ q, q < l.length → ∀ z, l[q]? = some z → P z = false) : l.findIdx P = l.length:=by
 rw [List.findIdx_eq_length]
 intro x hx
 obtain ⟨q, hq, rfl⟩:=List.getElem_of_mem hx
 exact h q hq _ (List.getElem?_eq_getElem hq)
def wantB (h : List Gr) (g w : Gr) : Bool:=decide (w.page = g.page) && (decide (w.slot = g.slot) && decide (modeG h w = 0))
set_option maxHeartbeats 8000000 in
theorem rplace_any {h v : Value} {t : Tb} {R : List Rng} (g : Gr) (w : World) (ht : TbRd h v t R) (hR : RdIn w R) (hg : GoodTb t) (hk : GoodGr g) :
  Calls Try.prog 54 #[.agg (tbCells h v).toArray, .agg (grCells g).toArray] w fun e w'=>e = .returned (.int .i64 (wplaceR t.held t.wait g : Nat)) ∧ Below w.heap.size w w':=by
 obtain ⟨a, cap, rfl, hnc, hcm⟩:=ht.1.shape
 obtain ⟨a2, cap2, rfl, hnc2, hcm2⟩:=ht.2.shape
 have HT:=Lib.hid ht
 have HR:=Lib.hid hR
 have HG:=Lib.hid hg
 have HVa : Hid (∀ W, Below w.heap.size w W → Calls Try.prog 25 #[.agg (tbCells (.slice a t.held.length cap) (.slice a2 t.wait.length cap2)).toArray] W fun e w'=>e = .returned (.bool (tbOkB t)) ∧ Below W.heap.size W w'):=fun W hb=>rlkvalid_any W HT.out (HR.out.below hb) HG.out
 have HMo : Hid (∀ W, Below w.heap.size w W → ∀ tx k, GoodLk k → Calls Try.prog 51 #[.agg (tbCells (.slice a t.held.length cap) (.slice a2 t.wait.length cap2)).toArray, .int .i64 tx, .agg (lkCells k).toArray] W fun e w'=>e = .returned (.int .i64 (modeR t.held tx k.page k.slot)) ∧ Below W.heap.size W w'):=fun W hb tx k hk=>rmode_any tx k W HT.out (HR.out.below hb) HG.out hk
 have HNw:=Lib.hid hg.few.2
 have HK:=Lib.hid hk
 have HV : Hid (wplaceR t.held t.wait g = if modeG t.held g = 0 then t.wait.length else t.wait.findIdx (wantB t.held g)):=rfl
 have HMg : Hid (∀ W, Below w.heap.size w W → Calls Try.prog 51 #[.agg (tbCells (.slice a t.held.length cap) (.slice a2 t.wait.length cap2)).toArray, .int .i64 g.tx, .agg (lkCells g.lock).toArray] W fun e w'=>e = .returned (.int .i64 (modeG t.held g)) ∧ Below W.heap.size W w'):=fun W hb=>HMo.out W hb g.tx g.lock hk.lock
 clear HVa ht hR hg hk
 have h1:=((Hp.start w).put 25 (tbCells (.slice a t.held.length cap) (.slice a2 t.wait.length cap2))).put 29 (grCells g)
 simp only [World.size_alloc, List.nil_append, List.cons_append] at h1
 have HS0 : Hid (Hp w [.ob w.heap.size 25 (tbCells (.slice a t.held.length cap) (.slice a2 t.wait.length cap2)), .ob (w.heap.size + 1) 29 (grCells g)] ((w.alloc (.cells (tbCells (.slice a t.held.length cap) (.slice a2 t.wait.length cap2)).toArray 25)).alloc (.cells (grCells g).toArray 29))):=h1
 clear h1
 obtain ⟨fsHUG, huHUG⟩:=under_gr
 have HUG:=Lib.hid huHUG
 clear huHUG
 obtain ⟨fsHUK, huHUK⟩:=under_lk
 have HUK:=Lib.hid huHUK
 clear huHUK
 obtain ⟨fsHUT, huHUT⟩:=under_tb
 have HUT:=Lib.hid huHUT
 clear huHUT
 generalize modeG t.held g = mg at *
 obtain ⟨S, hS⟩ : ∃ S, wplaceR t.held t.wait g = S:=⟨_, rfl⟩
 rw [hS] at HV
 rw [hS]
 clear hS
 go_enter Try.func54, Try.ntmps54
 go_upto_region 1 with (fail)
 generalize ((w.alloc (.cells (tbCells (.slice a t.held.length cap) (.slice a2 t.wait.length cap2)).toArray 25)).alloc (.cells (grCells g).toArray 29)) = w1 at *
 generalize w.heap.size + 1 = b2 at *
 have hnm : (t.wait.length : Int) ≤ 100000:=by have:=HNw.out;omega
 have b0 : w1.cell? ⟨w.heap.size, 0, none⟩ = some (.slice a t.held.length cap):=(HS0.out).at 0 rfl 0 rfl
 have b1 : w1.cell? ⟨w.heap.size, 1, none⟩ = some (.slice a2 t.wait.length cap2):=(HS0.out).at 0 rfl 1 rfl
 have g0 : w1.cell? ⟨b2, 0, none⟩ = some (.int .i64 g.tx):=HS0.out.at 1 rfl 0 rfl
 have g1 : w1.cell? ⟨b2, 1, none⟩ = some (.int .i64 g.page):=HS0.out.at 1 rfl 1 rfl
 have g2 : w1.cell? ⟨b2, 2, none⟩ = some (.int .i64 g.slot):=HS0.out.at 1 rfl 2 rfl
 go_wp2_with fail
 refine (HMg.out _ HS0.out.old).mono ?_
 rintro e w2 ⟨rfl, hb⟩
 have HS1:=Lib.hid (HS0.out.calls hb)
 clear b0 b1 g0 g1 g2 HS0 hb HMg
 have b1 : w2.cell? ⟨w.heap.size, 1, none⟩ = some (.slice a2 t.wait.length cap2):=HS1.out.at 0 rfl 1 rfl
 by_cases hmg : mg = 0
 ·obtain ⟨e1, n1⟩:=eq_facts hmg
  have HE : Hid (S = t.wait.length):=Lib.hid (by rw [HV.out, if_pos hmg])
  clear hmg
  go_wp2_with fail
  go_ret
  exact ⟨by rw [HE.out];rfl, HS1.out.old⟩
 ·obtain ⟨e1, n1⟩:=ne_facts hmg
  have HS2 : Hid (S = t.wait.findIdx (wantB t.held g)):=Lib.hid (by rw [HV.out, if_neg hmg])
  clear hmg
  go_wp2_with fail
  clear b1
  go_loopw [5] (fun iv wr=>∃ i : Nat, i ≤ t.wait.length ∧ iv = .int .i64 i ∧ (∀ q, q < i → ∀ z, t.wait[q]? = some z → wantB t.held g z = false) ∧ Hp w [.ob w.heap.size 25 (tbCells (.slice a t.held.length cap) (.slice a2 t.wait.length cap2)), .ob b2 29 (grCells g)] wr) (fun iv _=>t.wait.length - (intOf iv).toNat)
  case atStart=>exact ⟨0, by omega, rfl, fun q h=>absurd h (by omega), HS1.out⟩
  case round =>
   clear HS1
   obtain ⟨i, hi, rfl, hf, hs⟩:=hrel
   have HY:=Lib.hid hs
   have HF:=Lib.hid hf
   have b1 : wr.cell? ⟨w.heap.size, 1, none⟩ = some (.slice a2 t.wait.length cap2):=hs.at 0 rfl 1 rfl
   clear hs hf
   by_cases hlt : i < t.wait.length
   ·obtain ⟨g1, off1, rfl, hrw⟩:=HT.out.2.base (by omega)
    have HRw:=Lib.hid hrw
    obtain ⟨x, hx⟩ : ∃ x, t.wait[i]? = some x:=⟨_, List.getElem?_eq_getElem hlt⟩
    have HXi:=Lib.hid hx
    have HGx:=Lib.hid (HG.out.wait x (List.mem_of_getElem? hx))
    have hii : (i : Int) < (t.wait.length : Int):=by omega
    have hi0 : (0 : Int) ≤ (i : Int):=by omega
    have HLt:=Lib.hid hlt
    have HMx : Hid (∀ W, Below w.heap.size w W → Calls Try.prog 51 #[.agg (tbCells (.slice a t.held.length cap) (.slice (some ⟨g1, off1, none⟩) t.wait.length cap2)).toArray, .int .i64 x.tx, .agg (lkCells x.lock).toArray] W fun e w'=>e = .returned (.int .i64 (modeG t.held x)) ∧ Below W.heap.size W w'):=fun W hb=>HMo.out W hb x.tx x.lock HGx.out.lock
    have hqe : ∀ W, Sem.run Try.prog (binOp .eql 27 (.agg #[.int .i64 x.page, .int .i64 x.slot]) (.agg #[.int .i64 g.page, .int .i64 g.slot])) W = .ok (.bool (sameV x.lock g.lock)) W:=fun W=>run_eql (equal_lk x.lock g.lock HGx.out.lock HK.out.lock) W
    have hss : sameV x.lock g.lock = (decide (x.page = g.page) && decide (x.slot = g.slot)):=lock_same x g.lock
    have hwt : wantB t.held g x = ((decide (x.page = g.page) && decide (x.slot = g.slot)) && decide (modeG t.held x = 0)):=by unfold wantB;rw [Bool.and_assoc]
    have hNo : wantB t.held g x = false → ∀ q, q < i + 1 → ∀ z, t.wait[q]? = some z → wantB t.held g z = false:=fun h q hq z hz=>by
     rcases Nat.lt_or_ge q i with h3 | h3
     ·exact HF.out q h3 z hz
     ·obtain rfl : q = i:=by omega
      rw [HXi.out] at hz
      rw [← Option.some.inj hz];exact h
    have hYes : wantB t.held g x = true → S = i:=fun h=>by rw [HS2.out];exact findIdx_first HF.out HXi.out h
    rw [← hss] at hwt
    have HNo:=Lib.hid hNo
    have HYes:=Lib.hid hYes
    clear hrw hx hi hlt hss hNo hYes HMo HF
    generalize modeG t.held x = mx at *
    generalize wantB t.held g x = wb at *
    generalize sameV x.lock g.lock = sl at *
    have HWt:=Lib.hid hwt
    clear hwt
    go_upto_region 7 with (first | ((with_reducible refine wpList_load_at 29 (.tmp 27) g1 ((off1 + i * 4)) (grCells x) HUG.out ?_ ?_ ?_ ?_ ?_);(exact rfl);(exact (elem_rng (HRw.out _ (HR.out.below (HY.out).old)) HXi.out));(exact rfl);(exact info_gr);simp only [z0, z1, z2, z3]) | ((with_reducible refine wpList_alloc_ob 29 (grCells grNil) ?_ ?_);(exact alloc_gr);simp only [z0, z1, z2, z3]) | ((with_reducible refine wpList_store_ob 29 (.tmp 6) (wr.heap.size) (grCells x) (grCells grNil) 29 ?_ ?_ ?_ ?_ ?_ ?_ ?_);(exact rfl);(exact rfl);(exact ((HY.out).put 29 (grCells grNil)).get 2 rfl);(exact info_gr);(exact rfl);(exact (oneCell_gr _));skip))
    have HS41 : Hid (Hp w [.ob (w.heap.size) 25 (tbCells (.slice a t.held.length cap) (.slice (some ⟨g1, off1, none⟩) t.wait.length cap2)), .ob b2 29 (grCells g), .ob (wr.heap.size) 29 (grCells x)] ((wr.alloc (.cells (grCells grNil).toArray 29)).setRow (wr.heap.size) (grCells x).toArray)):=((HY.out).put 29 (grCells grNil)).row 2 rfl (grCells x)
    clear HY
    generalize ((wr.alloc (.cells (grCells grNil).toArray 29)).setRow (wr.heap.size) (grCells x).toArray) = w41 at *
    generalize wr.heap.size = B1 at *
    clear b1
    have x0 : w41.cell? ⟨B1, 0, none⟩ = some (.int .i64 x.tx):=HS41.out.at 2 rfl 0 rfl
    have x1 : w41.cell? ⟨B1, 1, none⟩ = some (.int .i64 x.page):=HS41.out.at 2 rfl 1 rfl
    have x2 : w41.cell? ⟨B1, 2, none⟩ = some (.int .i64 x.slot):=HS41.out.at 2 rfl 2 rfl
    have y1 : w41.cell? ⟨b2, 1, none⟩ = some (.int .i64 g.page):=HS41.out.at 1 rfl 1 rfl
    have y2 : w41.cell? ⟨b2, 2, none⟩ = some (.int .i64 g.slot):=HS41.out.at 1 rfl 2 rfl
    have b0 : w41.cell? ⟨w.heap.size, 0, none⟩ = some (.slice a t.held.length cap):=HS41.out.at 0 rfl 0 rfl
    have b1 : w41.cell? ⟨w.heap.size, 1, none⟩ = some (.slice (some ⟨g1, off1, none⟩) t.wait.length cap2):=HS41.out.at 0 rfl 1 rfl
    cases sl
    case false =>
     have HN1:=Lib.hid (HNo.out (by rw [HWt.out];rfl))
     clear HWt HYes HNo
     go_wp2_with fail
     have HY2:=Lib.hid (HS41.out.forget (L:=[.ob w.heap.size 25 (tbCells (.slice a t.held.length cap) (.slice (some ⟨g1, off1, none⟩) t.wait.length cap2)), .ob b2 29 (grCells g)]) (M:=[.ob B1 29 (grCells x)]))
     go_roundw
     case rel=>exact ⟨i + 1, HLt.out, by go_num, HN1.out, HY2.out⟩
     case measure=>simp [intOf];try (have:=HLt.out;omega)
    case true =>
     go_wp2_with fail
     refine (HMx.out _ HS41.out.old).mono ?_
     rintro e w9 ⟨rfl, hb⟩
     have HS9:=Lib.hid (HS41.out.calls hb)
     clear x0 x1 x2 y1 y2 b0 b1 HS41 hb
     by_cases hmx : mx = 0
     ·obtain ⟨e3, n3⟩:=eq_facts hmx
      have HE:=Lib.hid (HYes.out (by rw [HWt.out, decide_eq_true hmx];rfl))
      clear hmx
      go_wp2_with fail
      go_ret
      exact ⟨by rw [HE.out];rfl, HS9.out.old⟩
     ·obtain ⟨e3, n3⟩:=ne_facts hmx
      have HN1:=Lib.hid (HNo.out (by rw [HWt.out, decide_eq_false hmx];rfl))
      clear hmx
      go_wp2_with fail
      have HY2:=Lib.hid (HS9.out.forget (L:=[.ob w.heap.size 25 (tbCells (.slice a t.held.length cap) (.slice (some ⟨g1, off1, none⟩) t.wait.length cap2)), .ob b2 29 (grCells g)]) (M:=[.ob B1 29 (grCells x)]))
      go_roundw
      case rel=>exact ⟨i + 1, HLt.out, by go_num, HN1.out, HY2.out⟩
      case measure=>simp [intOf];try (have:=HLt.out;omega)
   ·obtain rfl : i = t.wait.length:=by omega
    have HE : Hid (S = t.wait.length):=Lib.hid (by rw [HS2.out];exact findIdx_none HF.out)
    clear hlt hi HF
    go_wp2_with fail
    go_ret
    exact ⟨by rw [HE.out];rfl, HY.out.old⟩
end Go.Proofs.Ytooaldglgkjjgaa
/- the reference's Cancel, Drop and Release -/
namespace Go.Proofs.Ytooaldglgkjjgaa
open Go.RowKit
open Go.Act renaming put → z0
open List renaming setIfInBounds_toArray → z1, set_cons_zero → z2, set_cons_succ → z3
set_option maxRecDepth 20000
set_option linter.unusedSimpArgs false
set_option linter.unusedVariables false

theorem build_tb2 (a b : Option Addr) (n c m d : Nat) (W : World) : Sem.run Try.prog (Instr.build 25 #[(0, .slice a n c), (1, .slice b m d)]) W = .ok (.agg (tbCells (.slice a n c) (.slice b m d)).toArray) W:=by kernel_rfl
abbrev qRfLk8_0 : Oper:={ dst:=some 9, op:=Op.fieldAddr 25 (Operand.tmp 2) 0, type:=0, pos := "ref.go:189", after:=#[], guard:=none }
abbrev qRfLk8_1 : Oper:={ dst:=some 10, op:=Op.load 23 (Operand.tmp 9), type:=23, pos := "ref.go:189", after:=#[{ on:=0, ground:=Ground.data }], guard:=none }
abbrev qRfLk8_2 : Oper:={ dst:=some 11, op:=Op.fieldAddr 25 (Operand.tmp 2) 1, type:=0, pos := "ref.go:189", after:=#[], guard:=none }
abbrev qRfLk8_3 : Oper:={ dst:=some 12, op:=Op.load 23 (Operand.tmp 11), type:=23, pos := "ref.go:189", after:=#[{ on:=2, ground:=Ground.data }], guard:=none }
abbrev qRfLk8_4 : Oper:={ dst:=some 13, op:=Op.move (Operand.tmp 1), type:=3, pos := "ref.go:189", after:=#[], guard:=none }
abbrev qRfLk8_5 : Oper:={ dst:=some 14, op:=Op.build 27 #[], type:=27, pos := "ref.go:189", after:=#[], guard:=none }
abbrev qRfLk8_6 : Oper:={ dst:=some 15, op:=Op.call { callee:=Callee.value (Operand.func 53), args:=#[Operand.tmp 12, Operand.tmp 13, Operand.const (Value.bool false), Operand.tmp 14], argTypes:=#[23, 3, 4, 27] }, type:=23, pos := "ref.go:189", after:=#[{ on:=3, ground:=Ground.data }, { on:=4, ground:=Ground.data }, { on:=5, ground:=Ground.data }], guard:=none }
abbrev qRfLk8_7 : Oper:={ dst:=some 16, op:=Op.build 25 #[(0, Operand.tmp 10), (1, Operand.tmp 15)], type:=25, pos := "ref.go:189", after:=#[{ on:=1, ground:=Ground.data }, { on:=6, ground:=Ground.data }], guard:=none }
abbrev qRfLk8_8 : Oper:={ dst:=some 17, op:=Op.call { callee:=Callee.value (Operand.func 52), args:=#[Operand.tmp 16], argTypes:=#[25] }, type:=25, pos := "ref.go:189", after:=#[{ on:=7, ground:=Ground.data }, { on:=6, ground:=Ground.chain }], guard:=none }
abbrev qRfLk8_9 : Oper:={ dst:=none, op:=Op.store 25 (Operand.tmp 4) (Operand.tmp 17), type:=0, pos := "ref.go:189", after:=#[{ on:=8, ground:=Ground.data }, { on:=8, ground:=Ground.chain }, { on:=0, ground:=Ground.phase }, { on:=1, ground:=Ground.phase }, { on:=2, ground:=Ground.phase }, { on:=3, ground:=Ground.phase }, { on:=4, ground:=Ground.phase }, { on:=5, ground:=Ground.phase }, { on:=6, ground:=Ground.phase }, { on:=7, ground:=Ground.phase }, { on:=8, ground:=Ground.phase }], guard:=none }
abbrev qRfLk8_10 : Oper:={ dst:=some 9, op:=Op.fieldAddr 25 (Operand.tmp 2) 0, type:=0, pos := "ref.go:205", after:=#[], guard:=none }
abbrev qRfLk8_11 : Oper:={ dst:=some 10, op:=Op.load 23 (Operand.tmp 9), type:=23, pos := "ref.go:205", after:=#[{ on:=0, ground:=Ground.data }], guard:=none }
abbrev qRfLk8_12 : Oper:={ dst:=some 11, op:=Op.move (Operand.tmp 1), type:=3, pos := "ref.go:205", after:=#[], guard:=none }
abbrev qRfLk8_13 : Oper:={ dst:=some 12, op:=Op.build 27 #[], type:=27, pos := "ref.go:205", after:=#[], guard:=none }
abbrev qRfLk8_14 : Oper:={ dst:=some 14, op:=Op.fieldAddr 25 (Operand.tmp 2) 1, type:=0, pos := "ref.go:205", after:=#[], guard:=none }
abbrev qRfLk8_15 : Oper:={ dst:=some 15, op:=Op.load 23 (Operand.tmp 14), type:=23, pos := "ref.go:205", after:=#[{ on:=5, ground:=Ground.data }], guard:=none }
abbrev qRfLk8_16 : Oper:={ dst:=some 16, op:=Op.move (Operand.tmp 1), type:=3, pos := "ref.go:205", after:=#[], guard:=none }
abbrev qRfLk8_17 : Oper:={ dst:=some 17, op:=Op.build 27 #[], type:=27, pos := "ref.go:205", after:=#[], guard:=none }
abbrev qRfLk8_18 : Oper:={ dst:=some 13, op:=Op.call { callee:=Callee.value (Operand.func 53), args:=#[Operand.tmp 10, Operand.tmp 11, Operand.const (Value.bool false), Operand.tmp 12], argTypes:=#[23, 3, 4, 27] }, type:=23, pos := "ref.go:205", after:=#[{ on:=1, ground:=Ground.data }, { on:=2, ground:=Ground.data }, { on:=3, ground:=Ground.data }], guard:=none }
abbrev qRfLk8_19 : Oper:={ dst:=some 18, op:=Op.call { callee:=Callee.value (Operand.func 53), args:=#[Operand.tmp 15, Operand.tmp 16, Operand.const (Value.bool false), Operand.tmp 17], argTypes:=#[23, 3, 4, 27] }, type:=23, pos := "ref.go:205", after:=#[{ on:=6, ground:=Ground.data }, { on:=7, ground:=Ground.data }, { on:=8, ground:=Ground.data }, { on:=4, ground:=Ground.chain }], guard:=none }
abbrev qRfLk8_20 : Oper:={ dst:=some 19, op:=Op.build 25 #[(0, Operand.tmp 13), (1, Operand.tmp 18)], type:=25, pos := "ref.go:205", after:=#[{ on:=4, ground:=Ground.data }, { on:=9, ground:=Ground.data }], guard:=none }
abbrev qRfLk8_21 : Oper:={ dst:=some 20, op:=Op.call { callee:=Callee.value (Operand.func 52), args:=#[Operand.tmp 19], argTypes:=#[25] }, type:=25, pos := "ref.go:205", after:=#[{ on:=10, ground:=Ground.data }, { on:=9, ground:=Ground.chain }], guard:=none }
abbrev qRfLk8_22 : Oper:={ dst:=none, op:=Op.store 25 (Operand.tmp 4) (Operand.tmp 20), type:=0, pos := "ref.go:205", after:=#[{ on:=11, ground:=Ground.data }, { on:=11, ground:=Ground.chain }, { on:=0, ground:=Ground.phase }, { on:=1, ground:=Ground.phase }, { on:=2, ground:=Ground.phase }, { on:=3, ground:=Ground.phase }, { on:=4, ground:=Ground.phase }, { on:=5, ground:=Ground.phase }, { on:=6, ground:=Ground.phase }, { on:=7, ground:=Ground.phase }, { on:=8, ground:=Ground.phase }, { on:=9, ground:=Ground.phase }, { on:=10, ground:=Ground.phase }, { on:=11, ground:=Ground.phase }], guard:=none }
set_option maxHeartbeats 8000000 in
theorem rcancel_any {h v : Value} {t : Tb} {R : List Rng} (tx : Int) (w : World) (ht : TbRd h v t R) (hR : RdIn w R) (hg : GoodTb t) :
  Calls Try.prog 27 #[.agg (tbCells h v).toArray, .int .i64 tx] w (TbPost w R (cancelR t tx)):=by
 obtain ⟨a, cap, rfl, hnc, hcm⟩:=ht.1.shape
 obtain ⟨a2, cap2, rfl, hnc2, hcm2⟩:=ht.2.shape
 have HT:=Lib.hid ht
 have HR:=Lib.hid hR
 have HVa : Hid (∀ W, Below w.heap.size w W → Calls Try.prog 25 #[.agg (tbCells (.slice a t.held.length cap) (.slice a2 t.wait.length cap2)).toArray] W fun e w'=>e = .returned (.bool (tbOkB t)) ∧ Below W.heap.size W w'):=fun W hb=>rlkvalid_any W ht (hR.below hb) hg
 have HLw : Hid (∀ W, Below w.heap.size w W → Calls Try.prog 53 #[.slice a2 t.wait.length cap2, .int .i64 tx, .bool false, .agg (lkCells lkNil).toArray] W (GrPost W (leftTx t.wait tx))):=fun W hb=>by rw [← left_all t.wait tx 0 0];exact rleft_any tx false lkNil W ht.2 (hR.below hb) hg.wait hg.few.2 ⟨by decide, by decide⟩
 have HV : Hid (cancelR t tx = if tbOkB t = true then settleR ⟨t.held, leftTx t.wait tx⟩ else t):=rfl
 have HSe : Hid (tbOkB t = true → ∀ W {h v : Value} {Q : List Rng}, TbRd h v ⟨t.held, leftTx t.wait tx⟩ Q → RdIn W Q → Calls Try.prog 52 #[.agg (tbCells h v).toArray] W (TbPost W Q (settleR ⟨t.held, leftTx t.wait tx⟩))):=fun hk W h v Q h1 h2=>rsettle_any W h1 h2 (cancel_in (tbOkB_iff.1 hk) tx) (by have h1:=(tbOkB_iff.1 hk).few;have h2:=leftTx_len t.wait tx;show t.held.length + (leftTx t.wait tx).length ≤ 2000;omega)
 clear ht hR hg
 have h1:=((((Hp.startrd w R HR.out).put 25 (tbCells (.slice a t.held.length cap) (.slice a2 t.wait.length cap2)))).put 25 (tbCells (.slice none 0 0) (.slice none 0 0)))
 simp only [World.size_alloc, List.nil_append, List.cons_append] at h1
 have h2:=h1.pull [1, 2, 0] (M:=[.ob w.heap.size 25 (tbCells (.slice a t.held.length cap) (.slice a2 t.wait.length cap2)), .ob (w.heap.size + 1) 25 (tbCells (.slice none 0 0) (.slice none 0 0)), .rd R]) rfl (pull_nd h1.nd [1, 2, 0] rfl (by decide))
 have HS0 : Hid (Hp w [.ob w.heap.size 25 (tbCells (.slice a t.held.length cap) (.slice a2 t.wait.length cap2)), .ob (w.heap.size + 1) 25 (tbCells (.slice none 0 0) (.slice none 0 0)), .rd R] ((w.alloc (.cells (tbCells (.slice a t.held.length cap) (.slice a2 t.wait.length cap2)).toArray 25)).alloc (.cells #[.slice none 0 0, .slice none 0 0] 25))):=h2
 clear h1 h2
 obtain ⟨fsHUG, huHUG⟩:=under_gr
 have HUG:=Lib.hid huHUG
 clear huHUG
 obtain ⟨fsHUK, huHUK⟩:=under_lk
 have HUK:=Lib.hid huHUK
 clear huHUK
 obtain ⟨fsHUT, huHUT⟩:=under_tb
 have HUT:=Lib.hid huHUT
 clear huHUT
 generalize tbOkB t = ok at *
 go_enter Try.func27, Try.ntmps27
 go_upto_region 1 with (fail)
 generalize ((w.alloc (.cells (tbCells (.slice a t.held.length cap) (.slice a2 t.wait.length cap2)).toArray 25)).alloc (.cells #[.slice none 0 0, .slice none 0 0] 25)) = w1 at *
 generalize (w.heap.size + 1) = b2 at *
 have b0 : w1.cell? ⟨w.heap.size, 0, none⟩ = some (.slice a t.held.length cap):=HS0.out.at 0 rfl 0 rfl
 have b1 : w1.cell? ⟨w.heap.size, 1, none⟩ = some (.slice a2 t.wait.length cap2):=HS0.out.at 0 rfl 1 rfl
 go_wp2_with fail
 refine (HVa.out _ HS0.out.old).mono ?_
 rintro e w2 ⟨rfl, hb⟩
 have HS1:=Lib.hid (HS0.out.calls hb)
 clear b0 b1 HS0 hb HVa
 cases ok
 ·have HE : Hid (cancelR t tx = t):=Lib.hid (by rw [HV.out];rfl)
  go_wp2_with (first | ((with_reducible refine wpList_load_ob 25 (.tmp 2) (w.heap.size) (tbCells (.slice a t.held.length cap) (.slice a2 t.wait.length cap2)) 25 HUT.out ?_ ?_ ?_ ?_ ?_);(exact rfl);(exact (HS1.out).get 0 rfl);(exact rfl);(exact info_tb);simp only [z0, z1, z2, z3]) | ((with_reducible refine wpList_store_ob 25 (.tmp 4) b2 (tbCells (.slice a t.held.length cap) (.slice a2 t.wait.length cap2)) (tbCells (.slice none 0 0) (.slice none 0 0)) 25 ?_ ?_ ?_ ?_ ?_ ?_ ?_);(exact rfl);(exact rfl);(exact (HS1.out).get 1 rfl);(exact info_tb);(exact rfl);(exact (oneCell_tb _ _ _ _ _ _));skip))
  have HS41 : Hid (Hp w [.ob (w.heap.size) 25 (tbCells (.slice a t.held.length cap) (.slice a2 t.wait.length cap2)), .ob b2 25 (tbCells (.slice a t.held.length cap) (.slice a2 t.wait.length cap2)), .rd R] (w2.setRow b2 (tbCells (.slice a t.held.length cap) (.slice a2 t.wait.length cap2)).toArray)):=(HS1.out).row 1 rfl (tbCells (.slice a t.held.length cap) (.slice a2 t.wait.length cap2))
  clear HS1
  generalize (w2.setRow b2 (tbCells (.slice a t.held.length cap) (.slice a2 t.wait.length cap2)).toArray) = w41 at *
  refine bodyPost_ret (results_ob Try.results27 _ _ b2 (tbCells (.slice a t.held.length cap) (.slice a2 t.wait.length cap2)) 25 _ rfl ((HS41.out).get 1 rfl) HUT.out rfl info_tb) rfl ?_
  rw [HE.out]
  exact ⟨_, _, R, rfl, HT.out, (HS41.out).reads 2 rfl, fun r hr=>.inr (List.mem_map.2 ⟨r, hr, rfl⟩), (HS41.out).old⟩
 ·have HE : Hid (cancelR t tx = settleR ⟨t.held, leftTx t.wait tx⟩):=Lib.hid (by rw [HV.out];first | rfl | simp)
  have HSt:=Lib.hid (HSe.out (by first | trivial | rfl))
  clear HSe HV
  go_wp2_with fail
  refine wp_region_held_drew (S:=fun w'=>w'.rangeAt w.heap.size 0 (tbCells (.slice a t.held.length cap) (.slice a2 t.wait.length cap2))) (by kernel_rfl) ((fun j v hv=>by rw [Nat.zero_add];exact ((HS1.out).drew).at 0 rfl j hv)) (fun hHeld=>?_)
  refine tk 0 qRfLk8_0 (some 9) (v:=?q101v) (Or.inl ⟨by rfl, ?q101h⟩) hHeld ?q101r
  case q101h=>(intro _ h;clear h;go_simp;try with_reducible rfl)
  try simp only [z0, z1, z2, z3]
  refine tk 1 qRfLk8_1 (some 10) (v:=.slice a t.held.length cap) (Or.inl ⟨by rfl, ?q102h⟩) hHeld ?q102r
  case q102h=>(intro wq hSw;have lq:=(hSw) 0 (.slice a t.held.length cap) rfl;simp only [Nat.zero_add] at lq;clear hSw;go_simp;try with_reducible rfl)
  try simp only [z0, z1, z2, z3]
  refine tk 2 qRfLk8_2 (some 11) (v:=?q103v) (Or.inl ⟨by rfl, ?q103h⟩) hHeld ?q103r
  case q103h=>(intro _ h;clear h;go_simp;try with_reducible rfl)
  try simp only [z0, z1, z2, z3]
  refine tk 3 qRfLk8_3 (some 12) (v:=.slice a2 t.wait.length cap2) (Or.inl ⟨by rfl, ?q104h⟩) hHeld ?q104r
  case q104h=>(intro wq hSw;have lq:=(hSw) 1 (.slice a2 t.wait.length cap2) rfl;simp only [Nat.zero_add] at lq;clear hSw;go_simp;try with_reducible rfl)
  try simp only [z0, z1, z2, z3]
  refine tk 4 qRfLk8_4 (some 13) (v:=?q105v) (Or.inl ⟨by rfl, ?q105h⟩) hHeld ?q105r
  case q105h=>(intro _ h;clear h;go_simp;try with_reducible rfl)
  try simp only [z0, z1, z2, z3]
  refine tk 5 qRfLk8_5 (some 14) (yieldsIf_build_v (by rfl) 27 (.agg (lkCells lkNil).toArray) rfl (fun W=>by simp only [List.map_toArray, List.map_cons, List.map_nil];exact build_lk0 W)) hHeld ?_
  try simp only [z0, z1, z2, z3]
  refine tn 6 qRfLk8_6 (fun K hK=>?_)
  go_simp
  go_wp2_with (go_at_call 53;refine (HLw.out _ ((HS1.out).drew).old).mono ?_;rintro e w61 ⟨vh, R2, rfl, hrd2, hin2, hnew2, hb⟩)
  have hnew3 : ∀ r ∈ R2, w.heap.size ≤ r.1:=fun r hr=>Nat.le_trans ((HS1.out).drew).old.size (hnew2 r hr)
  obtain ⟨a3, c3, rfl, hc3, hm3⟩:=hrd2.shape
  have H2:=Lib.hid hrd2
  have N2:=Lib.hid hnew3
  have HS61 : Hid (Hp w [.ob (w.heap.size) 25 (tbCells (.slice a t.held.length cap) (.slice a2 t.wait.length cap2)), .ob b2 25 (tbCells (.slice none 0 0) (.slice none 0 0)), .rd R, .rd R2] w61):=((HS1.out).drew).addrd hb R2 hin2 (fun r hr=>.inl (hnew2 r hr))
  refine hK.out _ _ ((fun j v hv=>by rw [Nat.zero_add];exact (HS61.out).at 0 rfl j hv)) (fun hHeld=>?_)
  clear hK K hb hin2 hrd2 hnew2 hnew3
  try simp only [z0, z1, z2, z3]
  refine tk 7 qRfLk8_7 (some 16) (yieldsIf_build_v (by rfl) 25 (.agg (tbCells (.slice a t.held.length cap) (.slice a3 (leftTx t.wait tx).length c3)).toArray) rfl (fun W=>by simp only [List.map_toArray, List.map_cons, List.map_nil];exact build_tb2 _ _ _ _ _ _ W)) hHeld ?_
  try simp only [z0, z1, z2, z3]
  refine tn 8 qRfLk8_8 (fun K hK=>?_)
  go_simp
  go_wp2_with (go_at_call 52;refine (HSt.out _ (Q:=R ++ R2) ⟨SlRd.mono HT.out.1 (fun r hr=>by simp [hr]), SlRd.mono H2.out (fun r hr=>by simp [hr])⟩ (RdIn.append ((HS61.out).reads 2 rfl) ((HS61.out).reads 3 rfl))).mono ?_;rintro e w62 ⟨h9, v9, R9, rfl, hrd2, hin2, hnew2, hb⟩)
  have hnew3 : ∀ r ∈ R9, w.heap.size ≤ r.1 ∨ r.1 ∈ R.map (·.1):=fun r hr=>by
   rcases hnew2 r hr with h | h
   ·exact .inl (Nat.le_trans (HS61.out).old.size h)
   ·obtain ⟨q, hq, hqe⟩:=List.mem_map.1 h
    rw [← hqe]
    rcases List.mem_append.1 hq with hq | hq
    ·exact .inr (List.mem_map.2 ⟨q, hq, rfl⟩)
    ·exact .inl (N2.out q hq)
  obtain ⟨a9, c9, rfl, _, _⟩:=hrd2.1.shape
  obtain ⟨d9, e9, rfl, _, _⟩:=hrd2.2.shape
  have H9:=Lib.hid hrd2
  have N9:=Lib.hid hnew3
  have HS62 : Hid (Hp w [.ob (w.heap.size) 25 (tbCells (.slice a t.held.length cap) (.slice a2 t.wait.length cap2)), .ob b2 25 (tbCells (.slice none 0 0) (.slice none 0 0)), .rd R, .rd R2, .rd R9] w62):=(HS61.out).addrd hb R9 hin2 (fun r hr=>(hnew2 r hr).elim .inl (fun h=>.inr (by obtain ⟨q, hq, hqe⟩:=List.mem_map.1 h;rcases List.mem_append.1 hq with hq | hq;exact ⟨.rd R, List.mem_of_getElem? (i:=2) rfl, List.mem_map.2 ⟨q, hq, hqe⟩⟩;exact ⟨.rd R2, List.mem_of_getElem? (i:=3) rfl, List.mem_map.2 ⟨q, hq, hqe⟩⟩)))
  refine hK.out _ _ ((fun j v hv=>by rw [Nat.zero_add];exact (HS62.out).at 0 rfl j hv)) (fun hHeld=>?_)
  clear hK K hb hin2 hrd2 hnew2 hnew3
  try simp only [z0, z1, z2, z3]
  refine tn 9 qRfLk8_9 (fun K hK=>?_)
  rw [if_pos (by rfl)]
  refine wp_store_ob 25 (.tmp 4) (.tmp 17) b2 (tbCells (.slice a9 (settleR ⟨t.held, leftTx t.wait tx⟩).held.length c9) (.slice d9 (settleR ⟨t.held, leftTx t.wait tx⟩).wait.length e9)) (tbCells (.slice none 0 0) (.slice none 0 0)) 25 rfl rfl rfl rfl ((HS62.out).get 1 rfl) (info_tb) (rfl) ((oneCell_tb _ _ _ _ _ _)) ?_
  have HS63 : Hid (Hp w [.ob (w.heap.size) 25 (tbCells (.slice a t.held.length cap) (.slice a2 t.wait.length cap2)), .ob b2 25 (tbCells (.slice a9 (settleR ⟨t.held, leftTx t.wait tx⟩).held.length c9) (.slice d9 (settleR ⟨t.held, leftTx t.wait tx⟩).wait.length e9)), .rd R, .rd R2, .rd R9] (w62.setRow b2 (tbCells (.slice a9 (settleR ⟨t.held, leftTx t.wait tx⟩).held.length c9) (.slice d9 (settleR ⟨t.held, leftTx t.wait tx⟩).wait.length e9)).toArray)):=(HS62.out).row 1 rfl (tbCells (.slice a9 (settleR ⟨t.held, leftTx t.wait tx⟩).held.length c9) (.slice d9 (settleR ⟨t.held, leftTx t.wait tx⟩).wait.length e9))
  refine hK.out _ _ ((fun j v hv=>by rw [Nat.zero_add];exact (HS63.out).at 0 rfl j hv)) (fun hHeld=>?_)
  clear hK K
  generalize (w62.setRow b2 (tbCells (.slice a9 (settleR ⟨t.held, leftTx t.wait tx⟩).held.length c9) (.slice d9 (settleR ⟨t.held, leftTx t.wait tx⟩).wait.length e9)).toArray) = w63 at *
  try simp only [z0, z1, z2, z3]
  refine wpAnyH_done (by kernel_rfl) ?_ _
  clear hHeld
  go_wp2_with fail
  refine bodyPost_ret (results_ob Try.results27 _ _ b2 (tbCells (.slice a9 (settleR ⟨t.held, leftTx t.wait tx⟩).held.length c9) (.slice d9 (settleR ⟨t.held, leftTx t.wait tx⟩).wait.length e9)) 25 _ rfl ((HS63.out).get 1 rfl) HUT.out rfl info_tb) rfl ?_
  rw [HE.out]
  exact ⟨_, _, R9, rfl, H9.out, (HS63.out).reads 4 rfl, N9.out, (HS63.out).old⟩
set_option maxHeartbeats 8000000 in
theorem rrelease_any {h v : Value} {t : Tb} {R : List Rng} (tx : Int) (w : World) (ht : TbRd h v t R) (hR : RdIn w R) (hg : GoodTb t) :
  Calls Try.prog 26 #[.agg (tbCells h v).toArray, .int .i64 tx] w (TbPost w R (releaseR t tx)):=by
 obtain ⟨a, cap, rfl, hnc, hcm⟩:=ht.1.shape
 obtain ⟨a2, cap2, rfl, hnc2, hcm2⟩:=ht.2.shape
 have HT:=Lib.hid ht
 have HR:=Lib.hid hR
 have HVa : Hid (∀ W, Below w.heap.size w W → Calls Try.prog 25 #[.agg (tbCells (.slice a t.held.length cap) (.slice a2 t.wait.length cap2)).toArray] W fun e w'=>e = .returned (.bool (tbOkB t)) ∧ Below W.heap.size W w'):=fun W hb=>rlkvalid_any W ht (hR.below hb) hg
 have HLf : Hid (∀ W, Below w.heap.size w W → Calls Try.prog 53 #[.slice a t.held.length cap, .int .i64 tx, .bool false, .agg (lkCells lkNil).toArray] W (GrPost W (leftTx t.held tx))):=fun W hb=>by rw [← left_all t.held tx 0 0];exact rleft_any tx false lkNil W ht.1 (hR.below hb) hg.held hg.few.1 ⟨by decide, by decide⟩
 have HLw : Hid (∀ W, Below w.heap.size w W → Calls Try.prog 53 #[.slice a2 t.wait.length cap2, .int .i64 tx, .bool false, .agg (lkCells lkNil).toArray] W (GrPost W (leftTx t.wait tx))):=fun W hb=>by rw [← left_all t.wait tx 0 0];exact rleft_any tx false lkNil W ht.2 (hR.below hb) hg.wait hg.few.2 ⟨by decide, by decide⟩
 have HV : Hid (releaseR t tx = if tbOkB t = true then settleR ⟨leftTx t.held tx, leftTx t.wait tx⟩ else t):=rfl
 have HSe : Hid (tbOkB t = true → ∀ W {h v : Value} {Q : List Rng}, TbRd h v ⟨leftTx t.held tx, leftTx t.wait tx⟩ Q → RdIn W Q → Calls Try.prog 52 #[.agg (tbCells h v).toArray] W (TbPost W Q (settleR ⟨leftTx t.held tx, leftTx t.wait tx⟩))):=fun hk W h v Q h1 h2=>rsettle_any W h1 h2 (release_in (tbOkB_iff.1 hk) tx) (by have h1:=(tbOkB_iff.1 hk).few;have h2:=leftTx_len t.wait tx;have h3:=leftTx_len t.held tx;show (leftTx t.held tx).length + (leftTx t.wait tx).length ≤ 2000;omega)
 clear ht hR hg
 have h1:=((((Hp.startrd w R HR.out).put 25 (tbCells (.slice a t.held.length cap) (.slice a2 t.wait.length cap2)))).put 25 (tbCells (.slice none 0 0) (.slice none 0 0)))
 simp only [World.size_alloc, List.nil_append, List.cons_append] at h1
 have h2:=h1.pull [1, 2, 0] (M:=[.ob w.heap.size 25 (tbCells (.slice a t.held.length cap) (.slice a2 t.wait.length cap2)), .ob (w.heap.size + 1) 25 (tbCells (.slice none 0 0) (.slice none 0 0)), .rd R]) rfl (pull_nd h1.nd [1, 2, 0] rfl (by decide))
 have HS0 : Hid (Hp w [.ob w.heap.size 25 (tbCells (.slice a t.held.length cap) (.slice a2 t.wait.length cap2)), .ob (w.heap.size + 1) 25 (tbCells (.slice none 0 0) (.slice none 0 0)), .rd R] ((w.alloc (.cells (tbCells (.slice a t.held.length cap) (.slice a2 t.wait.length cap2)).toArray 25)).alloc (.cells #[.slice none 0 0, .slice none 0 0] 25))):=h2
 clear h1 h2
 obtain ⟨fsHUG, huHUG⟩:=under_gr
 have HUG:=Lib.hid huHUG
 clear huHUG
 obtain ⟨fsHUK, huHUK⟩:=under_lk
 have HUK:=Lib.hid huHUK
 clear huHUK
 obtain ⟨fsHUT, huHUT⟩:=under_tb
 have HUT:=Lib.hid huHUT
 clear huHUT
 generalize tbOkB t = ok at *
 go_enter Try.func26, Try.ntmps26
 go_upto_region 1 with (fail)
 generalize ((w.alloc (.cells (tbCells (.slice a t.held.length cap) (.slice a2 t.wait.length cap2)).toArray 25)).alloc (.cells #[.slice none 0 0, .slice none 0 0] 25)) = w1 at *
 generalize (w.heap.size + 1) = b2 at *
 have b0 : w1.cell? ⟨w.heap.size, 0, none⟩ = some (.slice a t.held.length cap):=HS0.out.at 0 rfl 0 rfl
 have b1 : w1.cell? ⟨w.heap.size, 1, none⟩ = some (.slice a2 t.wait.length cap2):=HS0.out.at 0 rfl 1 rfl
 go_wp2_with fail
 refine (HVa.out _ HS0.out.old).mono ?_
 rintro e w2 ⟨rfl, hb⟩
 have HS1:=Lib.hid (HS0.out.calls hb)
 clear b0 b1 HS0 hb HVa
 cases ok
 ·have HE : Hid (releaseR t tx = t):=Lib.hid (by rw [HV.out];rfl)
  go_wp2_with (first | ((with_reducible refine wpList_load_ob 25 (.tmp 2) (w.heap.size) (tbCells (.slice a t.held.length cap) (.slice a2 t.wait.length cap2)) 25 HUT.out ?_ ?_ ?_ ?_ ?_);(exact rfl);(exact (HS1.out).get 0 rfl);(exact rfl);(exact info_tb);simp only [z0, z1, z2, z3]) | ((with_reducible refine wpList_store_ob 25 (.tmp 4) b2 (tbCells (.slice a t.held.length cap) (.slice a2 t.wait.length cap2)) (tbCells (.slice none 0 0) (.slice none 0 0)) 25 ?_ ?_ ?_ ?_ ?_ ?_ ?_);(exact rfl);(exact rfl);(exact (HS1.out).get 1 rfl);(exact info_tb);(exact rfl);(exact (oneCell_tb _ _ _ _ _ _));skip))
  have HS41 : Hid (Hp w [.ob (w.heap.size) 25 (tbCells (.slice a t.held.length cap) (.slice a2 t.wait.length cap2)), .ob b2 25 (tbCells (.slice a t.held.length cap) (.slice a2 t.wait.length cap2)), .rd R] (w2.setRow b2 (tbCells (.slice a t.held.length cap) (.slice a2 t.wait.length cap2)).toArray)):=(HS1.out).row 1 rfl (tbCells (.slice a t.held.length cap) (.slice a2 t.wait.length cap2))
  clear HS1
  generalize (w2.setRow b2 (tbCells (.slice a t.held.length cap) (.slice a2 t.wait.length cap2)).toArray) = w41 at *
  refine bodyPost_ret (results_ob Try.results26 _ _ b2 (tbCells (.slice a t.held.length cap) (.slice a2 t.wait.length cap2)) 25 _ rfl ((HS41.out).get 1 rfl) HUT.out rfl info_tb) rfl ?_
  rw [HE.out]
  exact ⟨_, _, R, rfl, HT.out, (HS41.out).reads 2 rfl, fun r hr=>.inr (List.mem_map.2 ⟨r, hr, rfl⟩), (HS41.out).old⟩
 ·have HE : Hid (releaseR t tx = settleR ⟨leftTx t.held tx, leftTx t.wait tx⟩):=Lib.hid (by rw [HV.out];first | rfl | simp)
  have HSt:=Lib.hid (HSe.out (by first | trivial | rfl))
  clear HSe HV
  go_wp2_with fail
  refine wp_region_held_drew (S:=fun w'=>w'.rangeAt w.heap.size 0 (tbCells (.slice a t.held.length cap) (.slice a2 t.wait.length cap2))) (by kernel_rfl) ((fun j v hv=>by rw [Nat.zero_add];exact ((HS1.out).drew).at 0 rfl j hv)) (fun hHeld=>?_)
  refine tk 0 qRfLk8_10 (some 9) (v:=?q101v) (Or.inl ⟨by rfl, ?q101h⟩) hHeld ?q101r
  case q101h=>(intro _ h;clear h;go_simp;try with_reducible rfl)
  try simp only [z0, z1, z2, z3]
  refine tk 1 qRfLk8_11 (some 10) (v:=.slice a t.held.length cap) (Or.inl ⟨by rfl, ?q102h⟩) hHeld ?q102r
  case q102h=>(intro wq hSw;have lq:=(hSw) 0 (.slice a t.held.length cap) rfl;simp only [Nat.zero_add] at lq;clear hSw;go_simp;try with_reducible rfl)
  try simp only [z0, z1, z2, z3]
  refine tk 2 qRfLk8_12 (some 11) (v:=?q103v) (Or.inl ⟨by rfl, ?q103h⟩) hHeld ?q103r
  case q103h=>(intro _ h;clear h;go_simp;try with_reducible rfl)
  try simp only [z0, z1, z2, z3]
  refine tk 3 qRfLk8_13 (some 12) (yieldsIf_build_v (by rfl) 27 (.agg (lkCells lkNil).toArray) rfl (fun W=>by simp only [List.map_toArray, List.map_cons, List.map_nil];exact build_lk0 W)) hHeld ?_
  try simp only [z0, z1, z2, z3]
  refine tk 5 qRfLk8_14 (some 14) (v:=?q105v) (Or.inl ⟨by rfl, ?q105h⟩) hHeld ?q105r
  case q105h=>(intro _ h;clear h;go_simp;try with_reducible rfl)
  try simp only [z0, z1, z2, z3]
  refine tk 6 qRfLk8_15 (some 15) (v:=.slice a2 t.wait.length cap2) (Or.inl ⟨by rfl, ?q106h⟩) hHeld ?q106r
  case q106h=>(intro wq hSw;have lq:=(hSw) 1 (.slice a2 t.wait.length cap2) rfl;simp only [Nat.zero_add] at lq;clear hSw;go_simp;try with_reducible rfl)
  try simp only [z0, z1, z2, z3]
  refine tk 7 qRfLk8_16 (some 16) (v:=?q107v) (Or.inl ⟨by rfl, ?q107h⟩) hHeld ?q107r
  case q107h=>(intro _ h;clear h;go_simp;try with_reducible rfl)
  try simp only [z0, z1, z2, z3]
  refine tk 8 qRfLk8_17 (some 17) (yieldsIf_build_v (by rfl) 27 (.agg (lkCells lkNil).toArray) rfl (fun W=>by simp only [List.map_toArray, List.map_cons, List.map_nil];exact build_lk0 W)) hHeld ?_
  try simp only [z0, z1, z2, z3]
  refine tn 4 qRfLk8_18 (fun K hK=>?_)
  go_simp
  go_wp2_with (go_at_call 53;refine (HLf.out _ ((HS1.out).drew).old).mono ?_;rintro e w61 ⟨vh, R2, rfl, hrd2, hin2, hnew2, hb⟩)
  have hnew3 : ∀ r ∈ R2, w.heap.size ≤ r.1:=fun r hr=>Nat.le_trans ((HS1.out).drew).old.size (hnew2 r hr)
  obtain ⟨a3, c3, rfl, hc3, hm3⟩:=hrd2.shape
  have H2:=Lib.hid hrd2
  have N2:=Lib.hid hnew3
  have HS61 : Hid (Hp w [.ob (w.heap.size) 25 (tbCells (.slice a t.held.length cap) (.slice a2 t.wait.length cap2)), .ob b2 25 (tbCells (.slice none 0 0) (.slice none 0 0)), .rd R, .rd R2] w61):=((HS1.out).drew).addrd hb R2 hin2 (fun r hr=>.inl (hnew2 r hr))
  refine hK.out _ _ ((fun j v hv=>by rw [Nat.zero_add];exact (HS61.out).at 0 rfl j hv)) (fun hHeld=>?_)
  clear hK K hb hin2 hrd2 hnew2 hnew3
  try simp only [z0, z1, z2, z3]
  refine tn 9 qRfLk8_19 (fun K hK=>?_)
  go_simp
  go_wp2_with (go_at_call 53;refine (HLw.out _ (HS61.out).old).mono ?_;rintro e w62 ⟨vh, R3, rfl, hrd2, hin2, hnew2, hb⟩)
  have hnew3 : ∀ r ∈ R3, w.heap.size ≤ r.1:=fun r hr=>Nat.le_trans (HS61.out).old.size (hnew2 r hr)
  obtain ⟨a4, c4, rfl, hc4, hm4⟩:=hrd2.shape
  have H3:=Lib.hid hrd2
  have N3:=Lib.hid hnew3
  have HS62 : Hid (Hp w [.ob (w.heap.size) 25 (tbCells (.slice a t.held.length cap) (.slice a2 t.wait.length cap2)), .ob b2 25 (tbCells (.slice none 0 0) (.slice none 0 0)), .rd R, .rd R2, .rd R3] w62):=(HS61.out).addrd hb R3 hin2 (fun r hr=>.inl (hnew2 r hr))
  refine hK.out _ _ ((fun j v hv=>by rw [Nat.zero_add];exact (HS62.out).at 0 rfl j hv)) (fun hHeld=>?_)
  clear hK K hb hin2 hrd2 hnew2 hnew3
  try simp only [z0, z1, z2, z3]
  refine tk 10 qRfLk8_20 (some 19) (yieldsIf_build_v (by rfl) 25 (.agg (tbCells (.slice a3 (leftTx t.held tx).length c3) (.slice a4 (leftTx t.wait tx).length c4)).toArray) rfl (fun W=>by simp only [List.map_toArray, List.map_cons, List.map_nil];exact build_tb2 _ _ _ _ _ _ W)) hHeld ?_
  try simp only [z0, z1, z2, z3]
  refine tn 11 qRfLk8_21 (fun K hK=>?_)
  go_simp
  go_wp2_with (go_at_call 52;refine (HSt.out _ (Q:=R2 ++ R3) ⟨SlRd.mono H2.out (fun r hr=>by simp [hr]), SlRd.mono H3.out (fun r hr=>by simp [hr])⟩ (RdIn.append ((HS62.out).reads 3 rfl) ((HS62.out).reads 4 rfl))).mono ?_;rintro e w63 ⟨h9, v9, R9, rfl, hrd2, hin2, hnew2, hb⟩)
  have hnew3 : ∀ r ∈ R9, w.heap.size ≤ r.1 ∨ r.1 ∈ R.map (·.1):=fun r hr=>by
   rcases hnew2 r hr with h | h
   ·exact .inl (Nat.le_trans (HS62.out).old.size h)
   ·obtain ⟨q, hq, hqe⟩:=List.mem_map.1 h
    rw [← hqe]
    rcases List.mem_append.1 hq with hq | hq
    ·exact .inl (N2.out q hq)
    ·exact .inl (N3.out q hq)
  obtain ⟨a9, c9, rfl, _, _⟩:=hrd2.1.shape
  obtain ⟨d9, e9, rfl, _, _⟩:=hrd2.2.shape
  have H9:=Lib.hid hrd2
  have N9:=Lib.hid hnew3
  have HS63 : Hid (Hp w [.ob (w.heap.size) 25 (tbCells (.slice a t.held.length cap) (.slice a2 t.wait.length cap2)), .ob b2 25 (tbCells (.slice none 0 0) (.slice none 0 0)), .rd R, .rd R2, .rd R3, .rd R9] w63):=(HS62.out).addrd hb R9 hin2 (fun r hr=>(hnew2 r hr).elim .inl (fun h=>.inr (by obtain ⟨q, hq, hqe⟩:=List.mem_map.1 h;rcases List.mem_append.1 hq with hq | hq;exact ⟨.rd R2, List.mem_of_getElem? (i:=3) rfl, List.mem_map.2 ⟨q, hq, hqe⟩⟩;exact ⟨.rd R3, List.mem_of_getElem? (i:=4) rfl, List.mem_map.2 ⟨q, hq, hqe⟩⟩)))
  refine hK.out _ _ ((fun j v hv=>by rw [Nat.zero_add];exact (HS63.out).at 0 rfl j hv)) (fun hHeld=>?_)
  clear hK K hb hin2 hrd2 hnew2 hnew3
  try simp only [z0, z1, z2, z3]
  refine tn 12 qRfLk8_22 (fun K hK=>?_)
  rw [if_pos (by rfl)]
  refine wp_store_ob 25 (.tmp 4) (.tmp 20) b2 (tbCells (.slice a9 (settleR ⟨leftTx t.held tx, leftTx t.wait tx⟩).held.length c9) (.slice d9 (settleR ⟨leftTx t.held tx, leftTx t.wait tx⟩).wait.length e9)) (tbCells (.slice none 0 0) (.slice none 0 0)) 25 rfl rfl rfl rfl ((HS63.out).get 1 rfl) (info_tb) (rfl) ((oneCell_tb _ _ _ _ _ _)) ?_
  have HS64 : Hid (Hp w [.ob (w.heap.size) 25 (tbCells (.slice a t.held.length cap) (.slice a2 t.wait.length cap2)), .ob b2 25 (tbCells (.slice a9 (settleR ⟨leftTx t.held tx, leftTx t.wait tx⟩).held.length c9) (.slice d9 (settleR ⟨leftTx t.held tx, leftTx t.wait tx⟩).wait.length e9)), .rd R, .rd R2, .rd R3, .rd R9] (w63.setRow b2 (tbCells (.slice a9 (settleR ⟨leftTx t.held tx, leftTx t.wait tx⟩).held.length c9) (.slice d9 (settleR ⟨leftTx t.held tx, leftTx t.wait tx⟩).wait.length e9)).toArray)):=(HS63.out).row 1 rfl (tbCells (.slice a9 (settleR ⟨leftTx t.held tx, leftTx t.wait tx⟩).held.length c9) (.slice d9 (settleR ⟨leftTx t.held tx, leftTx t.wait tx⟩).wait.length e9))
  refine hK.out _ _ ((fun j v hv=>by rw [Nat.zero_add];exact (HS64.out).at 0 rfl j hv)) (fun hHeld=>?_)
  clear hK K
  generalize (w63.setRow b2 (tbCells (.slice a9 (settleR ⟨leftTx t.held tx, leftTx t.wait tx⟩).held.length c9) (.slice d9 (settleR ⟨leftTx t.held tx, leftTx t.wait tx⟩).wait.length e9)).toArray) = w64 at *
  try simp only [z0, z1, z2, z3]
  refine wpAnyH_done (by kernel_rfl) ?_ _
  clear hHeld
  go_wp2_with fail
  refine bodyPost_ret (results_ob Try.results26 _ _ b2 (tbCells (.slice a9 (settleR ⟨leftTx t.held tx, leftTx t.wait tx⟩).held.length c9) (.slice d9 (settleR ⟨leftTx t.held tx, leftTx t.wait tx⟩).wait.length e9)) 25 _ rfl ((HS64.out).get 1 rfl) HUT.out rfl info_tb) rfl ?_
  rw [HE.out]
  exact ⟨_, _, R9, rfl, H9.out, (HS64.out).reads 5 rfl, N9.out, (HS64.out).old⟩
end Go.Proofs.Ytooaldglgkjjgaa
/- what reads, its spare cut off, is appended to: the whole is new -/
namespace Go.Proofs.Ytooaldglgkjjgaa
open Go.RowKit
set_option maxRecDepth 20000

theorem results_cell_tmp2 {fn : Func} {p u u2 : Tmp} {ty : TypeId} (h : fn.results = #[.cell p ty, .tmp u, .tmp u2]) (tmps : Array Value) (P : Program) (w : World) :
    (results fn tmps).run P w =
      ((asAddr (tmps.getD p undef)).run P w).andThen fun a w₁=>((loadVar ty a).run P w₁).andThen fun v w₂=>.ok (.tuple #[v, tmps.getD u undef, tmps.getD u2 undef]) w₂:=by
  simp only [results, h]
  simp [Sem.run_bind, Result.andThen]
theorem results_ob_tmp2 {fn : Func} {p u u2 : Tmp} {t : TypeId} (h : fn.results = #[.cell p t, .tmp u, .tmp u2]) (tmps : Array Value) (w : World) (g : Nat) (cs : List Value) (t0 : TypeId) (ds : TypeDesc)
    (hp : tmps.getD p undef = .pointer (some ⟨g, 0, none⟩)) (hg : w.heap[g]? = some (.cells cs.toArray t0 (0, 0))) (hu : Try.prog.underlying t = some ds) (hd : ds.isRow = true) (hi : (Try.prog.info? t).map (·.size) = some cs.length) :
    (results fn tmps).run Try.prog w = .ok (.tuple #[.agg cs.toArray, tmps.getD u undef, tmps.getD u2 undef]) w:=by
  rw [results_cell_tmp2 h, hp]
  simp [asAddr, run_loadVar_row w g t0 t cs.toArray (0, 0) ds hg hu (by cases ds <;> simp_all) (by rw [List.size_toArray];exact hi), Result.andThen]
end Go.Proofs.Ytooaldglgkjjgaa
