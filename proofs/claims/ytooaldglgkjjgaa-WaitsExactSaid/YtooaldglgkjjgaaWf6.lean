/- texts of a claim, one after the other: the library's Insert of one grant, the library's Insert of one grant, where there is no room, the program's without and hold (locks), the program's settled (locks), the program's Request (locks), the program's Would (waits), the example of chapter 8, reckoned, the example of chapter 9, reckoned -/
import Derived.Test.YtooaldglgkjjgaaWf5
import Derived.Lib.AppendZerosOnto
import Derived.Lib.Overlaps
import Derived.Maps.AppendAt
import Derived.Laws.CopyRow
import Derived.Test.YtooaldglgkjjgaaWf1
import Derived.Test.YtooaldglgkjjgaaWf2
import Derived.Deep.CutBlock
import Derived.Test.YtooaldglgkjjgaaWf4
/- the library's Insert of one grant -/
namespace Go.Proofs.Ytooaldglgkjjgaa
open Go.RowKit
set_option maxRecDepth 20000
set_option linter.unusedSimpArgs false
set_option linter.unusedVariables false

def insG (l : List Gr) (i : Nat) (t : Gr) : List Gr:=l.take i ++ t :: l.drop i
theorem insG_len (l : List Gr) (i : Nat) (t : Gr) : (insG l i t).length = l.length + 1:=by
 unfold insG
 rw [List.length_append, List.length_cons, List.length_take, List.length_drop]
 omega
/-- how an insertion ends -/
def InsPost (B0 : Nat) (w : World) (v : Value) (m : List Gr) (e : Ending) (w' : World) : Prop :=
 ∃ u, e = .returned u ∧ w'.ownsRow B0 29 4 u m.length (grRow m) ∧ w.grownBy w' v.ownBlock ∧ (u.ownBlock = v.ownBlock ∨ u.ownBlock = some w.heap.size)
theorem obj_src {W : World} {vb : Nat} {t : Gr} (h : W.heap[vb]? = some (.cells (grCells t).toArray 29 (0, 0))) : ∀ j u, (grCells t)[j]? = some u → W.cell? ((⟨vb, 0, none⟩ : Addr).add j) = some u:=row_src h 0 (fun j u hj=>by rw [Nat.zero_add];exact hj)
theorem encRow1 (t : Gr) : encRow grCells [t] = grCells t:=by unfold encRow;simp
set_option maxHeartbeats 8000000 in
theorem insert_end (l : List Gr) (t : Gr) (v : Value) (B0 vb : Nat) (w : World) (own : w.ownsRow B0 29 4 v l.length (grRow l)) (hvb : w.heap[vb]? = some (.cells (grCells t).toArray 29 (0, 0))) (hB0 : B0 ≤ w.heap.size) (hl : l.length ≤ 200000) :
  Calls Try.prog 46 #[v, .int .i64 l.length, .slice (some ⟨vb, 0, none⟩) 1 1] w (InsPost B0 w v (l ++ [t])):=by
 obtain ⟨inf, zv, hi, hz, hsize, hby, hzs⟩:=elem_gr.is
 obtain ⟨v', w', hr, h2, h3, h4, h5⟩:=run_append_own_at (P:=Try.prog) w B0 23 23 29 inf zv 4 32 Try.underlying23 hi hz hsize hby hzs (by decide) v l.length (grRow l) own ⟨vb, 0, none⟩ 1 1 (grCells t) rfl (obj_src hvb) (one_gr t) (by unfold maxLen;omega) (by omega) hB0
 have HE : Hid (InsPost B0 w v (l ++ [t]) (.returned v') w'):=⟨v', rfl, by
  rw [grRow_append, grRow_one, List.length_append]
  exact h2, h3, h5⟩
 have HL:=Lib.hid hl
 rcases own.2 with ⟨rfl, h0⟩ | ⟨g, cap, cur, rfl, hB, hg, h1, hc2, hc3, hc4⟩
 ·rw [h0]
  clear own hvb hB0 hl h2 h3 h4 h5 h0 hi hz hsize hby hzs
  go_enter Try.func46, Try.ntmps46
  go_wp2_with (at_builtin;refine Lib.wpList_append_run _ rfl _ _ _ _ rfl _ _ rfl rfl _ _ hr ?_)
  go_ret
  exact HE.out
 ·have hcap : l.length ≤ cap:=h1
  have hn0 : (0 : Int) ≤ (l.length : Int):=by omega
  clear own hvb hB0 hl h2 h3 h4 h5 hi hz hsize hby hzs hB hg h1 hc2 hc3 hc4
  by_cases hcn : cap = l.length
  ·subst hcn
   go_enter Try.func46, Try.ntmps46
   go_wp2_with (at_builtin;refine Lib.wpList_append_run _ rfl _ _ _ _ rfl _ _ rfl rfl _ _ hr ?_)
   go_ret
   exact HE.out
  ·go_enter Try.func46, Try.ntmps46
   go_wp2_with (at_builtin;refine Lib.wpList_append_run _ rfl _ _ _ _ rfl _ _ rfl rfl _ _ hr ?_)
   go_ret
   exact HE.out
theorem run_copy_rowz {P : Program} (w : World) (dT sT ty elem : TypeId) (z n g o dLen dCap : Nat) (a : Addr) (sLen sCap : Nat) (cur : Array Value) (t : TypeId) (cs : List Value)
  (hu : P.underlying dT = some (.slice elem)) (hs : (P.info? elem).map (·.size) = some z)
  (hg : w.heap[g]? = some (.cells cur t (0, 0))) (hn : n = Nat.min sLen dLen) (hc : cs.length = n * z)
  (hsrc : ∀ j v, cs[j]? = some v → w.cell? (a.add j) = some v) (hfit : o + cs.length ≤ cur.size) (h1 : ∀ v ∈ cs, v.oneCell' = true) :
  (Builtin.copy_ #[dT, sT] ty #[.slice (some ⟨g, o, none⟩) dLen dCap, .slice (some a) sLen sCap]).run P w =
   .ok (goInt n) (w.setRow g (cur.toList.take o ++ cs ++ cur.toList.drop (o + cs.length)).toArray):=by
 have hl:=run_loadCells_list (P:=P) w a cs hsrc
 have hst:=run_storeCells_at P g o t cs 0 cur w hg (by simpa using hfit) h1
 cases hq : P.info? elem with
 | none=>simp [hq] at hs
 | some i =>
  have hi : i.size = z:=by simpa [hq] using hs
  simp [Builtin.copy_, run_underlying hu, Builtin.lenOf, Builtin.firstCells, sizeOf, typeInfo, hq, hi, ← hn, ← hc, hl, hst]
theorem step_copy_row {P : Program} {ops : Array Oper} {o : Oper} {a : Act} {w : World} {K : Act → World → Prop} {Q : Exit → Act → World → Prop} {E : Prop} (hgd : o.guard = none) (d s : Operand) (dT sT : TypeId)
  (ho : o.op = .call { callee:=.builtin .copy, args:=#[d, s], argTypes:=#[dT, sT] }) (elem : TypeId) (hu : P.underlying dT = some (.slice elem)) (z n : Nat) (hsz : (P.info? elem).map (·.size) = some z)
  (g off dLen dCap : Nat) (ad : Addr) (sLen sCap : Nat) (hd : a.eval d = .slice (some ⟨g, off, none⟩) dLen dCap) (hs : a.eval s = .slice (some ad) sLen sCap)
  (cur : List Value) (t : TypeId) (hg : w.heap[g]? = some (.cells cur.toArray t (0, 0))) (cs : List Value) (hn : n = Nat.min sLen dLen) (hc : cs.length = n * z)
  (hsrc : ∀ j v, cs[j]? = some v → w.cell? (ad.add j) = some v) (hfit : off + cs.length ≤ cur.length) (h1 : ∀ v ∈ cs, v.oneCell' = true)
  (h : ∀ w', Hid (w' = w.setRow g (splice cur off cs).toArray) → K (a.put o.dst (goInt n)) w') :
  if Region.wanted o (yielded ops a.tmps) = true then Oper.wp P o a w K Q else E:=by
 have hw : Region.wanted o (yielded ops a.tmps) = true:=by simp [Region.wanted, hgd]
 rw [if_pos hw]
 have hrun:=run_copy_rowz (P:=P) w dT sT o.type elem z n g off dLen dCap ad sLen sCap cur.toArray t cs hu hsz hg hn hc hsrc (by simpa using hfit) h1
 unfold Oper.wp
 simp [execOp, ho, resolve, invoke, builtin, hd, hs, hrun, Result.andThen]
 exact h _ (show _ = _ by unfold splice;simp)
theorem wpList_copy_row {P : Program} {w : World} {ops : Array Oper} {rest : List Oper} {o : Oper} {a : Act} {Q : Exit → Act → World → Prop} (hgd : o.guard = none) (d s : Operand) (dT sT : TypeId)
  (ho : o.op = .call { callee:=.builtin .copy, args:=#[d, s], argTypes:=#[dT, sT] }) (elem : TypeId) (hu : P.underlying dT = some (.slice elem)) (z n : Nat) (hsz : (P.info? elem).map (·.size) = some z)
  (g off dLen dCap : Nat) (ad : Addr) (sLen sCap : Nat) (hd : a.eval d = .slice (some ⟨g, off, none⟩) dLen dCap) (hs : a.eval s = .slice (some ad) sLen sCap)
  (cur : List Value) (t : TypeId) (hg : w.heap[g]? = some (.cells cur.toArray t (0, 0))) (cs : List Value) (hn : n = Nat.min sLen dLen) (hc : cs.length = n * z)
  (hsrc : ∀ j v, cs[j]? = some v → w.cell? (ad.add j) = some v) (hfit : off + cs.length ≤ cur.length) (h1 : ∀ v ∈ cs, v.oneCell' = true)
  (h : ∀ w', Hid (w' = w.setRow g (splice cur off cs).toArray) → wpList P ops Q rest (a.put o.dst (goInt n)) w') : wpList P ops Q (o :: rest) a w:=by
 have hrun:=run_copy_rowz (P:=P) w dT sT o.type elem z n g off dLen dCap ad sLen sCap cur.toArray t cs hu hsz hg hn hc hsrc (by simpa using hfit) h1
 refine wpList_plain hgd fun _ hK=>?_
 unfold Oper.wp
 simp [execOp, ho, resolve, invoke, builtin, hd, hs, hrun, Result.andThen]
 exact hK _ _ (h _ (show _ = _ by unfold splice;simp))
theorem splice_mid {α : Type} {A X R C : List α} (h : X.length = C.length) {o : Nat} (ho : A.length = o) : splice (A ++ (X ++ R)) o C = A ++ (C ++ R):=by
 subst ho
 unfold splice
 rw [List.take_append_of_le_length (Nat.le_refl _), List.take_of_length_le (Nat.le_refl _), List.drop_append, List.drop_of_length_le (by omega), List.nil_append, Nat.add_sub_cancel_left, ← h, List.drop_append, List.drop_of_length_le (Nat.le_refl _), List.nil_append, Nat.sub_self, List.drop_zero]
theorem ins_rows (l : List Gr) (i : Nat) (t : Gr) (X rest : List Value) (hX : X.length = 4) (hil : i < l.length) :
  splice (splice (encRow grCells l ++ (X ++ rest)) ((i + 1) * 4) (encRow grCells (l.drop i))) (i * 4) (encRow grCells [t]) = encRow grCells (insG l i t) ++ rest:=by
 have lA : (encRow grCells (l.take i)).length = i * 4:=by rw [encRow_len grCells_len, List.length_take, Nat.min_eq_left (by omega)]
 have e0 : l = l.take i ++ (l[i] :: l.drop (i + 1)):=by rw [List.getElem_cons_drop, List.take_append_drop]
 have e1 : encRow grCells l ++ (X ++ rest) = (encRow grCells (l.take i) ++ grCells l[i]) ++ ((encRow grCells (l.drop (i + 1)) ++ X) ++ rest):=by
  conv=>lhs;rw [e0]
  rw [encRow_append]
  show encRow grCells (l.take i) ++ (grCells l[i] ++ encRow grCells (l.drop (i + 1))) ++ (X ++ rest) = _
  simp
 have lD : (encRow grCells (l.drop i)).length = (l.length - i) * 4:=by rw [encRow_len grCells_len, List.length_drop]
 rw [e1, splice_mid (by rw [List.length_append, encRow_len grCells_len, List.length_drop, lD, hX];omega) (by rw [List.length_append, lA, grCells_len];omega), List.append_assoc, splice_mid (by rw [encRow_len grCells_len, grCells_len];rfl) lA]
 unfold insG
 rw [encRow_append]
 show _ = (encRow grCells (l.take i) ++ (grCells t ++ encRow grCells (l.drop i))) ++ rest
 rw [encRow1]
 simp
theorem sizeOf_gr (W : World) : (Go.sizeOf 29).run Try.prog W = .ok 4 W:=by kernel_rfl
theorem overlaps_no (t : Gr) (vb g o c1 c2 : Nat) (cur : Array Value) (W : World) (hvb : W.heap[vb]? = some (.cells (grCells t).toArray 29 (0, 0))) (hg : W.heap[g]? = some (.cells cur 29 (0, 0))) (hne : vb ≠ g) (h0 : cur.size ≠ 0) :
  (callFunc 71 #[.slice (some ⟨vb, 0, none⟩) 1 1, .slice (some ⟨g, o, none⟩) c1 c2]).run Try.prog W = .ok (.value (.bool false)) W:=by
 rw [run_callFunc_extern Try.func71 (by kernel_rfl) (by kernel_rfl) (by kernel_rfl) (e:=Extern.SlicesOverlaps.overlaps #[23, 23] #[4]) (by kernel_rfl),
  Lib.run_overlaps_apart W 23 4 29 Try.underlying23 4 sizeOf_gr ⟨vb, 0, none⟩ ⟨g, o, none⟩ 1 1 c1 c2 hne 29 29 4 cur.size (by unfold World.shape?;rw [hvb];rfl) (by unfold World.shape?;rw [hg]) h0 (frozen_of_row _ _ _ _ _ hvb) (frozen_of_row _ _ _ _ _ hvb)]
 rfl
set_option maxHeartbeats 8000000 in
theorem insert_room (l : List Gr) (t : Gr) (i g cap vb : Nat) (X rest : List Value) (hX : X.length = 4) (B0 : Nat) (w : World) (hil : i < l.length) (hB : B0 ≤ g) (hg : w.heap[g]? = some (.cells (encRow grCells l ++ (X ++ rest)).toArray 29 (0, 0))) (hlen : (encRow grCells l ++ (X ++ rest)).length = cap * 4) (hcm : cap ≤ maxLen)
  (hvb : w.heap[vb]? = some (.cells (grCells t).toArray 29 (0, 0))) (hne : vb ≠ g) (hl : l.length ≤ 200000) :
  Calls Try.prog 46 #[.slice (some ⟨g, 0, none⟩) l.length cap, .int .i64 i, .slice (some ⟨vb, 0, none⟩) 1 1] w (InsPost B0 w (.slice (some ⟨g, 0, none⟩) l.length cap) (insG l i t)):=by
 have hll:=encRow_len grCells_len l
 have hroom : l.length + 1 ≤ cap:=by
  rw [List.length_append, List.length_append, hll, hX] at hlen;omega
 have hov : ∀ c1 c2, (callFunc 71 #[.slice (some ⟨vb, 0, none⟩) 1 1, .slice (some ⟨g, (i + 1) * 4, none⟩) c1 c2]).run Try.prog w = .ok (.value (.bool false)) w:=fun c1 c2=>overlaps_no _ vb g _ c1 c2 _ w hvb hg hne (by rw [List.size_toArray, hlen];omega)
 have HIns:=Lib.hid (ins_rows l i t X rest hX hil)
 have HLen:=Lib.hid hlen
 have HG : Hid (w.drew.heap[g]? = some (.cells (encRow grCells l ++ (X ++ rest)).toArray 29 (0, 0))):=hg
 have lD : (encRow grCells (l.drop i)).length = (l.length - i) * 4:=by rw [encRow_len grCells_len, List.length_drop]
 have H0 : Hid (l.length - i = Nat.min (l.length + 1 - i) (l.length - i)):=by show _ = _;simp only [Nat.min_def];split <;> omega
 have H1 : Hid ((encRow grCells (l.drop i)).length = (l.length - i) * 4):=lD
 have H2 : Hid (∀ j v, (encRow grCells (l.drop i))[j]? = some v → w.drew.cell? ((⟨g, i * 4, none⟩ : Addr).add j) = some v):=row_src (W:=w.drew) hg (i * 4) (fun j v hj=>by
  have e2 : encRow grCells l = encRow grCells (l.take i) ++ encRow grCells (l.drop i):=by rw [← encRow_append, List.take_append_drop]
  have lA : (encRow grCells (l.take i)).length = i * 4:=by rw [encRow_len grCells_len, List.length_take, Nat.min_eq_left (by omega)]
  rw [e2, List.append_assoc, List.getElem?_append_right (by omega), lA, Nat.add_sub_cancel_left, List.getElem?_append_left (List.getElem?_eq_some_iff.1 hj).1]
  exact hj)
 have H3 : Hid ((i + 1) * 4 + (encRow grCells (l.drop i)).length ≤ (encRow grCells l ++ (X ++ rest)).length):=by show _ ≤ _;rw [lD, hlen];omega
 have H4 : Hid (∀ v ∈ encRow grCells (l.drop i), v.oneCell' = true):=one_grs _
 have HV : Hid (w.heap[vb]? = some (.cells (grCells t).toArray 29 (0, 0)) ∧ vb < w.heap.size ∧ vb ≠ g):=⟨hvb, (Array.getElem?_eq_some_iff.1 hvb).1, hne⟩
 have HN : Hid (i < l.length ∧ l.length ≤ 200000 ∧ l.length + 1 ≤ cap ∧ cap ≤ maxLen ∧ B0 ≤ g):=⟨hil, hl, hroom, hcm, hB⟩
 have hz2 : ((i : Int) == (l.length : Int)) = false:=by rw [beq_eq_false_iff_ne];omega
 have hi0 : (0 : Int) ≤ (i : Int):=by omega
 have hin : (i : Int) ≤ (l.length : Int):=by omega
 have hc1 : ¬ (cap : Int) < (l.length : Int) + 1:=by omega
 have hc2 : (l.length : Int) + 1 ≤ (cap : Int):=by omega
 have hc3 : ¬ cap = i:=by omega
 have hc4 : ¬ cap = i + 1:=by omega
 have hin1 : (i : Int) + 1 ≤ (l.length : Int) + 1:=by omega
 have hi01 : (0 : Int) ≤ (i : Int) + 1:=by omega
 have hin2 : (i : Int) ≤ (l.length : Int) + 1:=by omega
 have hw1 : IntKind.i64.wrap ((l.length : Int) + 1) = ((l.length + 1 : Nat) : Int):=by rw [IntKind.wrap_i64];omega
 have hw2 : IntKind.i64.wrap ((i : Int) + 1) = ((i + 1 : Nat) : Int):=by rw [IntKind.wrap_i64];omega
 clear hll hroom hil hlen hcm hvb hne hl hB hg lD
 go_enter Try.func46, Try.ntmps46
 go_wp2_with (simp only [hov])
 clear hov
 go_region_law (refine step_copy_row rfl (.tmp 73) (.tmp 76) 23 23 rfl 29 Try.underlying23 4 (l.length - i) info_gr g ((i + 1) * 4) (l.length - i) (cap - (i + 1)) ⟨g, i * 4, none⟩ (l.length + 1 - i) (cap - i) (by simp [Act.eval, Act.put]) (by simp [Act.eval, Act.put]) (encRow grCells l ++ (X ++ rest)) 29 HG.out (encRow grCells (l.drop i)) H0.out H1.out H2.out H3.out H4.out ?_;intro w4 hw4)
 have HG4 : Hid (w4.heap[g]? = some (.cells (splice (encRow grCells l ++ (X ++ rest)) ((i + 1) * 4) (encRow grCells (l.drop i))).toArray 29 (0, 0))):=by
  show _ = _
  rw [hw4.out]
  exact setRow_heap _ _ _ _ _ _ HG.out
 have HB4 : Hid (w.grownBy w4 (some g)):=by show World.grownBy _ _ _;rw [hw4.out];exact @grown_trans w w.drew _ _ ⟨rfl, rfl, rfl, Nat.le_refl _, fun _ _ _=>rfl⟩ (grown_setRow w.drew g _)
 have HV4 : Hid (w4.heap[vb]? = some (.cells (grCells t).toArray 29 (0, 0))):=(HB4.out.block vb HV.out.2.1 (fun e=>HV.out.2.2 (Option.some.inj e))).trans HV.out.1
 have hl4 : (splice (encRow grCells l ++ (X ++ rest)) ((i + 1) * 4) (encRow grCells (l.drop i))).length = cap * 4:=by rw [length_splice _ _ _ H3.out, HLen.out]
 have H5 : Hid (i * 4 + (grCells t).length ≤ (splice (encRow grCells l ++ (X ++ rest)) ((i + 1) * 4) (encRow grCells (l.drop i))).length):=by
  show _ ≤ _
  rw [hl4, grCells_len]
  have:=HN.out
  omega
 have H6 : Hid (1 = Nat.min 1 (l.length + 1 - i)):=by
  show (1 : Nat) = _
  have:=HN.out
  simp only [Nat.min_def]
  split <;> omega
 clear hw4 hl4 H0 H1 H2 H3 H4 HG
 rw [encRow1] at HIns
 go_wp2_with (first | ((with_reducible refine wpList_copy_row rfl (.tmp 80) (.tmp 81) 23 23 rfl 29 Try.underlying23 4 1 info_gr g (i * 4) (l.length + 1 - i) (cap - i) ⟨vb, 0, none⟩ 1 1 ?_ ?_ (splice (encRow grCells l ++ (X ++ rest)) ((i + 1) * 4) (encRow grCells (l.drop i))) 29 HG4.out (grCells t) H6.out ?_ ?_ H5.out ?_ ?_);(exact rfl);(exact rfl);(exact rfl);(exact obj_src HV4.out);(exact one_gr t)))
 intro w5 hw5
 have HG5 : Hid (w5.heap[g]? = some (.cells (encRow grCells (insG l i t) ++ rest).toArray 29 (0, 0))):=by
  show _ = _
  rw [hw5.out, HIns.out]
  exact setRow_heap _ _ _ _ _ _ HG4.out
 have HB5 : Hid (w.grownBy w5 (some g)):=by rw [hw5.out];exact grown_trans HB4.out (grown_setRow w4 g _)
 have HL5 : Hid ((encRow grCells (insG l i t ++ []) ++ rest).length = cap * 4):=by
  show _ = _
  have:=HLen.out
  rw [List.length_append, encRow_len grCells_len, List.length_append, hX] at this
  rw [List.append_nil, List.length_append, encRow_len grCells_len, insG_len]
  omega
 clear hw5
 go_wp2_with fail
 go_ret
 have hlen5:=insG_len l i t
 refine ⟨_, rfl, ?_, HB5.out, .inl rfl⟩
 rw [hlen5, ← hlen5, grRow_enc]
 have h:=own_close (m:=[]) grCells_len HN.out.2.2.2.2 (by rw [List.append_nil];exact HG5.out) (by rw [hlen5];exact HN.out.2.2.1) HN.out.2.2.2.1 HL5.out
 rw [hlen5] at h ⊢
 exact h
end Go.Proofs.Ytooaldglgkjjgaa
/- the library's Insert of one grant, where there is no room -/
namespace Go.Proofs.Ytooaldglgkjjgaa
open Go.RowKit
set_option maxRecDepth 20000
set_option linter.unusedSimpArgs false
set_option linter.unusedVariables false

theorem zero_lenG (n : Nat) : (Builtin.zeroCells (grCells grNil).toArray n).toList.length = n * 4:=by simp [Builtin.zeroCells, grCells]
theorem info_grz : (Try.prog.info? 29).map (fun i=>(i.zero, i.size, i.bytes)) = some (some (.agg (grCells grNil).toArray), 4, 32):=by kernel_rfl
theorem ins_rows2 (l : List Gr) (i : Nat) (t : Gr) (Z1 Z2 : List Value) (hil : i < l.length) (hZ : Z1.length = (l.length + 1 - i) * 4) :
  splice (splice (encRow grCells (l.take i) ++ (Z1 ++ Z2)) (i * 4) (grCells t)) ((i + 1) * 4) (encRow grCells (l.drop i)) = encRow grCells (insG l i t) ++ Z2:=by
 have lA : (encRow grCells (l.take i)).length = i * 4:=by rw [encRow_len grCells_len, List.length_take, Nat.min_eq_left (by omega)]
 have lD : (encRow grCells (l.drop i)).length = (l.length - i) * 4:=by rw [encRow_len grCells_len, List.length_drop]
 obtain ⟨z0, Z3, rfl, hz0⟩ : ∃ z0 Z3, Z1 = z0 ++ Z3 ∧ z0.length = 4:=⟨Z1.take 4, Z1.drop 4, (List.take_append_drop 4 Z1).symm, by rw [List.length_take, hZ];omega⟩
 rw [List.length_append, hz0] at hZ
 have e1 : encRow grCells (l.take i) ++ ((z0 ++ Z3) ++ Z2) = encRow grCells (l.take i) ++ (z0 ++ (Z3 ++ Z2)):=by simp
 rw [e1, splice_mid (by rw [hz0, grCells_len]) lA]
 have e2 : encRow grCells (l.take i) ++ (grCells t ++ (Z3 ++ Z2)) = (encRow grCells (l.take i) ++ grCells t) ++ (Z3 ++ Z2):=by simp
 rw [e2, splice_mid (by rw [lD];omega) (by rw [List.length_append, lA, grCells_len];omega)]
 unfold insG
 rw [encRow_append]
 show (encRow grCells (l.take i) ++ grCells t) ++ (encRow grCells (l.drop i) ++ Z2) = (encRow grCells (l.take i) ++ (grCells t ++ encRow grCells (l.drop i))) ++ Z2
 simp
set_option maxHeartbeats 8000000 in
theorem insert_grow (l : List Gr) (t : Gr) (i g cap vb : Nat) (rest : List Value) (B0 : Nat) (w : World) (hil : i < l.length) (hB0 : B0 ≤ w.heap.size) (hg : w.heap[g]? = some (.cells (encRow grCells l ++ rest).toArray 29 (0, 0))) (hcap : cap = l.length)
  (hvb : w.heap[vb]? = some (.cells (grCells t).toArray 29 (0, 0))) (hl : l.length ≤ 200000) :
  Calls Try.prog 46 #[.slice (some ⟨g, 0, none⟩) l.length cap, .int .i64 i, .slice (some ⟨vb, 0, none⟩) 1 1] w (InsPost B0 w (.slice (some ⟨g, 0, none⟩) l.length cap) (insG l i t)):=by
 subst hcap
 obtain ⟨i0, hi0, hz0, hzs, hzb⟩:=info_of info_grz
 have lA : (encRow grCells (l.take i)).length = i * 4:=by rw [encRow_len grCells_len, List.length_take, Nat.min_eq_left (by omega)]
 have lD : (encRow grCells (l.drop i)).length = (l.length - i) * 4:=by rw [encRow_len grCells_len, List.length_drop]
 have e2 : encRow grCells l = encRow grCells (l.take i) ++ encRow grCells (l.drop i):=by rw [← encRow_append, List.take_append_drop]
 have hold : (Builtin.firstCells i0.size i (.slice (some ⟨g, 0, none⟩) i l.length)).run Try.prog w.drew = .ok (encRow grCells (l.take i)).toArray w.drew:=by
  rw [hzs]
  exact run_firstCells_some w.drew 4 i ⟨g, 0, none⟩ i l.length (encRow grCells (l.take i)) (by rw [lA]) (row_src (W:=w.drew) hg 0 (fun j v hj=>by
   rw [Nat.zero_add, e2, List.append_assoc, List.getElem?_append_left (List.getElem?_eq_some_iff.1 hj).1]
   exact hj))
 obtain ⟨G, hG⟩ : ∃ G, G = grownCap w (l.length + 1) l.length 29:=⟨_, rfl⟩
 have hGn : l.length + 1 ≤ G:=by rw [hG];exact grownCap_ge w _ _ _
 have hGm : G ≤ maxLen:=by rw [hG];exact grownCap_le_maxLen w _ _ _ (by unfold maxLen;omega)
 obtain ⟨Z1, hZ1⟩ : ∃ Z1, Z1 = (Builtin.zeroCells (grCells grNil).toArray (l.length + 1 - i)).toList:=⟨_, rfl⟩
 obtain ⟨Z2, hZ2⟩ : ∃ Z2, Z2 = (Builtin.zeroCells (grCells grNil).toArray (G - (l.length + 1))).toList:=⟨_, rfl⟩
 have hl1 : Z1.length = (l.length + 1 - i) * 4:=by rw [hZ1, zero_lenG]
 have hl2 : Z2.length = (G - (l.length + 1)) * 4:=by rw [hZ2, zero_lenG]
 have hr : (Builtin.append_ #[23, 3] 23 #[.slice (some ⟨g, 0, none⟩) i l.length, .int .i64 ((l.length : Int) + 1 - (i : Int))]).run Try.prog w =
   .ok (.slice (some ⟨w.heap.size, 0, none⟩) (l.length + 1) G) (w.drew.alloc (.cells (encRow grCells (l.take i) ++ (Z1 ++ Z2)).toArray 29)):=by
  have h:=Lib.run_append_grow_zeros (P:=Try.prog) w 23 3 23 29 i0 _ .i64 .i64 Try.underlying23 Try.underlying3 hi0 hz0 (some ⟨g, 0, none⟩) i l.length (encRow grCells (l.take i)) hold (l.length + 1 - i) (by omega) (by omega) (by omega) (by omega) (by rw [hzb];omega) (by
   rw [hzb, show i + (l.length + 1 - i) = l.length + 1 from by omega]
   exact growslice_fits (by omega) (by omega))
  rw [show i + (l.length + 1 - i) = l.length + 1 from by omega, ← hG] at h
  rw [show (l.length : Int) + 1 - (i : Int) = ((l.length + 1 - i : Nat) : Int) from by omega, h]
  congr 3
  rw [hZ1, hZ2]
  apply Array.toList_inj.1
  simp [Value.cells]
 have hgw:=(Array.getElem?_eq_some_iff.1 hg).1
 have hvw:=(Array.getElem?_eq_some_iff.1 hvb).1
 have HIns:=Lib.hid (ins_rows2 l i t Z1 Z2 hil hl1)
 obtain ⟨w1, hw1⟩ : ∃ w1, w1 = w.drew.alloc (.cells (encRow grCells (l.take i) ++ (Z1 ++ Z2)).toArray 29):=⟨_, rfl⟩
 rw [← hw1] at hr
 have HG1 : Hid (w1.heap[w.heap.size]? = some (.cells (encRow grCells (l.take i) ++ (Z1 ++ Z2)).toArray 29 (0, 0))):=by
  show _ = _
  rw [hw1]
  exact heap_alloc_last w.drew _
 have HB1 : Hid (w.grownBy w1 none ∧ w1.heap.size = w.heap.size + 1):=by
  rw [hw1]
  exact ⟨⟨rfl, rfl, rfl, by simp, fun k hk _=>by
   show (w.heap.push _)[k]? = _
   rw [Array.getElem?_push, if_neg (by omega)]⟩, by simp⟩
 have HV1 : Hid (w1.heap[vb]? = some (.cells (grCells t).toArray 29 (0, 0))):=(HB1.out.1.block vb hvw (by simp)).trans hvb
 have HGg : Hid (w1.heap[g]? = some (.cells (encRow grCells l ++ rest).toArray 29 (0, 0)) ∧ g ≠ w.heap.size):=⟨(HB1.out.1.block g hgw (by simp)).trans hg, by omega⟩
 have hlR : (encRow grCells (l.take i) ++ (Z1 ++ Z2)).length = G * 4:=by
  rw [List.length_append, List.length_append, lA, hl1, hl2];omega
 have H5 : Hid (i * 4 + (grCells t).length ≤ (encRow grCells (l.take i) ++ (Z1 ++ Z2)).length):=by
  show i * 4 + 4 ≤ _
  rw [hlR];omega
 have H6 : Hid (1 = Nat.min 1 (l.length + 1 - i)):=by
  show (1 : Nat) = _
  simp only [Nat.min_def]
  split <;> omega
 have hlS : (splice (encRow grCells (l.take i) ++ (Z1 ++ Z2)) (i * 4) (grCells t)).length = G * 4:=by rw [length_splice _ _ _ H5.out, hlR]
 have H0 : Hid (l.length - i = Nat.min (l.length - i) (l.length - i)):=by show _ = _;simp only [Nat.min_def];split <;> omega
 have H1 : Hid ((encRow grCells (l.drop i)).length = (l.length - i) * 4):=lD
 have H3 : Hid ((i + 1) * 4 + (encRow grCells (l.drop i)).length ≤ (splice (encRow grCells (l.take i) ++ (Z1 ++ Z2)) (i * 4) (grCells t)).length):=by
  show _ ≤ _
  rw [hlS, lD];omega
 have H4 : Hid (∀ v ∈ encRow grCells (l.drop i), v.oneCell' = true):=one_grs _
 have HSrc : Hid (∀ W : World, W.heap[g]? = some (.cells (encRow grCells l ++ rest).toArray 29 (0, 0)) → ∀ j v, (encRow grCells (l.drop i))[j]? = some v → W.cell? ((⟨g, i * 4, none⟩ : Addr).add j) = some v):=fun W hW=>row_src hW (i * 4) (fun j v hj=>by
  rw [e2, List.append_assoc, List.getElem?_append_right (by omega), lA, Nat.add_sub_cancel_left, List.getElem?_append_left (List.getElem?_eq_some_iff.1 hj).1]
  exact hj)
 have HL5 : Hid ((encRow grCells (insG l i t ++ []) ++ Z2).length = G * 4):=by
  show _ = _
  rw [List.append_nil, List.length_append, encRow_len grCells_len, insG_len, hl2]
  omega
 have HN : Hid (i < l.length ∧ l.length ≤ 200000 ∧ l.length + 1 ≤ G ∧ G ≤ maxLen ∧ B0 ≤ w.heap.size):=⟨hil, hl, hGn, hGm, hB0⟩
 have hz2 : ((i : Int) == (l.length : Int)) = false:=by rw [beq_eq_false_iff_ne];omega
 have hi00 : (0 : Int) ≤ (i : Int):=by omega
 have hi01 : (0 : Int) ≤ (i : Int) + 1:=by omega
 have hin : (i : Int) ≤ (l.length : Int):=by omega
 have hGi : (G : Int) ≤ 9223372036854775807:=by unfold maxLen at hGm;omega
 have hc3 : ¬ l.length = i:=by omega
 have hc4 : ¬ G = i + 1:=by omega
 have hc5 : ¬ G = i:=by omega
 have hin1 : (i : Int) + 1 ≤ (l.length : Int) + 1:=by omega
 have hin2 : (i : Int) ≤ (l.length : Int) + 1:=by omega
 have hlt1 : (l.length : Int) < (l.length : Int) + 1:=by omega
 have hw1' : IntKind.i64.wrap ((l.length : Int) + 1) = (l.length : Int) + 1:=by rw [IntKind.wrap_i64];omega
 have hw2 : IntKind.i64.wrap ((i : Int) + 1) = (i : Int) + 1:=by rw [IntKind.wrap_i64];omega
 have hw3 : IntKind.i64.wrap ((l.length : Int) + 1 - (i : Int)) = (l.length : Int) + 1 - (i : Int):=by rw [IntKind.wrap_i64];omega
 clear hil hB0 hg hvb hl lA lD e2 hold hG hGn hGm hZ1 hZ2 hl1 hl2 hlR hlS hgw hvw hw1 hi0 hz0 hzs hzb
 go_enter Try.func46, Try.ntmps46
 go_wp2_with (first
  | (at_builtin;refine Lib.wpList_append_run _ rfl (.tmp 34) (.tmp 39) _ _ rfl _ _ rfl rfl _ _ hr ?_)
  | ((with_reducible refine wpList_copy_row rfl (.tmp 43) (.tmp 44) 23 23 rfl 29 Try.underlying23 4 1 info_gr w.heap.size (i * 4) (l.length + 1 - i) (G - i) ⟨vb, 0, none⟩ 1 1 ?_ ?_ (encRow grCells (l.take i) ++ (Z1 ++ Z2)) 29 HG1.out (grCells t) H6.out ?_ ?_ H5.out ?_ ?_);(exact rfl);(exact rfl);(exact rfl);(exact obj_src HV1.out);(exact one_gr t)))
 intro w4 hw4
 have HG4 : Hid (w4.drew.heap[w.heap.size]? = some (.cells (splice (encRow grCells (l.take i) ++ (Z1 ++ Z2)) (i * 4) (grCells t)).toArray 29 (0, 0))):=by
  show w4.heap[w.heap.size]? = _
  rw [hw4.out]
  exact setRow_heap _ _ _ _ _ _ HG1.out
 have HS4 : Hid (∀ j v, (encRow grCells (l.drop i))[j]? = some v → w4.drew.cell? ((⟨g, i * 4, none⟩ : Addr).add j) = some v):=HSrc.out w4.drew (by
  show w4.heap[g]? = _
  rw [hw4.out, setRow_other _ _ _ _ HGg.out.2]
  exact HGg.out.1)
 have HB4 : Hid (w.grownBy w4 none):=by
  show World.grownBy _ _ _
  rw [hw4.out]
  exact ⟨HB1.out.1.os, HB1.out.1.tape, HB1.out.1.output, by simp [World.setRow];have:=HB1.out.2;omega, fun k hk _=>by
   rw [setRow_other _ _ _ _ (by omega)]
   exact HB1.out.1.block k hk (by simp)⟩
 clear hw4 HSrc HGg HV1 HG1 hr
 go_wp2_with fail
 go_region_law (refine step_copy_row rfl (.tmp 50) (.tmp 53) 23 23 rfl 29 Try.underlying23 4 (l.length - i) info_gr w.heap.size ((i + 1) * 4) (l.length - i) (G - (i + 1)) ⟨g, i * 4, none⟩ (l.length - i) (l.length - i) (by simp [Act.eval, Act.put]) (by simp [Act.eval, Act.put]) (splice (encRow grCells (l.take i) ++ (Z1 ++ Z2)) (i * 4) (grCells t)) 29 HG4.out (encRow grCells (l.drop i)) H0.out H1.out HS4.out H3.out H4.out ?_;intro w5 hw5)
 have HG5 : Hid (w5.heap[w.heap.size]? = some (.cells (encRow grCells (insG l i t) ++ Z2).toArray 29 (0, 0))):=by
  show _ = _
  rw [hw5.out, HIns.out]
  exact setRow_heap _ _ _ _ _ _ HG4.out
 have HB5 : Hid (w.grownBy w5 (some g)):=by
  show World.grownBy _ _ _
  rw [hw5.out]
  exact ⟨HB4.out.os, HB4.out.tape, HB4.out.output, by simp [World.setRow];exact HB4.out.size, fun k hk _=>by
   rw [setRow_other _ _ _ _ (by omega)]
   exact HB4.out.block k hk (by simp)⟩
 clear hw5
 go_wp2_with fail
 go_ret
 have hlen5:=insG_len l i t
 refine ⟨_, rfl, ?_, HB5.out, .inr rfl⟩
 rw [grRow_enc]
 have h:=own_close (m:=[]) grCells_len HN.out.2.2.2.2 (by rw [List.append_nil];exact HG5.out) (by rw [hlen5];exact HN.out.2.2.1) HN.out.2.2.2.1 HL5.out
 rw [hlen5] at h ⊢
 exact h
/-- an insertion into a slice of the walk's own -/
theorem insert_own (l : List Gr) (t : Gr) (i : Nat) (v : Value) (B0 vb : Nat) (w : World) (hi : i ≤ l.length) (own : w.ownsRow B0 29 4 v l.length (grRow l)) (hvb : w.heap[vb]? = some (.cells (grCells t).toArray 29 (0, 0))) (hne : v.ownBlock ≠ some vb) (hB0 : B0 ≤ w.heap.size) (hl : l.length ≤ 200000) :
  Calls Try.prog 46 #[v, .int .i64 i, .slice (some ⟨vb, 0, none⟩) 1 1] w (InsPost B0 w v (insG l i t)):=by
 rcases Nat.lt_or_eq_of_le hi with h | h
 ·rw [grRow_enc] at own
  rcases own_open grCells_len own rfl (by decide) with ⟨_, rfl⟩ | ⟨g, cap, rest, rfl, hB, hg, h1, h2, h3⟩
  ·simp at h
  ·by_cases hc : cap = l.length
   ·exact insert_grow l t i g cap vb rest B0 w h hB0 hg hc hvb hl
   ·have h3':=h3
    rw [List.length_append, encRow_len grCells_len] at h3'
    obtain ⟨X, r2, rfl, hX⟩ : ∃ X r2, rest = X ++ r2 ∧ X.length = 4:=⟨rest.take 4, rest.drop 4, (List.take_append_drop 4 rest).symm, by rw [List.length_take];omega⟩
    exact insert_room l t i g cap vb X r2 hX B0 w h hB hg h3 h2 hvb (fun e=>hne (by rw [e];rfl)) hl
 ·subst h
  have:=insert_end l t v B0 vb w own hvb hB0 hl
  have e : insG l l.length t = l ++ [t]:=by unfold insG;rw [List.take_length, List.drop_length]
  rw [e]
  exact this
end Go.Proofs.Ytooaldglgkjjgaa
/- the program's without and hold (locks) -/
namespace Go.Proofs.Ytooaldglgkjjgaa
open Go.RowKit
set_option maxRecDepth 20000
set_option linter.unusedSimpArgs false
set_option linter.unusedVariables false

theorem pos_filter_low {g : Gr} {l : List Gr} {i : Nat} (h : PosG g l i) : l.filter (fun x=>ltB x g) = l.take i:=by
 conv=>lhs;rw [← List.take_append_drop i l]
 rw [List.filter_append, List.filter_eq_self.2, List.filter_eq_nil_iff.2, List.append_nil]
 ·intro x hx
  obtain ⟨j, hj, rfl⟩:=List.getElem_of_mem hx
  rw [List.length_drop] at hj
  rw [List.getElem_drop, ltB_iff]
  exact h.high (i + j) (by omega) (by omega)
 ·intro x hx
  obtain ⟨j, hj, rfl⟩:=List.mem_take_iff_getElem.1 hx
  exact ltB_iff.2 (h.low j (by omega) (by omega))
theorem pos_filter_high {g : Gr} {l : List Gr} {i k : Nat} (hik : i ≤ k) (h : PosG g l i) (hk : ∀ j (hj : j < l.length), k ≤ j → GLt g l[j]) (hn : ∀ j (hj : j < l.length), i ≤ j → j < k → ¬ GLt g l[j]) : l.filter (fun x=>ltB g x) = l.drop k:=by
 conv=>lhs;rw [← List.take_append_drop k l]
 rw [List.filter_append, List.filter_eq_nil_iff.2, List.filter_eq_self.2, List.nil_append]
 ·intro x hx
  obtain ⟨j, hj, rfl⟩:=List.getElem_of_mem hx
  rw [List.length_drop] at hj
  rw [List.getElem_drop, ltB_iff]
  exact hk (k + j) (by omega) (by omega)
 ·intro x hx
  obtain ⟨j, hj, rfl⟩:=List.mem_take_iff_getElem.1 hx
  rw [ltB_iff]
  rcases Nat.lt_or_ge j i with h1 | h1
  ·exact fun h2=>(h.low j (by omega) h1).asymm h2
  ·exact hn j (by omega) h1 (by omega)
theorem pos_plG {g : Gr} {l : List Gr} {i : Nat} (h : PosG (plG g.tx g.lock) l i) : PosG g l i:=⟨h.le, h.low, h.high⟩
theorem keyAt_iff {g : Gr} {l : List Gr} {i : Nat} : keyAt l i (plG g.tx g.lock) = true ↔ ∃ h : i < l.length, l[i].tx = g.tx ∧ l[i].page = g.page ∧ l[i].slot = g.slot:=by
 unfold keyAt
 rcases Nat.lt_or_ge i l.length with h | h
 ·rw [List.getElem?_eq_getElem h]
  simp only [keyB_iff]
  exact ⟨fun k=>⟨h, k⟩, fun ⟨_, k⟩=>k⟩
 ·rw [List.getElem?_eq_none h]
  simp only [Bool.false_eq_true, false_iff]
  rintro ⟨h2, _⟩;omega
theorem hold_set {g : Gr} {l : List Gr} {i : Nat} (hs : l.Pairwise GLt) (h : PosG g l i) (hk : keyAt l i (plG g.tx g.lock) = true) : holdR l g = l.set i g:=by
 obtain ⟨hi, h1, h2, h3⟩:=keyAt_iff.1 hk
 unfold holdR
 rw [pos_filter_low h, pos_filter_high (Nat.le_succ i) h (fun j hj hij=>?_) (fun j hj h4 h5=>?_), List.set_eq_take_append_cons_drop, if_pos hi]
 ·have:=List.pairwise_iff_getElem.1 hs i j hi hj (by omega)
  unfold GLt at this ⊢;omega
 ·obtain rfl : j = i:=by omega
  unfold GLt;omega
theorem hold_ins {g : Gr} {l : List Gr} {i : Nat} (hs : l.Pairwise GLt) (h : PosG g l i) (hk : keyAt l i (plG g.tx g.lock) = false) : holdR l g = insG l i g:=by
 unfold holdR insG
 rw [pos_filter_low h, pos_filter_high (Nat.le_refl i) h (fun j hj hij=>?_) (fun j hj h4 h5=>by omega)]
 have h1:=h.high j hj hij
 rcases glt_tri l[j] g with h2 | h2 | h2
 ·exact absurd h2 h1
 ·exact h2
 ·exfalso
  rcases Nat.lt_or_eq_of_le hij with h3 | h3
  ·have h4:=List.pairwise_iff_getElem.1 hs i j (by omega) hj h3
   exact h.high i (by omega) (Nat.le_refl _) (by unfold GLt at h4 ⊢;omega)
  ·subst h3
   have:=keyAt_iff.2 ⟨hj, h2⟩
   rw [hk] at this;cases this
/-- a slice of one's own that a callee has written in place, or has laid anew -/
def OwnPost (B0 : Nat) (m : List Gr) (v : Value) (w : World) (e : Ending) (w' : World) : Prop :=
 ∃ u, e = .returned u ∧ w'.ownsRow B0 29 4 u m.length (grRow m) ∧ w.grownBy w' v.ownBlock ∧ ∀ b, u.ownBlock = some b → v.ownBlock = some b ∨ w.heap.size ≤ b
theorem grow_from {a b c : World} {r : Option Nat} (h : Below a.heap.size a b) (k : b.grownBy c r) : a.grownBy c r:=grown_trans (grown_below h) k
set_option maxHeartbeats 8000000 in
theorem hold_any (g : Gr) (l : List Gr) (v : Value) (B0 : Nat) (w : World) (hs : l.Pairwise GLt) (own : w.ownsRow B0 29 4 v l.length (grRow l)) (hB0 : B0 ≤ w.heap.size) (hl : l.length ≤ 200000) :
  Calls Try.prog 67 #[v, .agg (grCells g).toArray] w (OwnPost B0 (holdR l g) v w):=by
 obtain ⟨R, hv, hR, hRb⟩:=own_reads own
 have HPl : Hid (∀ W, Below w.heap.size w W → Calls Try.prog 70 #[v, .int .i64 g.tx, .agg #[.int .i64 g.page, .int .i64 g.slot]] W (PlPost l (plG g.tx g.lock) W)):=fun W hb=>place_any g.tx g.lock l v R W hs hv (hR.below hb) hl
 have HOw : Hid (∀ W, Below w.heap.size w W → W.ownsRow B0 29 4 v l.length (grRow l)):=fun W hb=>own.kept (row:=none) ⟨hb.os, hb.tape, hb.output, hb.size, fun k hk _=>hb.block k hk⟩ (by cases v.ownBlock <;> simp)
 have HSo:=Lib.hid hs
 have HL:=Lib.hid hl
 have HB0:=Lib.hid hB0
 have HLt : Hid (∀ b, v.ownBlock = some b → b < w.heap.size):=fun b hb=>(own.lt b hb).2
 obtain ⟨va, vc, rfl⟩:=own_slice own
 have h1:=(Hp.start w).put 29 (grCells g)
 have HS0 : Hid (Hp w [.ob w.heap.size 29 (grCells g)] (w.alloc (.cells (grCells g).toArray 29))):=h1
 clear h1 hs own hB0 hl hv hR hRb
 obtain ⟨fs, hu⟩:=under_gr
 have HUG:=Lib.hid hu
 have HUX:=Lib.hid under_grs
 clear hu
 go_enter Try.func67, Try.ntmps67
 go_upto_region 1 with (fail)
 generalize (w.alloc (.cells (grCells g).toArray 29)) = w1 at *
 have x0 : w1.cell? ⟨w.heap.size, 0, none⟩ = some (.int .i64 g.tx):=HS0.out.at 0 rfl 0 rfl
 have x1 : w1.cell? ⟨w.heap.size, 1, none⟩ = some (.int .i64 g.page):=HS0.out.at 0 rfl 1 rfl
 have x2 : w1.cell? ⟨w.heap.size, 2, none⟩ = some (.int .i64 g.slot):=HS0.out.at 0 rfl 2 rfl
 go_wp2_with fail
 refine (HPl.out _ HS0.out.old).mono ?_
 rintro e w2 ⟨i, rfl, hp, hb⟩
 have HP:=Lib.hid (pos_plG hp)
 have HS1:=Lib.hid (HS0.out.calls hb)
 clear hb hp HS0 x0 x1 x2 HPl
 cases hq : keyAt l i (plG g.tx g.lock)
 ·have HV:=Lib.hid (hold_ins HSo.out HP.out hq)
  have hi0 : (0 : Int) ≤ (i : Int):=by omega
  have HIl : Hid (i ≤ l.length):=HP.out.le
  have HIn : Hid (∀ W, W.heap[w2.heap.size]? = some (.cells (grCells g).toArray 29 (0, 0)) → Below w2.heap.size w2 W → Calls Try.prog 46 #[.slice va l.length vc, .int .i64 i, .slice (some ⟨w2.heap.size, 0, none⟩) 1 1] W (InsPost B0 W (.slice va l.length vc) (insG l i g))):=fun W h1 h2=>by
   have h3:=HS1.out.old.trans (h2.mono HS1.out.old.size)
   exact insert_own l g i _ B0 w2.heap.size W HIl.out (HOw.out W h3) h1 (fun e=>by have:=HLt.out _ e;have:=HS1.out.old.size;omega) (Nat.le_trans HB0.out h3.size) HL.out
  go_wp2_with (first | ((with_reducible refine wpList_load_ob 29 (.tmp 3) w.heap.size (grCells g) 29 HUG.out ?_ ?_ ?_ ?_ ?_);(exact rfl);(exact HS1.out.get 0 rfl);(exact rfl);(exact info_gr);simp only [Act.put, List.setIfInBounds_toArray, List.set_cons_zero, List.set_cons_succ]) | ((with_reducible refine wpList_build_obs 23 1 elem_gr HUX.out [grCells g] ?_ ?_ ?_ ?_ ?_ ?_);(intro x hx;obtain rfl:=List.mem_singleton.1 hx;rfl);(exact Nat.succ_pos _);(simp only [List.length_cons, List.length_nil];omega);(exact rfl);(simp only [List.map_toArray, List.map_cons, List.map_nil, List.zipIdx_cons, List.zipIdx_nil];exact rfl);simp only [Act.put, List.setIfInBounds_toArray, List.set_cons_zero, List.set_cons_succ]))
  have hal : (w2.alloc (.cells ([grCells g].flatMap id).toArray 29)).heap[w2.heap.size]? = some (.cells (grCells g).toArray 29 (0, 0)):=heap_alloc_last w2 _
  have hab : Below w2.heap.size w2 (w2.alloc (.cells ([grCells g].flatMap id).toArray 29)):=(Below.refl _ _).alloc (Nat.le_refl _) _
  refine (HIn.out _ hal hab).mono ?_
  rintro e w3 ⟨u, rfl, ho, hg, hub⟩
  have HE : Hid (OwnPost B0 (holdR l g) (.slice va l.length vc) w (.returned u) w3):=by
   refine ⟨u, rfl, by rw [HV.out];exact ho, grow_from (HS1.out.old.trans (hab.mono HS1.out.old.size)) hg, fun b hb=>?_⟩
   rcases hub with h | h
   ·exact .inl (h ▸ hb)
   ·right
    rw [h] at hb
    have:=Option.some.inj hb
    have h2:=(HS1.out.old.trans (hab.mono HS1.out.old.size)).size
    omega
  clear hal hab ho hg hub HIn
  go_wp2_with fail
  go_ret
  exact HE.out
 ·have HV:=Lib.hid (hold_set HSo.out HP.out hq)
  obtain ⟨hil, hk1, hk2, hk3⟩:=keyAt_iff.1 hq
  have ho:=HOw.out w2 HS1.out.old
  rw [grRow_enc] at ho
  rcases own_open grCells_len ho rfl (by decide) with ⟨_, rfl⟩ | ⟨gb, cap, rest, hve, hB, hg, h1, h2, h3⟩
  ·simp at hil
  ·cases hve
   have hgw : gb < w2.heap.size:=(Array.getElem?_eq_some_iff.1 hg).1
   have HW4 : Hid (w2.setCells gb (i * 4) (grCells g).toArray.toList = w2.setRow gb (encRow grCells (l.set i g) ++ rest).toArray):=by
    show _ = _
    rw [show (grCells g).toArray.toList = grCells g from rfl, setCells_row hg (by
     rw [List.length_append, encRow_len grCells_len, grCells_len]
     omega) (one_gr g), encRow_set grCells_len rest hil]
   have HTh : Hid (w2.there gb (i * 4) (grCells g).toArray.size):=fun t ht=>by
    have ht6 : t < 4:=ht
    refine ⟨?_, frozen_of_row _ _ _ _ _ hg⟩
    have h : (encRow grCells l ++ rest)[i * 4 + t]? = some ((grCells l[i])[t]'(by rw [grCells_len];exact ht6)):=encRow_at grCells_len rest hil t _ (List.getElem?_eq_getElem _)
    rw [cell_of_row w2 gb (i * 4 + t) _ _ _ hg, List.getElem?_toArray, h];rfl
   have HE : Hid (OwnPost B0 (holdR l g) (.slice (some ⟨gb, 0, none⟩) l.length vc) w (.returned (.slice (some ⟨gb, 0, none⟩) l.length vc)) (w2.setRow gb (encRow grCells (l.set i g) ++ rest).toArray)):=by
    refine ⟨_, rfl, ?_, grow_from HS1.out.old (grown_setRow w2 gb _), fun b hb=>.inl hb⟩
    rw [HV.out, List.length_set, grRow_enc]
    have h:=own_close (e:=29) (m:=[]) (rest:=rest) (l:=l.set i g) (W:=w2.setRow gb (encRow grCells (l.set i g) ++ rest).toArray) grCells_len hB (by rw [List.append_nil];exact setRow_heap _ _ _ _ _ _ hg) (by rw [List.length_set];exact h1) h2 (by
     rw [List.append_nil, List.length_append, encRow_len grCells_len, List.length_set]
     rw [List.length_append, encRow_len grCells_len] at h3
     exact h3)
    rw [List.length_set] at h
    exact h
   have hi0 : (0 : Int) ≤ (i : Int):=by omega
   have hil' : (i : Int) < (l.length : Int):=by omega
   clear ho hg h1 h2 h3 hB hil hk1 hk2 hk3 hgw
   go_wp2_with (first | ((with_reducible refine wpList_load_ob 29 (.tmp 3) w.heap.size (grCells g) 29 HUG.out ?_ ?_ ?_ ?_ ?_);(exact rfl);(exact HS1.out.get 0 rfl);(exact rfl);(exact info_gr);simp only [Act.put, List.setIfInBounds_toArray, List.set_cons_zero, List.set_cons_succ]) | ((with_reducible refine wpList_store_mid rfl 29 (.tmp 20) (.tmp 19) rfl gb (i * 4) (grCells g).toArray ?_ ?_ ?_ ?_ ?_ ?_);(exact rfl);(exact rfl);(exact HTh.out);(exact info_gr);(exact oneCell_gr _);rw [HW4.out]))
   go_ret
   exact HE.out
end Go.Proofs.Ytooaldglgkjjgaa
/- the program's settled (locks) -/
namespace Go.Proofs.Ytooaldglgkjjgaa
open Go.RowKit
open Go.Act renaming put → z0
open List renaming setIfInBounds_toArray → z1, set_cons_zero → z2, set_cons_succ → z3
set_option maxRecDepth 20000
set_option linter.unusedSimpArgs false
set_option linter.unusedVariables false

theorem Hp.grown2 {w W W' : World} {L : List Th} (h : Hp w L W) (i : Nat) {v v' : Value} {t : TypeId} {z n m : Nat} {xs ys : List Value} (e : L[i]? = some (.sl v t z n xs)) (ho : W'.ownsRow w.heap.size t z v' m ys) (hg : W.grownBy W' v.ownBlock) (hb : ∀ b, v'.ownBlock = some b → v.ownBlock = some b ∨ W.heap.size ≤ b) : Hp w (L.set i (.sl v' t z m ys)) W' :=
 h.swap i e _ ho (fun b hb'=>hb b hb') rfl (fun k hk hne=>hg.block k hk (fun e=>hne e.symm)) hg.os hg.tape hg.output hg.size
theorem build_tb1 (a : Option Addr) (n c : Nat) (W : World) : Sem.run Try.prog (Instr.build 25 #[(0, .slice a n c)]) W = .ok (.agg (tbCells (.slice a n c) (.slice none 0 0)).toArray) W:=by kernel_rfl
theorem confB_comm (a b : Gr) : confB a b = confB b a:=by
 rw [Bool.eq_iff_iff, confB_iff, confB_iff]
 exact ⟨Conf.symm, Conf.symm⟩
theorem able_any (h k : List Gr) (x : Gr) : ableB h k x = !(h.any (fun y=>confB x y) || k.any (fun y=>confB x y)):=by
 have e : ∀ l : List Gr, l.all (fun y=>!confB y x) = !l.any (fun y=>confB x y):=fun l=>by
  rw [List.not_any_eq_all_not];congr 1;funext y;rw [confB_comm]
 unfold ableB
 rw [e, e, Bool.not_or]
theorem set_move {h k l : List Gr} {i : Nat} {x : Gr} (hx : l[i]? = some x) (hi : TbIn ⟨h, k ++ l.drop i⟩) (hs : Stuck h k) (ha : ableB h k x = true) : stepS ⟨h, k⟩ x = ⟨holdR h x, k⟩ ∧ TbIn ⟨holdR h x, k ++ l.drop (i + 1)⟩ ∧ Stuck (holdR h x) k:=by
 have hlt:=(List.getElem?_eq_some_iff.1 hx).1
 have hd : l.drop i = x :: l.drop (i + 1):=by rw [List.drop_eq_getElem_cons hlt, (List.getElem?_eq_some_iff.1 hx).2]
 rw [hd] at hi
 exact ⟨stepS_pos (ableB_iff.1 ha), in_move hi (ableB_iff.1 ha), stuck_hold hi hs⟩
theorem set_stay {h k l : List Gr} {i : Nat} {x : Gr} (hx : l[i]? = some x) (hi : TbIn ⟨h, k ++ l.drop i⟩) (hs : Stuck h k) (ha : ableB h k x = false) : stepS ⟨h, k⟩ x = ⟨h, k ++ [x]⟩ ∧ TbIn ⟨h, (k ++ [x]) ++ l.drop (i + 1)⟩ ∧ Stuck h (k ++ [x]):=by
 have hlt:=(List.getElem?_eq_some_iff.1 hx).1
 have hd : l.drop i = x :: l.drop (i + 1):=by rw [List.drop_eq_getElem_cons hlt, (List.getElem?_eq_some_iff.1 hx).2]
 rw [hd] at hi
 exact ⟨stepS_neg (ableB_false.1 ha), by rw [List.append_assoc];exact hi, stuck_snoc hs (ableB_false.1 ha)⟩
theorem fold_take {l : List Gr} {i : Nat} {x : Gr} {s u : Tb} (hx : l[i]? = some x) (hf : (l.take i).foldl stepS s = u) : (l.take (i + 1)).foldl stepS s = stepS u x:=by
 rw [lk_take_snoc hx, List.foldl_append, hf];rfl
def HoPost2 (l : List Gr) (k : Lok) (w : World) (e : Ending) (w' : World) : Prop :=
 ∃ v m R', e = .returned v ∧ GrRd v m R' ∧ RdIn w' R' ∧ m.length ≤ l.length ∧ (∀ x ∈ m, x ∈ l) ∧ (∀ g : Gr, g.page = k.page ∧ g.slot = k.slot → m.any (fun x=>confB g x) = l.any (fun x=>confB g x)) ∧ Below w.heap.size w w'
theorem holders_own (k : Lok) (l : List Gr) (v : Value) (B0 : Nat) (W : World) (hs : HeldOk l) (ho : W.ownsRow B0 29 4 v l.length (grRow l)) (hl : l.length ≤ 200000) : Calls Try.prog 65 #[v, .agg (lkCells k).toArray] W (HoPost2 l k W):=by
 obtain ⟨R, h1, h2, _⟩:=own_reads ho
 exact (holders_any k l v R W hs h1 h2 hl).mono fun e w' ⟨v', m, R', a, b, c, _, d, f, g, h⟩=>⟨v', m, R', a, b, c, d, f, g, h⟩
theorem contains_conf (x : Gr) (m : List Gr) (vm : Value) (Rm : List Rng) (bf : Nat) (W : World) (hx : GoodGr x) (hm : ∀ y ∈ m, GoodGr y) (h1 : GrRd vm m Rm) (h2 : RdIn W Rm) (h3 : RdIn W [(bf, 0, grCells x)]) (hl : m.length ≤ 200000) (c : Bool) (hc : m.any (fun y=>confB x y) = c) :
  Calls Try.prog 64 #[vm, .func (.func 90) #[] #[.pointer (some ⟨bf, 0, none⟩)]] W fun e w'=>e = .returned (.bool c) ∧ Below W.heap.size W w':=by
 have:=contains_any 90 #[.pointer (some ⟨bf, 0, none⟩)] (fun y=>confB x y) m vm Rm W eg_against ((against_at x hx bf m hm).fn h3) h1 h2 hl
 rw [hc] at this
 exact this
theorem contains_own (x : Gr) (m : List Gr) (vm : Value) (B0 bf : Nat) (W : World) (hx : GoodGr x) (hm : ∀ y ∈ m, GoodGr y) (ho : W.ownsRow B0 29 4 vm m.length (grRow m)) (h3 : RdIn W [(bf, 0, grCells x)]) (hl : m.length ≤ 200000) (c : Bool) (hc : m.any (fun y=>confB x y) = c) :
  Calls Try.prog 64 #[vm, .func (.func 90) #[] #[.pointer (some ⟨bf, 0, none⟩)]] W fun e w'=>e = .returned (.bool c) ∧ Below W.heap.size W w':=by
 obtain ⟨R, h1, h2, _⟩:=own_reads ho
 exact contains_conf x m vm R bf W hx hm h1 h2 h3 hl c hc
def TbNew (w : World) (t : Tb) (e : Ending) (w' : World) : Prop :=
 ∃ h v R, e = .returned (.agg (tbCells h v).toArray) ∧ TbRd h v t R ∧ RdIn w' R ∧ (∀ r ∈ R, w.heap.size ≤ r.1) ∧ Below w.heap.size w w'
abbrev qPk12_0 : Oper:={ dst:=some 17, op:=Op.fieldAddr 25 (Operand.tmp 3) 0, type:=0, pos := "locks.go:136", after:=#[], guard:=none }
abbrev qPk12_1 : Oper:={ dst:=some 18, op:=Op.load 23 (Operand.tmp 17), type:=23, pos := "locks.go:136", after:=#[{ on:=0, ground:=Ground.data }], guard:=none }
abbrev qPk12_2 : Oper:={ dst:=some 19, op:=Op.fieldAddr 29 (Operand.tmp 5) 1, type:=0, pos := "locks.go:136", after:=#[], guard:=none }
abbrev qPk12_3 : Oper:={ dst:=some 20, op:=Op.load 27 (Operand.tmp 19), type:=27, pos := "locks.go:136", after:=#[{ on:=2, ground:=Ground.data }], guard:=none }
abbrev qPk12_4 : Oper:={ dst:=some 22, op:=Op.load 29 (Operand.tmp 5), type:=29, pos := "locks.go:136", after:=#[], guard:=none }
abbrev qPk12_5 : Oper:={ dst:=some 21, op:=Op.call { callee:=Callee.value (Operand.func 65), args:=#[Operand.tmp 18, Operand.tmp 20], argTypes:=#[23, 27] }, type:=23, pos := "locks.go:136", after:=#[{ on:=1, ground:=Ground.data }, { on:=3, ground:=Ground.data }], guard:=none }
abbrev qPk12_6 : Oper:={ dst:=some 23, op:=Op.call { callee:=Callee.value (Operand.func 66), args:=#[Operand.tmp 22], argTypes:=#[29] }, type:=69, pos := "locks.go:136", after:=#[{ on:=5, ground:=Ground.data }, { on:=4, ground:=Ground.chain }], guard:=none }
abbrev qPk12_7 : Oper:={ dst:=some 24, op:=Op.call { callee:=Callee.value (Operand.func 64), args:=#[Operand.tmp 21, Operand.tmp 23], argTypes:=#[23, 69] }, type:=4, pos := "locks.go:136", after:=#[{ on:=4, ground:=Ground.data }, { on:=6, ground:=Ground.data }, { on:=6, ground:=Ground.chain }], guard:=none }
abbrev qPk12_8 : Oper:={ dst:=some 25, op:=Op.move (Operand.tmp 24), type:=4, pos := "locks.go:136", after:=#[{ on:=7, ground:=Ground.data }, { on:=7, ground:=Ground.chain }], guard:=none }
abbrev qPk12_9 : Oper:={ dst:=some 26, op:=Op.fieldAddr 25 (Operand.tmp 3) 1, type:=0, pos := "locks.go:136", after:=#[{ on:=8, ground:=Ground.guard }], guard:=some (8, false) }
abbrev qPk12_10 : Oper:={ dst:=some 27, op:=Op.load 23 (Operand.tmp 26), type:=23, pos := "locks.go:136", after:=#[{ on:=9, ground:=Ground.data }, { on:=8, ground:=Ground.guard }], guard:=some (8, false) }
abbrev qPk12_11 : Oper:={ dst:=some 28, op:=Op.load 29 (Operand.tmp 5), type:=29, pos := "locks.go:136", after:=#[{ on:=8, ground:=Ground.guard }], guard:=some (8, false) }
abbrev qPk12_12 : Oper:={ dst:=some 29, op:=Op.call { callee:=Callee.value (Operand.func 66), args:=#[Operand.tmp 28], argTypes:=#[29] }, type:=69, pos := "locks.go:136", after:=#[{ on:=11, ground:=Ground.data }, { on:=8, ground:=Ground.chain }, { on:=8, ground:=Ground.guard }], guard:=some (8, false) }
abbrev qPk12_13 : Oper:={ dst:=some 30, op:=Op.call { callee:=Callee.value (Operand.func 64), args:=#[Operand.tmp 27, Operand.tmp 29], argTypes:=#[23, 69] }, type:=4, pos := "locks.go:136", after:=#[{ on:=10, ground:=Ground.data }, { on:=12, ground:=Ground.data }, { on:=12, ground:=Ground.chain }, { on:=8, ground:=Ground.guard }], guard:=some (8, false) }
abbrev qPk12_14 : Oper:={ dst:=some 31, op:=Op.pick (Operand.tmp 25) (Operand.const (Value.bool true)) (Operand.tmp 30), type:=4, pos := "locks.go:136", after:=#[{ on:=8, ground:=Ground.data }, { on:=13, ground:=Ground.data }], guard:=none }
set_option maxHeartbeats 16000000 in
theorem settled_any {h v : Value} {t : Tb} {R : List Rng} (w : World) (ht : TbRd h v t R) (hR : RdIn w R) (hin : TbIn t) (hf : t.held.length + t.wait.length ≤ 2048) :
  Calls Try.prog 38 #[.agg (tbCells h v).toArray] w (TbNew w (settleR t)):=by
 obtain ⟨a, cap, rfl, hnc, hcm⟩:=ht.1.shape
 obtain ⟨a2, cap2, rfl, hnc2, hcm2⟩:=ht.2.shape
 obtain ⟨_, _, e2, _, _, hg0⟩:=SlRd.open ht.2 hR
 cases e2
 have HCl : Hid (∀ W, Below w.heap.size w W → Calls Try.prog 47 #[.slice a t.held.length cap] W fun e w'=>∃ u, e = .returned u ∧ Below W.heap.size W w' ∧ w'.ownsRow W.heap.size 29 4 u t.held.length (grRow t.held)):=fun W hb=>cloneG_any t.held _ R W ht.1 (hR.below hb) (by omega)
 have HFw:=Lib.hid hf
 have HIn:=Lib.hid hin
 have HSt : Hid (settleR t = t.wait.foldl stepS ⟨t.held, []⟩):=rfl
 have HUX:=Lib.hid under_grs
 have h1:=((Hp.start w).put 25 (tbCells (.slice a t.held.length cap) (.slice a2 t.wait.length cap2))).put 25 (tbCells (.slice none 0 0) (.slice none 0 0))
 simp only [World.size_alloc, List.nil_append, List.cons_append] at h1
 have HS0 : Hid (Hp w [.ob w.heap.size 25 (tbCells (.slice a t.held.length cap) (.slice a2 t.wait.length cap2)), .ob (w.heap.size + 1) 25 (tbCells (.slice none 0 0) (.slice none 0 0))] ((w.alloc (.cells (tbCells (.slice a t.held.length cap) (.slice a2 t.wait.length cap2)).toArray 25)).alloc (.cells #[.slice none 0 0, .slice none 0 0] 25))):=h1
 clear h1 ht hR hin hf hnc hcm hnc2 hcm2
 obtain ⟨fsHUG, huHUG⟩:=under_gr
 have HUG:=Lib.hid huHUG
 clear huHUG
 obtain ⟨fsHUT, huHUT⟩:=under_tb
 have HUT:=Lib.hid huHUT
 clear huHUT
 obtain ⟨fsHUK, huHUK⟩:=under_lk
 have HUK:=Lib.hid huHUK
 clear huHUK
 obtain ⟨S, hS⟩ : ∃ S, settleR t = S:=⟨_, rfl⟩
 rw [hS] at HSt ⊢
 clear hS
 go_enter Try.func38, Try.ntmps38
 go_upto_region 1 with (fail)
 generalize ((w.alloc (.cells (tbCells (.slice a t.held.length cap) (.slice a2 t.wait.length cap2)).toArray 25)).alloc (.cells #[.slice none 0 0, .slice none 0 0] 25)) = w1 at *
 generalize w.heap.size + 1 = b2 at *
 have b0 : w1.cell? ⟨w.heap.size, 0, none⟩ = some (.slice a t.held.length cap):=HS0.out.at 0 rfl 0 rfl
 go_wp2_with fail
 refine (HCl.out _ (HS0.out).old).mono ?_
 rintro e w21 ⟨u0, rfl, hb, ho⟩
 have HS21:=Lib.hid ((HS0.out).addown hb ho)
 clear hb ho
 clear HS0
 clear b0 HCl
 obtain ⟨a0, c0, rfl⟩:=own_slice (HS21.out.own 2 rfl)
 go_upto_region 2 with (first | ((with_reducible refine wpList_build_v (d:=some 9) 25 (.agg (tbCells (.slice a0 t.held.length c0) (.slice none 0 0)).toArray) ?_ ?_);(intro W;simp only [List.map_toArray, List.map_cons, List.map_nil];exact build_tb1 a0 t.held.length c0 W);simp only [z0, z1, z2, z3]) | ((with_reducible refine wpList_alloc_ob 25 (tbCells (.slice none 0 0) (.slice none 0 0)) ?_ ?_);(exact alloc_tb);simp only [z0, z1, z2, z3]) | ((with_reducible refine wpList_store_ob 25 (.tmp 3) (w21.heap.size) (tbCells (.slice a0 t.held.length c0) (.slice none 0 0)) (tbCells (.slice none 0 0) (.slice none 0 0)) 25 ?_ ?_ ?_ ?_ ?_ ?_ ?_);(exact rfl);(exact rfl);(exact ((HS21.out).put 25 (tbCells (.slice none 0 0) (.slice none 0 0))).get 3 rfl);(exact info_tb);(exact rfl);(exact (oneCell_tb _ _ _ _ _ _));skip))
 have HS22 : Hid (Hp w [.ob (w.heap.size) 25 (tbCells (.slice a t.held.length cap) (.slice a2 t.wait.length cap2)), .ob b2 25 (tbCells (.slice none 0 0) (.slice none 0 0)), .sl ((.slice a0 t.held.length c0)) 29 4 (t.held.length) (grRow t.held), .ob (w21.heap.size) 25 (tbCells (.slice a0 t.held.length c0) (.slice none 0 0))] ((w21.alloc (.cells (tbCells (.slice none 0 0) (.slice none 0 0)).toArray 25)).setRow (w21.heap.size) (tbCells (.slice a0 t.held.length c0) (.slice none 0 0)).toArray)):=((HS21.out).put 25 (tbCells (.slice none 0 0) (.slice none 0 0))).row 3 rfl (tbCells (.slice a0 t.held.length c0) (.slice none 0 0))
 clear HS21
 generalize ((w21.alloc (.cells (tbCells (.slice none 0 0) (.slice none 0 0)).toArray 25)).setRow (w21.heap.size) (tbCells (.slice a0 t.held.length c0) (.slice none 0 0)).toArray) = w22 at *
 generalize w21.heap.size = B21 at *
 have HSn:=Lib.hid (HS22.out.nil 29 4)
 have HSp : Hid (Hp w [.ob w.heap.size 25 (tbCells (.slice a t.held.length cap) (.slice a2 t.wait.length cap2)), .ob b2 25 (tbCells (.slice none 0 0) (.slice none 0 0)), .ob B21 25 (tbCells (.slice a0 t.held.length c0) (.slice none ([] : List Gr).length 0)), .sl (.slice a0 t.held.length c0) 29 4 t.held.length (grRow t.held), .sl (.slice none ([] : List Gr).length 0) 29 4 ([] : List Gr).length (grRow [])] w22):=Lib.hid (HSn.out.pull [0, 1, 3, 2, 4] rfl (pull_nd HSn.out.nd [0, 1, 3, 2, 4] rfl (by decide)))
 clear HSn HS22
 have b1 : w22.cell? ⟨w.heap.size, 1, none⟩ = some (.slice a2 t.wait.length cap2):=HSp.out.at 0 rfl 1 rfl
 go_wp2_with fail
 clear b1
 go_loopw [13] (fun iv wr=>∃ (i : Nat) (h k : List Gr) (a3 : Option Addr) (c3 : Nat) (a4 : Option Addr) (c4 : Nat), iv = .int .i64 i ∧ i ≤ t.wait.length ∧ (t.wait.take i).foldl stepS ⟨t.held, []⟩ = ⟨h, k⟩ ∧ TbIn ⟨h, k ++ t.wait.drop i⟩ ∧ Stuck h k ∧ h.length + k.length ≤ t.held.length + i ∧ Hp w [.ob w.heap.size 25 (tbCells (.slice a t.held.length cap) (.slice a2 t.wait.length cap2)), .ob b2 25 (tbCells (.slice none 0 0) (.slice none 0 0)), .ob B21 25 (tbCells (.slice a3 h.length c3) (.slice a4 k.length c4)), .sl (.slice a3 h.length c3) 29 4 h.length (grRow h), .sl (.slice a4 k.length c4) 29 4 k.length (grRow k)] wr) (fun iv _=>t.wait.length - (intOf iv).toNat)
 case atStart=>exact ⟨0, t.held, [], a0, c0, none, 0, rfl, by omega, rfl, HIn.out, stuck_nil _, by simp, HSp.out⟩
 case round =>
  clear HSp HIn
  obtain ⟨i, h, k, a3, c3, a4, c4, rfl, hi, hfo, hin, hst, hlen, hs⟩:=hrel
  have HY:=Lib.hid hs
  have HFo:=Lib.hid hfo
  have HIn:=Lib.hid hin
  have HSk:=Lib.hid hst
  have HLen:=Lib.hid hlen
  clear hs hfo hin hst hlen
  by_cases hlt : i < t.wait.length
  ·obtain ⟨g, off, rfl, hr⟩:=hg0.out (by omega)
   have HRg:=Lib.hid hr
   obtain ⟨x, hx⟩ : ∃ x, t.wait[i]? = some x:=⟨_, List.getElem?_eq_getElem hlt⟩
   have HXi:=Lib.hid hx
   have hxm : x ∈ k ++ t.wait.drop i:=List.mem_append_right _ (by rw [List.drop_eq_getElem_cons hlt, (List.getElem?_eq_some_iff.1 hx).2];exact List.mem_cons_self ..)
   have HGx : Hid (GoodGr x):=(HIn.out.wait.ok x hxm).1.good
   have HGh : Hid (∀ y ∈ h, GoodGr y):=fun y hy=>(HIn.out.held.ok y hy).good
   have HGk : Hid (∀ y ∈ k, GoodGr y):=fun y hy=>(HIn.out.wait.ok y (List.mem_append_left _ hy)).1.good
   have HHk : Hid (HeldOk h):=HIn.out.held
   have HLh : Hid (h.length ≤ 4096 ∧ k.length ≤ 4096):=by show _ ∧ _;have h1:=HLen.out;have h2:=HFw.out;omega
   have hii : (i : Int) < (t.wait.length : Int):=by omega
   have hi0 : (0 : Int) ≤ (i : Int):=by omega
   have hiw : IntKind.i64.wrap ((i : Int) + 1) = (i : Int) + 1:=IntWalk.i64_in _ (by have:=HFw.out;omega)
   have HLt:=Lib.hid hlt
   have hab:=able_any h k x
   have hmv:=fun e=>set_move HXi.out HIn.out HSk.out (x:=x) e
   have hsy:=fun e=>set_stay HXi.out HIn.out HSk.out (x:=x) e
   clear hr hi hx hxm hlt hg0
   go_upto_region 5 with (first | ((with_reducible refine wpList_load_at 29 (.tmp 15) g ((off + i * 4)) (grCells x) HUG.out ?_ ?_ ?_ ?_ ?_);(exact rfl);(exact (elem_rng (HRg.out _ (HY.out).old) HXi.out));(exact rfl);(exact info_gr);simp only [z0, z1, z2, z3]) | ((with_reducible refine wpList_alloc_ob 29 (grCells grNil) ?_ ?_);(exact alloc_gr);simp only [z0, z1, z2, z3]) | ((with_reducible refine wpList_store_ob 29 (.tmp 5) (wr.heap.size) (grCells x) (grCells grNil) 29 ?_ ?_ ?_ ?_ ?_ ?_ ?_);(exact rfl);(exact rfl);(exact ((HY.out).put 29 (grCells grNil)).get 5 rfl);(exact info_gr);(exact rfl);(exact (oneCell_gr _));skip))
   have HS41 : Hid (Hp w [.ob (w.heap.size) 25 (tbCells (.slice a t.held.length cap) (.slice (some ⟨g, off, none⟩) t.wait.length cap2)), .ob b2 25 (tbCells (.slice none 0 0) (.slice none 0 0)), .ob B21 25 (tbCells (.slice a3 h.length c3) (.slice a4 k.length c4)), .sl ((.slice a3 h.length c3)) 29 4 (h.length) (grRow h), .sl ((.slice a4 k.length c4)) 29 4 (k.length) (grRow k), .ob (wr.heap.size) 29 (grCells x)] ((wr.alloc (.cells (grCells grNil).toArray 29)).setRow (wr.heap.size) (grCells x).toArray)):=((HY.out).put 29 (grCells grNil)).row 5 rfl (grCells x)
   clear HY
   generalize ((wr.alloc (.cells (grCells grNil).toArray 29)).setRow (wr.heap.size) (grCells x).toArray) = w41 at *
   generalize wr.heap.size = B41 at *
   obtain ⟨c1, hc1⟩ : ∃ c1, h.any (fun y=>confB x y) = c1:=⟨_, rfl⟩
   obtain ⟨c2, hc2⟩ : ∃ c2, k.any (fun y=>confB x y) = c2:=⟨_, rfl⟩
   have HC1:=Lib.hid hc1
   have HC2:=Lib.hid hc2
   rw [hc1, hc2] at hab
   clear hc1 hc2
   cases c1
   case true =>
    obtain ⟨hv1, hv2, hv3⟩:=hsy (by rw [hab];rfl)
    obtain ⟨kx, hkx⟩ : ∃ kx, k ++ [x] = kx:=⟨_, rfl⟩
    rw [hkx] at hv1 hv2 hv3
    have HKx:=Lib.hid hkx
    clear hkx
    have HV1:=Lib.hid hv1
    have HV2:=Lib.hid hv2
    have HV3:=Lib.hid hv3
    clear hmv hsy hab hv1 hv2 hv3
    refine wp_region_held_drew (S:=fun w'=>w'.rangeAt B21 0 (tbCells (.slice a3 h.length c3) (.slice a4 k.length c4)) ∧ w'.rangeAt B41 0 (grCells x)) (by kernel_rfl) (⟨(fun j v hv=>by rw [Nat.zero_add];exact ((HS41.out).drew).at 2 rfl j hv), (fun j v hv=>by rw [Nat.zero_add];exact ((HS41.out).drew).at 5 rfl j hv)⟩) (fun hHeld=>?_)
    refine tk 0 qPk12_0 (some 17) (v:=?q101v) (Or.inl ⟨by rfl, ?q101h⟩) hHeld ?q101r
    case q101h=>(intro _ h;clear h;go_simp;try with_reducible rfl)
    try simp only [z0, z1, z2, z3]
    refine tk 1 qPk12_1 (some 18) (v:=.slice a3 h.length c3) (Or.inl ⟨by rfl, ?q102h⟩) hHeld ?q102r
    case q102h=>(intro wq hSw;have lq:=(hSw.1) 0 (.slice a3 h.length c3) rfl;simp only [Nat.zero_add] at lq;clear hSw;go_simp;try with_reducible rfl)
    try simp only [z0, z1, z2, z3]
    refine tk 2 qPk12_2 (some 19) (v:=?q103v) (Or.inl ⟨by rfl, ?q103h⟩) hHeld ?q103r
    case q103h=>(intro _ h;clear h;go_simp;try with_reducible rfl)
    try simp only [z0, z1, z2, z3]
    refine tk 3 qPk12_3 (some 20) (yieldsIf_load_mid (by rfl) 27 (.tmp 19) rfl B41 (1) rfl (lkCells x.lock) _ (fun _ h=>range_part (h.2) (mid_lk x)) HUK.out rfl (info_lk)) hHeld ?_
    try simp only [z0, z1, z2, z3]
    refine tk 5 qPk12_4 (some 22) (yieldsIf_load_mid (by rfl) 29 (.tmp 5) rfl B41 (0) rfl (grCells x) _ (fun _ h=>h.2) HUG.out rfl (info_gr)) hHeld ?_
    try simp only [z0, z1, z2, z3]
    refine tn 4 qPk12_5 (fun K hK=>?_)
    go_simp
    go_wp2_with (go_at_call 65;refine (holders_own x.lock h _ w.heap.size _ HHk.out (((HS41.out).drew).own 3 rfl) (by have:=HLh.out;omega)).mono ?_;rintro e w101 ⟨vm, m, Rm, rfl, hrm, him, hml, hms, hma, hb⟩)
    have HRm:=Lib.hid hrm
    have HIm:=Lib.hid him
    have HMl:=Lib.hid hml
    have HMs:=Lib.hid hms
    have HMa:=Lib.hid ((hma x ⟨rfl, rfl⟩).trans HC1.out)
    have HS101:=Lib.hid (((HS41.out).drew).calls hb)
    refine hK.out _ _ (⟨(fun j v hv=>by rw [Nat.zero_add];exact (HS101.out).at 2 rfl j hv), (fun j v hv=>by rw [Nat.zero_add];exact (HS101.out).at 5 rfl j hv)⟩) (fun hHeld=>?_)
    clear hK K hb hrm him hml hms hma
    try simp only [z0, z1, z2, z3]
    refine tn 6 qPk12_6 (fun K hK=>?_)
    go_simp
    go_wp2_with (go_at_call 66;refine (against_any x _).mono ?_;rintro e w102 ⟨bf1, rfl, hin, hnw, hb⟩)
    have HIm2:=Lib.hid (HIm.out.below hb)
    clear HIm
    have HS102 : Hid (Hp w [.ob (w.heap.size) 25 (tbCells (.slice a t.held.length cap) (.slice (some ⟨g, off, none⟩) t.wait.length cap2)), .ob b2 25 (tbCells (.slice none 0 0) (.slice none 0 0)), .ob B21 25 (tbCells (.slice a3 h.length c3) (.slice a4 k.length c4)), .sl ((.slice a3 h.length c3)) 29 4 (h.length) (grRow h), .sl ((.slice a4 k.length c4)) 29 4 (k.length) (grRow k), .ob B41 29 (grCells x), .rd [(bf1, 0, grCells x)]] w102):=(HS101.out).addrd hb [(bf1, 0, grCells x)] hin (fun r hr=>.inl (by obtain rfl:=List.mem_singleton.1 hr;exact hnw))
    refine hK.out _ _ (⟨(fun j v hv=>by rw [Nat.zero_add];exact (HS102.out).at 2 rfl j hv), (fun j v hv=>by rw [Nat.zero_add];exact (HS102.out).at 5 rfl j hv)⟩) (fun hHeld=>?_)
    clear hK K hb hin hnw
    try simp only [z0, z1, z2, z3]
    refine tn 7 qPk12_7 (fun K hK=>?_)
    go_simp
    go_wp2_with (go_at_call 64;refine (contains_conf x m vm Rm _ _ HGx.out (fun y hy=>HGh.out y (HMs.out y hy)) HRm.out HIm2.out ((HS102.out).reads 6 rfl) (by have h1:=HMl.out;have h2:=HLh.out;omega) true HMa.out).mono ?_;rintro e w103 ⟨rfl, hb⟩)
    have HS103:=Lib.hid ((HS102.out).calls hb)
    refine hK.out _ _ (⟨(fun j v hv=>by rw [Nat.zero_add];exact (HS103.out).at 2 rfl j hv), (fun j v hv=>by rw [Nat.zero_add];exact (HS103.out).at 5 rfl j hv)⟩) (fun hHeld=>?_)
    clear hK K hb
    try simp only [z0, z1, z2, z3]
    refine tk 8 qPk12_8 (some 25) (v:=?q106v) (Or.inl ⟨by rfl, ?q106h⟩) hHeld ?q106r
    case q106h=>(intro _ h;clear h;go_simp;try with_reducible rfl)
    try simp only [z0, z1, z2, z3]
    refine tk 9 qPk12_9 (some 26) (v:=undef) (Or.inr ⟨by rfl, rfl⟩) hHeld ?_
    try simp only [z0, z1, z2, z3]
    refine tk 10 qPk12_10 (some 27) (v:=undef) (Or.inr ⟨by rfl, rfl⟩) hHeld ?_
    try simp only [z0, z1, z2, z3]
    refine tk 11 qPk12_11 (some 28) (v:=undef) (Or.inr ⟨by rfl, rfl⟩) hHeld ?_
    try simp only [z0, z1, z2, z3]
    refine tn 12 qPk12_12 (fun K hK=>?_)
    rw [if_neg (by exact Bool.false_ne_true)]
    have HS104:=HS103
    refine hK.out _ _ (⟨(fun j v hv=>by rw [Nat.zero_add];exact (HS104.out).at 2 rfl j hv), (fun j v hv=>by rw [Nat.zero_add];exact (HS104.out).at 5 rfl j hv)⟩) (fun hHeld=>?_)
    clear hK K
    try simp only [z0, z1, z2, z3]
    refine tn 13 qPk12_13 (fun K hK=>?_)
    rw [if_neg (by exact Bool.false_ne_true)]
    have HS105:=HS104
    refine hK.out _ _ (⟨(fun j v hv=>by rw [Nat.zero_add];exact (HS105.out).at 2 rfl j hv), (fun j v hv=>by rw [Nat.zero_add];exact (HS105.out).at 5 rfl j hv)⟩) (fun hHeld=>?_)
    clear hK K
    try simp only [z0, z1, z2, z3]
    refine tk 14 qPk12_14 (some 31) (v:=?q110v) (Or.inl ⟨by rfl, ?q110h⟩) hHeld ?q110r
    case q110h=>(intro _ h;clear h;go_simp;try with_reducible rfl)
    try simp only [z0, z1, z2, z3]
    refine wpAnyH_done (by kernel_rfl) ?_ _
    clear hHeld
    have HS106 : Hid (Hp w [.ob (w.heap.size) 25 (tbCells (.slice a t.held.length cap) (.slice (some ⟨g, off, none⟩) t.wait.length cap2)), .ob b2 25 (tbCells (.slice none 0 0) (.slice none 0 0)), .ob B21 25 (tbCells (.slice a3 h.length c3) (.slice a4 k.length c4)), .sl ((.slice a3 h.length c3)) 29 4 (h.length) (grRow h), .sl ((.slice a4 k.length c4)) 29 4 (k.length) (grRow k), .ob B41 29 (grCells x)] w103):=HS105.out.pull [0, 1, 2, 3, 4, 5] rfl (pull_nd HS105.out.nd [0, 1, 2, 3, 4, 5] rfl (by decide))
    clear HS105
    have q1 : w103.cell? ⟨B21, 1, none⟩ = some (.slice a4 k.length c4):=(HS106.out).at 2 rfl 1 rfl
    go_wp2_with (first | ((with_reducible refine wpList_load_ob 29 (.tmp 5) B41 (grCells x) 29 HUG.out ?_ ?_ ?_ ?_ ?_);(exact rfl);(exact (HS106.out).get 5 rfl);(exact rfl);(exact info_gr);simp only [z0, z1, z2, z3]) | ((with_reducible refine wpList_build_obs 23 1 elem_gr HUX.out [grCells x] ?_ ?_ ?_ ?_ ?_ ?_);(exact (List.forall_mem_cons.2 ⟨rfl, (fun _ h=>absurd h List.not_mem_nil)⟩));(exact Nat.succ_pos _);(simp only [List.length_cons, List.length_nil];omega);(exact rfl);(simp only [List.map_toArray, List.map_cons, List.map_nil, List.zipIdx_cons, List.zipIdx_nil];exact rfl);simp only [z0, z1, z2, z3]) | ((with_reducible refine wpList_append_hp ((HS106.out).put 29 (([grCells x] : List (List Value)).flatMap id)) (.tmp 33) (.tmp 35) 23 4 (v:=(.slice a4 k.length c4)) (e:=29) (z:=4) (n:=k.length) (xs:=grRow k) ?_ 6 (b:=(w103.heap.size)) (t':=29) (ys:=([grCells x] : List (List Value)).flatMap id) ?_ HUX.out elem_gr 1 1 ?_ ?_ ?_ ?_ ?_ ?_);(exact rfl);(exact rfl);(exact rfl);(exact rfl);(exact rfl);(exact (by intro u hu;simp only [List.flatMap_cons, List.flatMap_nil, List.append_nil, id] at hu;exact one_gr _ u hu));(exact (by have:=HLh.out;omega))))
    intro v104 w104 hs hnil
    have hs2 : Hp w [.ob (w.heap.size) 25 (tbCells (.slice a t.held.length cap) (.slice (some ⟨g, off, none⟩) t.wait.length cap2)), .ob b2 25 (tbCells (.slice none 0 0) (.slice none 0 0)), .ob B21 25 (tbCells (.slice a3 h.length c3) (.slice a4 k.length c4)), .sl ((.slice a3 h.length c3)) 29 4 (h.length) (grRow h), .sl v104 29 4 (kx.length) (grRow kx), .ob B41 29 (grCells x), .ob (w103.heap.size) 29 (([grCells x] : List (List Value)).flatMap id)] w104:=by rw [← HKx.out, grRow_append, grRow_one, List.length_append];exact hs
    have HS108:=Lib.hid hs2
    clear hs hs2
    clear HS106
    generalize w103.heap.size = B101 at *
    clear q1
    obtain ⟨a6, c6, rfl⟩:=own_slice (HS108.out.own 4 rfl)
    have q5 : w104.cell? ⟨B21, 1, none⟩ = some (.slice a4 k.length c4):=(HS108.out).at 2 rfl 1 rfl
    have f5 : w104.frozen? ⟨B21, 1, none⟩ = false:=(HS108.out).frozen 2 rfl 1
    go_wp2_with fail
    clear q5 f5
    have HS109 : Hid (Hp w [.ob (w.heap.size) 25 (tbCells (.slice a t.held.length cap) (.slice (some ⟨g, off, none⟩) t.wait.length cap2)), .ob b2 25 (tbCells (.slice none 0 0) (.slice none 0 0)), .ob B21 25 (tbCells (.slice a3 h.length c3) (.slice a6 kx.length c6)), .sl ((.slice a3 h.length c3)) 29 4 (h.length) (grRow h), .sl ((.slice a6 kx.length c6)) 29 4 (kx.length) (grRow kx), .ob B41 29 (grCells x), .ob B101 29 (([grCells x] : List (List Value)).flatMap id)] (w104.setCell ⟨B21, 1, none⟩ (.slice a6 kx.length c6))):=(HS108.out).set 2 rfl 1 (.slice a6 kx.length c6)
    clear HS108
    generalize w104.setCell ⟨B21, 1, none⟩ (.slice a6 kx.length c6) = w105 at *
    go_roundw
    case rel=>exact ⟨i + 1, h, kx, a3, c3, a6, c6, by go_num, HLt.out, (fold_take HXi.out HFo.out).trans HV1.out, HV2.out, HV3.out, by rw [← HKx.out, List.length_append, List.length_singleton];have:=HLen.out;omega, HS109.out.forget (L:=[.ob (w.heap.size) 25 (tbCells (.slice a t.held.length cap) (.slice (some ⟨g, off, none⟩) t.wait.length cap2)), .ob b2 25 (tbCells (.slice none 0 0) (.slice none 0 0)), .ob B21 25 (tbCells (.slice a3 h.length c3) (.slice a6 kx.length c6)), .sl ((.slice a3 h.length c3)) 29 4 (h.length) (grRow h), .sl ((.slice a6 kx.length c6)) 29 4 (kx.length) (grRow kx)])⟩
    case measure=>simp [intOf];try (have:=HLt.out;omega)
   case false =>
    cases c2
    case true =>
     obtain ⟨hv1, hv2, hv3⟩:=hsy (by rw [hab];rfl)
     obtain ⟨kx, hkx⟩ : ∃ kx, k ++ [x] = kx:=⟨_, rfl⟩
     rw [hkx] at hv1 hv2 hv3
     have HKx:=Lib.hid hkx
     clear hkx
     have HV1:=Lib.hid hv1
     have HV2:=Lib.hid hv2
     have HV3:=Lib.hid hv3
     clear hmv hsy hab hv1 hv2 hv3
     refine wp_region_held_drew (S:=fun w'=>w'.rangeAt B21 0 (tbCells (.slice a3 h.length c3) (.slice a4 k.length c4)) ∧ w'.rangeAt B41 0 (grCells x)) (by kernel_rfl) (⟨(fun j v hv=>by rw [Nat.zero_add];exact ((HS41.out).drew).at 2 rfl j hv), (fun j v hv=>by rw [Nat.zero_add];exact ((HS41.out).drew).at 5 rfl j hv)⟩) (fun hHeld=>?_)
     refine tk 0 qPk12_0 (some 17) (v:=?q301v) (Or.inl ⟨by rfl, ?q301h⟩) hHeld ?q301r
     case q301h=>(intro _ h;clear h;go_simp;try with_reducible rfl)
     try simp only [z0, z1, z2, z3]
     refine tk 1 qPk12_1 (some 18) (v:=.slice a3 h.length c3) (Or.inl ⟨by rfl, ?q302h⟩) hHeld ?q302r
     case q302h=>(intro wq hSw;have lq:=(hSw.1) 0 (.slice a3 h.length c3) rfl;simp only [Nat.zero_add] at lq;clear hSw;go_simp;try with_reducible rfl)
     try simp only [z0, z1, z2, z3]
     refine tk 2 qPk12_2 (some 19) (v:=?q303v) (Or.inl ⟨by rfl, ?q303h⟩) hHeld ?q303r
     case q303h=>(intro _ h;clear h;go_simp;try with_reducible rfl)
     try simp only [z0, z1, z2, z3]
     refine tk 3 qPk12_3 (some 20) (yieldsIf_load_mid (by rfl) 27 (.tmp 19) rfl B41 (1) rfl (lkCells x.lock) _ (fun _ h=>range_part (h.2) (mid_lk x)) HUK.out rfl (info_lk)) hHeld ?_
     try simp only [z0, z1, z2, z3]
     refine tk 5 qPk12_4 (some 22) (yieldsIf_load_mid (by rfl) 29 (.tmp 5) rfl B41 (0) rfl (grCells x) _ (fun _ h=>h.2) HUG.out rfl (info_gr)) hHeld ?_
     try simp only [z0, z1, z2, z3]
     refine tn 4 qPk12_5 (fun K hK=>?_)
     go_simp
     go_wp2_with (go_at_call 65;refine (holders_own x.lock h _ w.heap.size _ HHk.out (((HS41.out).drew).own 3 rfl) (by have:=HLh.out;omega)).mono ?_;rintro e w301 ⟨vm, m, Rm, rfl, hrm, him, hml, hms, hma, hb⟩)
     have HRm:=Lib.hid hrm
     have HIm:=Lib.hid him
     have HMl:=Lib.hid hml
     have HMs:=Lib.hid hms
     have HMa:=Lib.hid ((hma x ⟨rfl, rfl⟩).trans HC1.out)
     have HS301:=Lib.hid (((HS41.out).drew).calls hb)
     refine hK.out _ _ (⟨(fun j v hv=>by rw [Nat.zero_add];exact (HS301.out).at 2 rfl j hv), (fun j v hv=>by rw [Nat.zero_add];exact (HS301.out).at 5 rfl j hv)⟩) (fun hHeld=>?_)
     clear hK K hb hrm him hml hms hma
     try simp only [z0, z1, z2, z3]
     refine tn 6 qPk12_6 (fun K hK=>?_)
     go_simp
     go_wp2_with (go_at_call 66;refine (against_any x _).mono ?_;rintro e w302 ⟨bf1, rfl, hin, hnw, hb⟩)
     have HIm2:=Lib.hid (HIm.out.below hb)
     clear HIm
     have HS302 : Hid (Hp w [.ob (w.heap.size) 25 (tbCells (.slice a t.held.length cap) (.slice (some ⟨g, off, none⟩) t.wait.length cap2)), .ob b2 25 (tbCells (.slice none 0 0) (.slice none 0 0)), .ob B21 25 (tbCells (.slice a3 h.length c3) (.slice a4 k.length c4)), .sl ((.slice a3 h.length c3)) 29 4 (h.length) (grRow h), .sl ((.slice a4 k.length c4)) 29 4 (k.length) (grRow k), .ob B41 29 (grCells x), .rd [(bf1, 0, grCells x)]] w302):=(HS301.out).addrd hb [(bf1, 0, grCells x)] hin (fun r hr=>.inl (by obtain rfl:=List.mem_singleton.1 hr;exact hnw))
     refine hK.out _ _ (⟨(fun j v hv=>by rw [Nat.zero_add];exact (HS302.out).at 2 rfl j hv), (fun j v hv=>by rw [Nat.zero_add];exact (HS302.out).at 5 rfl j hv)⟩) (fun hHeld=>?_)
     clear hK K hb hin hnw
     try simp only [z0, z1, z2, z3]
     refine tn 7 qPk12_7 (fun K hK=>?_)
     go_simp
     go_wp2_with (go_at_call 64;refine (contains_conf x m vm Rm _ _ HGx.out (fun y hy=>HGh.out y (HMs.out y hy)) HRm.out HIm2.out ((HS302.out).reads 6 rfl) (by have h1:=HMl.out;have h2:=HLh.out;omega) false HMa.out).mono ?_;rintro e w303 ⟨rfl, hb⟩)
     have HS303:=Lib.hid ((HS302.out).calls hb)
     refine hK.out _ _ (⟨(fun j v hv=>by rw [Nat.zero_add];exact (HS303.out).at 2 rfl j hv), (fun j v hv=>by rw [Nat.zero_add];exact (HS303.out).at 5 rfl j hv)⟩) (fun hHeld=>?_)
     clear hK K hb
     try simp only [z0, z1, z2, z3]
     refine tk 8 qPk12_8 (some 25) (v:=?q306v) (Or.inl ⟨by rfl, ?q306h⟩) hHeld ?q306r
     case q306h=>(intro _ h;clear h;go_simp;try with_reducible rfl)
     try simp only [z0, z1, z2, z3]
     refine tk 9 qPk12_9 (some 26) (v:=?q307v) (Or.inl ⟨by rfl, ?q307h⟩) hHeld ?q307r
     case q307h=>(intro _ h;clear h;go_simp;try with_reducible rfl)
     try simp only [z0, z1, z2, z3]
     refine tk 10 qPk12_10 (some 27) (v:=.slice a4 k.length c4) (Or.inl ⟨by rfl, ?q308h⟩) hHeld ?q308r
     case q308h=>(intro wq hSw;have lq:=(hSw.1) 1 (.slice a4 k.length c4) rfl;simp only [Nat.zero_add] at lq;clear hSw;go_simp;try with_reducible rfl)
     try simp only [z0, z1, z2, z3]
     refine tk 11 qPk12_11 (some 28) (yieldsIf_load_mid (by rfl) 29 (.tmp 5) rfl B41 (0) rfl (grCells x) _ (fun _ h=>h.2) HUG.out rfl (info_gr)) hHeld ?_
     try simp only [z0, z1, z2, z3]
     refine tn 12 qPk12_12 (fun K hK=>?_)
     go_simp
     go_wp2_with (go_at_call 66;refine (against_any x _).mono ?_;rintro e w304 ⟨bf2, rfl, hin, hnw, hb⟩)
     have HS304 : Hid (Hp w [.ob (w.heap.size) 25 (tbCells (.slice a t.held.length cap) (.slice (some ⟨g, off, none⟩) t.wait.length cap2)), .ob b2 25 (tbCells (.slice none 0 0) (.slice none 0 0)), .ob B21 25 (tbCells (.slice a3 h.length c3) (.slice a4 k.length c4)), .sl ((.slice a3 h.length c3)) 29 4 (h.length) (grRow h), .sl ((.slice a4 k.length c4)) 29 4 (k.length) (grRow k), .ob B41 29 (grCells x), .rd [(bf1, 0, grCells x)], .rd [(bf2, 0, grCells x)]] w304):=(HS303.out).addrd hb [(bf2, 0, grCells x)] hin (fun r hr=>.inl (by obtain rfl:=List.mem_singleton.1 hr;exact hnw))
     refine hK.out _ _ (⟨(fun j v hv=>by rw [Nat.zero_add];exact (HS304.out).at 2 rfl j hv), (fun j v hv=>by rw [Nat.zero_add];exact (HS304.out).at 5 rfl j hv)⟩) (fun hHeld=>?_)
     clear hK K hb hin hnw
     try simp only [z0, z1, z2, z3]
     refine tn 13 qPk12_13 (fun K hK=>?_)
     go_simp
     go_wp2_with (go_at_call 64;refine (contains_own x k _ w.heap.size _ _ HGx.out HGk.out ((HS304.out).own 4 rfl) ((HS304.out).reads 7 rfl) (by have:=HLh.out;omega) true HC2.out).mono ?_;rintro e w305 ⟨rfl, hb⟩)
     have HS305:=Lib.hid ((HS304.out).calls hb)
     refine hK.out _ _ (⟨(fun j v hv=>by rw [Nat.zero_add];exact (HS305.out).at 2 rfl j hv), (fun j v hv=>by rw [Nat.zero_add];exact (HS305.out).at 5 rfl j hv)⟩) (fun hHeld=>?_)
     clear hK K hb
     try simp only [z0, z1, z2, z3]
     refine tk 14 qPk12_14 (some 31) (v:=?q310v) (Or.inl ⟨by rfl, ?q310h⟩) hHeld ?q310r
     case q310h=>(intro _ h;clear h;go_simp;try with_reducible rfl)
     try simp only [z0, z1, z2, z3]
     refine wpAnyH_done (by kernel_rfl) ?_ _
     clear hHeld
     have HS306 : Hid (Hp w [.ob (w.heap.size) 25 (tbCells (.slice a t.held.length cap) (.slice (some ⟨g, off, none⟩) t.wait.length cap2)), .ob b2 25 (tbCells (.slice none 0 0) (.slice none 0 0)), .ob B21 25 (tbCells (.slice a3 h.length c3) (.slice a4 k.length c4)), .sl ((.slice a3 h.length c3)) 29 4 (h.length) (grRow h), .sl ((.slice a4 k.length c4)) 29 4 (k.length) (grRow k), .ob B41 29 (grCells x)] w305):=HS305.out.pull [0, 1, 2, 3, 4, 5] rfl (pull_nd HS305.out.nd [0, 1, 2, 3, 4, 5] rfl (by decide))
     clear HS305
     have q1 : w305.cell? ⟨B21, 1, none⟩ = some (.slice a4 k.length c4):=(HS306.out).at 2 rfl 1 rfl
     go_wp2_with (first | ((with_reducible refine wpList_load_ob 29 (.tmp 5) B41 (grCells x) 29 HUG.out ?_ ?_ ?_ ?_ ?_);(exact rfl);(exact (HS306.out).get 5 rfl);(exact rfl);(exact info_gr);simp only [z0, z1, z2, z3]) | ((with_reducible refine wpList_build_obs 23 1 elem_gr HUX.out [grCells x] ?_ ?_ ?_ ?_ ?_ ?_);(exact (List.forall_mem_cons.2 ⟨rfl, (fun _ h=>absurd h List.not_mem_nil)⟩));(exact Nat.succ_pos _);(simp only [List.length_cons, List.length_nil];omega);(exact rfl);(simp only [List.map_toArray, List.map_cons, List.map_nil, List.zipIdx_cons, List.zipIdx_nil];exact rfl);simp only [z0, z1, z2, z3]) | ((with_reducible refine wpList_append_hp ((HS306.out).put 29 (([grCells x] : List (List Value)).flatMap id)) (.tmp 33) (.tmp 35) 23 4 (v:=(.slice a4 k.length c4)) (e:=29) (z:=4) (n:=k.length) (xs:=grRow k) ?_ 6 (b:=(w305.heap.size)) (t':=29) (ys:=([grCells x] : List (List Value)).flatMap id) ?_ HUX.out elem_gr 1 1 ?_ ?_ ?_ ?_ ?_ ?_);(exact rfl);(exact rfl);(exact rfl);(exact rfl);(exact rfl);(exact (by intro u hu;simp only [List.flatMap_cons, List.flatMap_nil, List.append_nil, id] at hu;exact one_gr _ u hu));(exact (by have:=HLh.out;omega))))
     intro v306 w306 hs hnil
     have hs2 : Hp w [.ob (w.heap.size) 25 (tbCells (.slice a t.held.length cap) (.slice (some ⟨g, off, none⟩) t.wait.length cap2)), .ob b2 25 (tbCells (.slice none 0 0) (.slice none 0 0)), .ob B21 25 (tbCells (.slice a3 h.length c3) (.slice a4 k.length c4)), .sl ((.slice a3 h.length c3)) 29 4 (h.length) (grRow h), .sl v306 29 4 (kx.length) (grRow kx), .ob B41 29 (grCells x), .ob (w305.heap.size) 29 (([grCells x] : List (List Value)).flatMap id)] w306:=by rw [← HKx.out, grRow_append, grRow_one, List.length_append];exact hs
     have HS308:=Lib.hid hs2
     clear hs hs2
     clear HS306
     generalize w305.heap.size = B301 at *
     clear q1
     obtain ⟨a6, c6, rfl⟩:=own_slice (HS308.out.own 4 rfl)
     have q5 : w306.cell? ⟨B21, 1, none⟩ = some (.slice a4 k.length c4):=(HS308.out).at 2 rfl 1 rfl
     have f5 : w306.frozen? ⟨B21, 1, none⟩ = false:=(HS308.out).frozen 2 rfl 1
     go_wp2_with fail
     clear q5 f5
     have HS309 : Hid (Hp w [.ob (w.heap.size) 25 (tbCells (.slice a t.held.length cap) (.slice (some ⟨g, off, none⟩) t.wait.length cap2)), .ob b2 25 (tbCells (.slice none 0 0) (.slice none 0 0)), .ob B21 25 (tbCells (.slice a3 h.length c3) (.slice a6 kx.length c6)), .sl ((.slice a3 h.length c3)) 29 4 (h.length) (grRow h), .sl ((.slice a6 kx.length c6)) 29 4 (kx.length) (grRow kx), .ob B41 29 (grCells x), .ob B301 29 (([grCells x] : List (List Value)).flatMap id)] (w306.setCell ⟨B21, 1, none⟩ (.slice a6 kx.length c6))):=(HS308.out).set 2 rfl 1 (.slice a6 kx.length c6)
     clear HS308
     generalize w306.setCell ⟨B21, 1, none⟩ (.slice a6 kx.length c6) = w307 at *
     go_roundw
     case rel=>exact ⟨i + 1, h, kx, a3, c3, a6, c6, by go_num, HLt.out, (fold_take HXi.out HFo.out).trans HV1.out, HV2.out, HV3.out, by rw [← HKx.out, List.length_append, List.length_singleton];have:=HLen.out;omega, HS309.out.forget (L:=[.ob (w.heap.size) 25 (tbCells (.slice a t.held.length cap) (.slice (some ⟨g, off, none⟩) t.wait.length cap2)), .ob b2 25 (tbCells (.slice none 0 0) (.slice none 0 0)), .ob B21 25 (tbCells (.slice a3 h.length c3) (.slice a6 kx.length c6)), .sl ((.slice a3 h.length c3)) 29 4 (h.length) (grRow h), .sl ((.slice a6 kx.length c6)) 29 4 (kx.length) (grRow kx)])⟩
     case measure=>simp [intOf];try (have:=HLt.out;omega)
    case false =>
     obtain ⟨hv1, hv2, hv3⟩:=hmv (by rw [hab];rfl)
     have HV1:=Lib.hid hv1
     have HV2:=Lib.hid hv2
     have HV3:=Lib.hid hv3
     clear hmv hsy hab hv1 hv2 hv3
     refine wp_region_held_drew (S:=fun w'=>w'.rangeAt B21 0 (tbCells (.slice a3 h.length c3) (.slice a4 k.length c4)) ∧ w'.rangeAt B41 0 (grCells x)) (by kernel_rfl) (⟨(fun j v hv=>by rw [Nat.zero_add];exact ((HS41.out).drew).at 2 rfl j hv), (fun j v hv=>by rw [Nat.zero_add];exact ((HS41.out).drew).at 5 rfl j hv)⟩) (fun hHeld=>?_)
     refine tk 0 qPk12_0 (some 17) (v:=?q501v) (Or.inl ⟨by rfl, ?q501h⟩) hHeld ?q501r
     case q501h=>(intro _ h;clear h;go_simp;try with_reducible rfl)
     try simp only [z0, z1, z2, z3]
     refine tk 1 qPk12_1 (some 18) (v:=.slice a3 h.length c3) (Or.inl ⟨by rfl, ?q502h⟩) hHeld ?q502r
     case q502h=>(intro wq hSw;have lq:=(hSw.1) 0 (.slice a3 h.length c3) rfl;simp only [Nat.zero_add] at lq;clear hSw;go_simp;try with_reducible rfl)
     try simp only [z0, z1, z2, z3]
     refine tk 2 qPk12_2 (some 19) (v:=?q503v) (Or.inl ⟨by rfl, ?q503h⟩) hHeld ?q503r
     case q503h=>(intro _ h;clear h;go_simp;try with_reducible rfl)
     try simp only [z0, z1, z2, z3]
     refine tk 3 qPk12_3 (some 20) (yieldsIf_load_mid (by rfl) 27 (.tmp 19) rfl B41 (1) rfl (lkCells x.lock) _ (fun _ h=>range_part (h.2) (mid_lk x)) HUK.out rfl (info_lk)) hHeld ?_
     try simp only [z0, z1, z2, z3]
     refine tk 5 qPk12_4 (some 22) (yieldsIf_load_mid (by rfl) 29 (.tmp 5) rfl B41 (0) rfl (grCells x) _ (fun _ h=>h.2) HUG.out rfl (info_gr)) hHeld ?_
     try simp only [z0, z1, z2, z3]
     refine tn 4 qPk12_5 (fun K hK=>?_)
     go_simp
     go_wp2_with (go_at_call 65;refine (holders_own x.lock h _ w.heap.size _ HHk.out (((HS41.out).drew).own 3 rfl) (by have:=HLh.out;omega)).mono ?_;rintro e w501 ⟨vm, m, Rm, rfl, hrm, him, hml, hms, hma, hb⟩)
     have HRm:=Lib.hid hrm
     have HIm:=Lib.hid him
     have HMl:=Lib.hid hml
     have HMs:=Lib.hid hms
     have HMa:=Lib.hid ((hma x ⟨rfl, rfl⟩).trans HC1.out)
     have HS501:=Lib.hid (((HS41.out).drew).calls hb)
     refine hK.out _ _ (⟨(fun j v hv=>by rw [Nat.zero_add];exact (HS501.out).at 2 rfl j hv), (fun j v hv=>by rw [Nat.zero_add];exact (HS501.out).at 5 rfl j hv)⟩) (fun hHeld=>?_)
     clear hK K hb hrm him hml hms hma
     try simp only [z0, z1, z2, z3]
     refine tn 6 qPk12_6 (fun K hK=>?_)
     go_simp
     go_wp2_with (go_at_call 66;refine (against_any x _).mono ?_;rintro e w502 ⟨bf1, rfl, hin, hnw, hb⟩)
     have HIm2:=Lib.hid (HIm.out.below hb)
     clear HIm
     have HS502 : Hid (Hp w [.ob (w.heap.size) 25 (tbCells (.slice a t.held.length cap) (.slice (some ⟨g, off, none⟩) t.wait.length cap2)), .ob b2 25 (tbCells (.slice none 0 0) (.slice none 0 0)), .ob B21 25 (tbCells (.slice a3 h.length c3) (.slice a4 k.length c4)), .sl ((.slice a3 h.length c3)) 29 4 (h.length) (grRow h), .sl ((.slice a4 k.length c4)) 29 4 (k.length) (grRow k), .ob B41 29 (grCells x), .rd [(bf1, 0, grCells x)]] w502):=(HS501.out).addrd hb [(bf1, 0, grCells x)] hin (fun r hr=>.inl (by obtain rfl:=List.mem_singleton.1 hr;exact hnw))
     refine hK.out _ _ (⟨(fun j v hv=>by rw [Nat.zero_add];exact (HS502.out).at 2 rfl j hv), (fun j v hv=>by rw [Nat.zero_add];exact (HS502.out).at 5 rfl j hv)⟩) (fun hHeld=>?_)
     clear hK K hb hin hnw
     try simp only [z0, z1, z2, z3]
     refine tn 7 qPk12_7 (fun K hK=>?_)
     go_simp
     go_wp2_with (go_at_call 64;refine (contains_conf x m vm Rm _ _ HGx.out (fun y hy=>HGh.out y (HMs.out y hy)) HRm.out HIm2.out ((HS502.out).reads 6 rfl) (by have h1:=HMl.out;have h2:=HLh.out;omega) false HMa.out).mono ?_;rintro e w503 ⟨rfl, hb⟩)
     have HS503:=Lib.hid ((HS502.out).calls hb)
     refine hK.out _ _ (⟨(fun j v hv=>by rw [Nat.zero_add];exact (HS503.out).at 2 rfl j hv), (fun j v hv=>by rw [Nat.zero_add];exact (HS503.out).at 5 rfl j hv)⟩) (fun hHeld=>?_)
     clear hK K hb
     try simp only [z0, z1, z2, z3]
     refine tk 8 qPk12_8 (some 25) (v:=?q506v) (Or.inl ⟨by rfl, ?q506h⟩) hHeld ?q506r
     case q506h=>(intro _ h;clear h;go_simp;try with_reducible rfl)
     try simp only [z0, z1, z2, z3]
     refine tk 9 qPk12_9 (some 26) (v:=?q507v) (Or.inl ⟨by rfl, ?q507h⟩) hHeld ?q507r
     case q507h=>(intro _ h;clear h;go_simp;try with_reducible rfl)
     try simp only [z0, z1, z2, z3]
     refine tk 10 qPk12_10 (some 27) (v:=.slice a4 k.length c4) (Or.inl ⟨by rfl, ?q508h⟩) hHeld ?q508r
     case q508h=>(intro wq hSw;have lq:=(hSw.1) 1 (.slice a4 k.length c4) rfl;simp only [Nat.zero_add] at lq;clear hSw;go_simp;try with_reducible rfl)
     try simp only [z0, z1, z2, z3]
     refine tk 11 qPk12_11 (some 28) (yieldsIf_load_mid (by rfl) 29 (.tmp 5) rfl B41 (0) rfl (grCells x) _ (fun _ h=>h.2) HUG.out rfl (info_gr)) hHeld ?_
     try simp only [z0, z1, z2, z3]
     refine tn 12 qPk12_12 (fun K hK=>?_)
     go_simp
     go_wp2_with (go_at_call 66;refine (against_any x _).mono ?_;rintro e w504 ⟨bf2, rfl, hin, hnw, hb⟩)
     have HS504 : Hid (Hp w [.ob (w.heap.size) 25 (tbCells (.slice a t.held.length cap) (.slice (some ⟨g, off, none⟩) t.wait.length cap2)), .ob b2 25 (tbCells (.slice none 0 0) (.slice none 0 0)), .ob B21 25 (tbCells (.slice a3 h.length c3) (.slice a4 k.length c4)), .sl ((.slice a3 h.length c3)) 29 4 (h.length) (grRow h), .sl ((.slice a4 k.length c4)) 29 4 (k.length) (grRow k), .ob B41 29 (grCells x), .rd [(bf1, 0, grCells x)], .rd [(bf2, 0, grCells x)]] w504):=(HS503.out).addrd hb [(bf2, 0, grCells x)] hin (fun r hr=>.inl (by obtain rfl:=List.mem_singleton.1 hr;exact hnw))
     refine hK.out _ _ (⟨(fun j v hv=>by rw [Nat.zero_add];exact (HS504.out).at 2 rfl j hv), (fun j v hv=>by rw [Nat.zero_add];exact (HS504.out).at 5 rfl j hv)⟩) (fun hHeld=>?_)
     clear hK K hb hin hnw
     try simp only [z0, z1, z2, z3]
     refine tn 13 qPk12_13 (fun K hK=>?_)
     go_simp
     go_wp2_with (go_at_call 64;refine (contains_own x k _ w.heap.size _ _ HGx.out HGk.out ((HS504.out).own 4 rfl) ((HS504.out).reads 7 rfl) (by have:=HLh.out;omega) false HC2.out).mono ?_;rintro e w505 ⟨rfl, hb⟩)
     have HS505:=Lib.hid ((HS504.out).calls hb)
     refine hK.out _ _ (⟨(fun j v hv=>by rw [Nat.zero_add];exact (HS505.out).at 2 rfl j hv), (fun j v hv=>by rw [Nat.zero_add];exact (HS505.out).at 5 rfl j hv)⟩) (fun hHeld=>?_)
     clear hK K hb
     try simp only [z0, z1, z2, z3]
     refine tk 14 qPk12_14 (some 31) (v:=?q510v) (Or.inl ⟨by rfl, ?q510h⟩) hHeld ?q510r
     case q510h=>(intro _ h;clear h;go_simp;try with_reducible rfl)
     try simp only [z0, z1, z2, z3]
     refine wpAnyH_done (by kernel_rfl) ?_ _
     clear hHeld
     have HS506 : Hid (Hp w [.ob (w.heap.size) 25 (tbCells (.slice a t.held.length cap) (.slice (some ⟨g, off, none⟩) t.wait.length cap2)), .ob b2 25 (tbCells (.slice none 0 0) (.slice none 0 0)), .ob B21 25 (tbCells (.slice a3 h.length c3) (.slice a4 k.length c4)), .sl ((.slice a3 h.length c3)) 29 4 (h.length) (grRow h), .sl ((.slice a4 k.length c4)) 29 4 (k.length) (grRow k), .ob B41 29 (grCells x)] w505):=HS505.out.pull [0, 1, 2, 3, 4, 5] rfl (pull_nd HS505.out.nd [0, 1, 2, 3, 4, 5] rfl (by decide))
     clear HS505
     have q0 : w505.cell? ⟨B21, 0, none⟩ = some (.slice a3 h.length c3):=(HS506.out).at 2 rfl 0 rfl
     go_wp2_with (first | ((with_reducible refine wpList_load_ob 29 (.tmp 5) B41 (grCells x) 29 HUG.out ?_ ?_ ?_ ?_ ?_);(exact rfl);(exact (HS506.out).get 5 rfl);(exact rfl);(exact info_gr);simp only [z0, z1, z2, z3]))
     refine (hold_any x h _ w.heap.size _ HHk.out.up ((HS506.out).own 3 rfl) (HS506.out).old.size (by have:=HLh.out;omega)).mono ?_
     rintro e w506 ⟨u7, rfl, ho7, hg7, hb7⟩
     have HS507 : Hid (Hp w [.ob (w.heap.size) 25 (tbCells (.slice a t.held.length cap) (.slice (some ⟨g, off, none⟩) t.wait.length cap2)), .ob b2 25 (tbCells (.slice none 0 0) (.slice none 0 0)), .ob B21 25 (tbCells (.slice a3 h.length c3) (.slice a4 k.length c4)), .sl u7 29 4 ((holdR h x).length) (grRow (holdR h x)), .sl ((.slice a4 k.length c4)) 29 4 (k.length) (grRow k), .ob B41 29 (grCells x)] w506):=(HS506.out).grown2 3 rfl ho7 hg7 hb7
     clear ho7 hg7 hb7 q0
     clear HS506
     obtain ⟨a7, c7, rfl⟩:=own_slice (HS507.out.own 3 rfl)
     have q5 : w506.cell? ⟨B21, 0, none⟩ = some (.slice a3 h.length c3):=(HS507.out).at 2 rfl 0 rfl
     have f5 : w506.frozen? ⟨B21, 0, none⟩ = false:=(HS507.out).frozen 2 rfl 0
     go_wp2_with fail
     clear q5 f5
     have HS508 : Hid (Hp w [.ob (w.heap.size) 25 (tbCells (.slice a t.held.length cap) (.slice (some ⟨g, off, none⟩) t.wait.length cap2)), .ob b2 25 (tbCells (.slice none 0 0) (.slice none 0 0)), .ob B21 25 (tbCells (.slice a7 (holdR h x).length c7) (.slice a4 k.length c4)), .sl ((.slice a7 (holdR h x).length c7)) 29 4 ((holdR h x).length) (grRow (holdR h x)), .sl ((.slice a4 k.length c4)) 29 4 (k.length) (grRow k), .ob B41 29 (grCells x)] (w506.setCell ⟨B21, 0, none⟩ (.slice a7 (holdR h x).length c7))):=(HS507.out).set 2 rfl 0 (.slice a7 (holdR h x).length c7)
     clear HS507
     generalize w506.setCell ⟨B21, 0, none⟩ (.slice a7 (holdR h x).length c7) = w507 at *
     go_roundw
     case rel=>exact ⟨i + 1, holdR h x, k, a7, c7, a4, c4, by go_num, HLt.out, (fold_take HXi.out HFo.out).trans HV1.out, HV2.out, HV3.out, by have h1:=hold_len h x;have h2:=HLen.out;omega, HS508.out.forget (L:=[.ob (w.heap.size) 25 (tbCells (.slice a t.held.length cap) (.slice (some ⟨g, off, none⟩) t.wait.length cap2)), .ob b2 25 (tbCells (.slice none 0 0) (.slice none 0 0)), .ob B21 25 (tbCells (.slice a7 (holdR h x).length c7) (.slice a4 k.length c4)), .sl ((.slice a7 (holdR h x).length c7)) 29 4 ((holdR h x).length) (grRow (holdR h x)), .sl ((.slice a4 k.length c4)) 29 4 (k.length) (grRow k)])⟩
     case measure=>simp [intOf];try (have:=HLt.out;omega)
  ·obtain rfl : i = t.wait.length:=by omega
   have HE : Hid (S = ⟨h, k⟩):=Lib.hid (by have:=HFo.out;rw [List.take_length] at this;rw [HSt.out, this])
   clear hlt hi
   go_upto_region 9 with (fail)
   go_wp2_with (first | ((with_reducible refine wpList_load_ob 25 (.tmp 3) B21 (tbCells (.slice a3 h.length c3) (.slice a4 k.length c4)) 25 HUT.out ?_ ?_ ?_ ?_ ?_);(exact rfl);(exact (HY.out).get 2 rfl);(exact rfl);(exact info_tb);simp only [z0, z1, z2, z3]) | ((with_reducible refine wpList_store_ob 25 (.tmp 2) b2 (tbCells (.slice a3 h.length c3) (.slice a4 k.length c4)) (tbCells (.slice none 0 0) (.slice none 0 0)) 25 ?_ ?_ ?_ ?_ ?_ ?_ ?_);(exact rfl);(exact rfl);(exact (HY.out).get 1 rfl);(exact info_tb);(exact rfl);(exact (oneCell_tb _ _ _ _ _ _));skip))
   have HS801 : Hid (Hp w [.ob (w.heap.size) 25 (tbCells (.slice a t.held.length cap) (.slice a2 t.wait.length cap2)), .ob b2 25 (tbCells (.slice a3 h.length c3) (.slice a4 k.length c4)), .ob B21 25 (tbCells (.slice a3 h.length c3) (.slice a4 k.length c4)), .sl ((.slice a3 h.length c3)) 29 4 (h.length) (grRow h), .sl ((.slice a4 k.length c4)) 29 4 (k.length) (grRow k)] (wr.setRow b2 (tbCells (.slice a3 h.length c3) (.slice a4 k.length c4)).toArray)):=(HY.out).row 1 rfl (tbCells (.slice a3 h.length c3) (.slice a4 k.length c4))
   clear HY
   generalize (wr.setRow b2 (tbCells (.slice a3 h.length c3) (.slice a4 k.length c4)).toArray) = w801 at *
   obtain ⟨Rh, hh1, hh2, hh3⟩:=own_reads (HS801.out.own 3 rfl)
   obtain ⟨Rk, hk1, hk2, hk3⟩:=own_reads (HS801.out.own 4 rfl)
   have HF : Hid (TbNew w ⟨h, k⟩ (.returned (.agg (tbCells (.slice a3 h.length c3) (.slice a4 k.length c4)).toArray)) w801):=⟨_, _, Rh ++ Rk, rfl, ⟨SlRd.mono hh1 (fun r hr=>by simp [hr]), SlRd.mono hk1 (fun r hr=>by simp [hr])⟩, hh2.append hk2, fun r hr=>(List.mem_append.1 hr).elim (fun h=>(hh3 r h).1) (fun h=>(hk3 r h).1), (HS801.out).old⟩
   clear hh1 hh2 hh3 hk1 hk2 hk3
   refine bodyPost_ret (results_ob Try.results38 _ _ b2 (tbCells (.slice a3 h.length c3) (.slice a4 k.length c4)) 25 _ rfl ((HS801.out).get 1 rfl) HUT.out rfl info_tb) rfl ?_
   rw [HE.out]
   exact HF.out
end Go.Proofs.Ytooaldglgkjjgaa
/- the program's Request (locks) -/
namespace Go.Proofs.Ytooaldglgkjjgaa
open Go.RowKit
open Go.Act renaming put → z0
open List renaming setIfInBounds_toArray → z1, set_cons_zero → z2, set_cons_succ → z3
set_option maxRecDepth 20000
set_option linter.unusedSimpArgs false
set_option linter.unusedVariables false

theorem added_ins (t : Tb) (g : Gr) : addedR t g = ⟨t.held, insG t.wait (wplaceR t.held t.wait g) g⟩:=rfl
theorem settle_mode {t : Tb} (h : TbIn t) {g : Gr} (hg : g ∈ t.wait) : (modeG (settleR t).held g == g.mode) = decide (g.mode ≤ modeG (settleR t).held g):=by
 rcases settle_keeps h hg with h1 | h1
 ·have h2:=((settle_in h).wait.ok g h1).2
  have e1 : (modeG (settleR t).held g == g.mode) = false:=by rw [beq_eq_false_iff_ne];omega
  rw [e1, decide_eq_false (by omega)]
 ·have e1 : (modeG (settleR t).held g == g.mode) = true:=by rw [beq_iff_eq];exact h1
  rw [e1, decide_eq_true (by omega)]
theorem mem_insG (l : List Gr) (i : Nat) (g : Gr) : g ∈ insG l i g:=by unfold insG;simp
abbrev qPk14_0 : Oper:={ dst:=some 37, op:=Op.fieldAddr 25 (Operand.tmp 2) 0, type:=0, pos := "locks.go:158", after:=#[], guard:=none }
abbrev qPk14_1 : Oper:={ dst:=some 38, op:=Op.load 23 (Operand.tmp 37), type:=23, pos := "locks.go:158", after:=#[{ on:=0, ground:=Ground.data }], guard:=none }
abbrev qPk14_2 : Oper:={ dst:=some 39, op:=Op.fieldAddr 29 (Operand.tmp 3) 0, type:=0, pos := "locks.go:158", after:=#[], guard:=none }
abbrev qPk14_3 : Oper:={ dst:=some 40, op:=Op.load 3 (Operand.tmp 39), type:=3, pos := "locks.go:158", after:=#[{ on:=2, ground:=Ground.data }], guard:=none }
abbrev qPk14_4 : Oper:={ dst:=some 41, op:=Op.fieldAddr 29 (Operand.tmp 3) 1, type:=0, pos := "locks.go:158", after:=#[], guard:=none }
abbrev qPk14_5 : Oper:={ dst:=some 42, op:=Op.load 27 (Operand.tmp 41), type:=27, pos := "locks.go:158", after:=#[{ on:=4, ground:=Ground.data }], guard:=none }
abbrev qPk14_6 : Oper:={ dst:=some 44, op:=Op.fieldAddr 29 (Operand.tmp 3) 2, type:=0, pos := "locks.go:158", after:=#[], guard:=none }
abbrev qPk14_7 : Oper:={ dst:=some 45, op:=Op.load 3 (Operand.tmp 44), type:=3, pos := "locks.go:158", after:=#[{ on:=7, ground:=Ground.data }], guard:=none }
abbrev qPk14_8 : Oper:={ dst:=some 43, op:=Op.call { callee:=Callee.value (Operand.func 44), args:=#[Operand.tmp 38, Operand.tmp 40, Operand.tmp 42], argTypes:=#[23, 3, 27] }, type:=3, pos := "locks.go:158", after:=#[{ on:=1, ground:=Ground.data }, { on:=3, ground:=Ground.data }, { on:=5, ground:=Ground.data }], guard:=none }
abbrev qPk14_9 : Oper:={ dst:=some 46, op:=Op.binOp BinOp.geq 3 (Operand.tmp 43) (Operand.tmp 45) 3, type:=4, pos := "locks.go:158", after:=#[{ on:=6, ground:=Ground.data }, { on:=8, ground:=Ground.data }], guard:=none }
abbrev qPk14_10 : Oper:={ dst:=some 36, op:=Op.assign (Operand.tmp 46), type:=4, pos := "locks.go:158", after:=#[{ on:=9, ground:=Ground.data }, { on:=6, ground:=Ground.chain }], guard:=none }
abbrev qPk14_11 : Oper:={ dst:=some 53, op:=Op.fieldAddr 25 (Operand.tmp 2) 1, type:=0, pos := "locks.go:163", after:=#[], guard:=none }
abbrev qPk14_12 : Oper:={ dst:=some 57, op:=Op.load 29 (Operand.tmp 3), type:=29, pos := "locks.go:163", after:=#[], guard:=none }
abbrev qPk14_13 : Oper:={ dst:=some 59, op:=Op.load 29 (Operand.tmp 3), type:=29, pos := "locks.go:163", after:=#[], guard:=none }
abbrev qPk14_14 : Oper:={ dst:=some 54, op:=Op.load 23 (Operand.tmp 53), type:=23, pos := "locks.go:163", after:=#[{ on:=0, ground:=Ground.data }], guard:=none }
abbrev qPk14_15 : Oper:={ dst:=some 56, op:=Op.load 25 (Operand.tmp 2), type:=25, pos := "locks.go:163", after:=#[], guard:=none }
abbrev qPk14_16 : Oper:={ dst:=some 60, op:=Op.buildSlice 23 1 #[(0, Operand.tmp 59)], type:=23, pos := "locks.go:163", after:=#[{ on:=6, ground:=Ground.data }], guard:=none }
abbrev qPk14_17 : Oper:={ dst:=some 55, op:=Op.call { callee:=Callee.value (Operand.func 47), args:=#[Operand.tmp 54], argTypes:=#[23] }, type:=23, pos := "locks.go:163", after:=#[{ on:=1, ground:=Ground.data }], guard:=none }
abbrev qPk14_18 : Oper:={ dst:=some 58, op:=Op.call { callee:=Callee.value (Operand.func 48), args:=#[Operand.tmp 56, Operand.tmp 57], argTypes:=#[25, 29] }, type:=3, pos := "locks.go:163", after:=#[{ on:=3, ground:=Ground.data }, { on:=4, ground:=Ground.data }, { on:=2, ground:=Ground.chain }], guard:=none }
abbrev qPk14_19 : Oper:={ dst:=some 61, op:=Op.call { callee:=Callee.value (Operand.func 46), args:=#[Operand.tmp 55, Operand.tmp 58, Operand.tmp 60], argTypes:=#[23, 3, 23] }, type:=23, pos := "locks.go:163", after:=#[{ on:=2, ground:=Ground.data }, { on:=5, ground:=Ground.data }, { on:=7, ground:=Ground.data }, { on:=5, ground:=Ground.chain }], guard:=none }
abbrev qPk14_20 : Oper:={ dst:=some 62, op:=Op.fieldAddr 25 (Operand.tmp 2) 1, type:=0, pos := "locks.go:163", after:=#[{ on:=0, ground:=Ground.phase }, { on:=1, ground:=Ground.phase }, { on:=2, ground:=Ground.phase }, { on:=3, ground:=Ground.phase }, { on:=4, ground:=Ground.phase }, { on:=5, ground:=Ground.phase }, { on:=6, ground:=Ground.phase }, { on:=7, ground:=Ground.phase }, { on:=8, ground:=Ground.phase }], guard:=none }
abbrev qPk14_21 : Oper:={ dst:=none, op:=Op.store 23 (Operand.tmp 62) (Operand.tmp 61), type:=0, pos := "locks.go:163", after:=#[{ on:=9, ground:=Ground.data }, { on:=8, ground:=Ground.data }, { on:=8, ground:=Ground.chain }, { on:=0, ground:=Ground.phase }, { on:=1, ground:=Ground.phase }, { on:=2, ground:=Ground.phase }, { on:=3, ground:=Ground.phase }, { on:=4, ground:=Ground.phase }, { on:=5, ground:=Ground.phase }, { on:=6, ground:=Ground.phase }, { on:=7, ground:=Ground.phase }, { on:=8, ground:=Ground.phase }], guard:=none }
abbrev qPk14_22 : Oper:={ dst:=some 65, op:=Op.load 25 (Operand.tmp 2), type:=25, pos := "locks.go:165", after:=#[], guard:=none }
abbrev qPk14_23 : Oper:={ dst:=some 66, op:=Op.fieldAddr 25 (Operand.tmp 2) 0, type:=0, pos := "locks.go:165", after:=#[], guard:=none }
abbrev qPk14_24 : Oper:={ dst:=some 67, op:=Op.load 23 (Operand.tmp 66), type:=23, pos := "locks.go:165", after:=#[{ on:=1, ground:=Ground.data }], guard:=none }
abbrev qPk14_25 : Oper:={ dst:=some 68, op:=Op.fieldAddr 29 (Operand.tmp 3) 0, type:=0, pos := "locks.go:165", after:=#[], guard:=none }
abbrev qPk14_26 : Oper:={ dst:=some 69, op:=Op.load 3 (Operand.tmp 68), type:=3, pos := "locks.go:165", after:=#[{ on:=3, ground:=Ground.data }], guard:=none }
abbrev qPk14_27 : Oper:={ dst:=some 70, op:=Op.fieldAddr 29 (Operand.tmp 3) 1, type:=0, pos := "locks.go:165", after:=#[], guard:=none }
abbrev qPk14_28 : Oper:={ dst:=some 71, op:=Op.load 27 (Operand.tmp 70), type:=27, pos := "locks.go:165", after:=#[{ on:=5, ground:=Ground.data }], guard:=none }
abbrev qPk14_29 : Oper:={ dst:=some 73, op:=Op.fieldAddr 29 (Operand.tmp 3) 2, type:=0, pos := "locks.go:165", after:=#[{ on:=11, ground:=Ground.gcOnly Departure.lateStores }], guard:=none }
abbrev qPk14_30 : Oper:={ dst:=some 74, op:=Op.load 3 (Operand.tmp 73), type:=3, pos := "locks.go:165", after:=#[{ on:=8, ground:=Ground.data }, { on:=11, ground:=Ground.gcOnly Departure.lateStores }], guard:=none }
abbrev qPk14_31 : Oper:={ dst:=some 72, op:=Op.call { callee:=Callee.value (Operand.func 44), args:=#[Operand.tmp 67, Operand.tmp 69, Operand.tmp 71], argTypes:=#[23, 3, 27] }, type:=3, pos := "locks.go:165", after:=#[{ on:=2, ground:=Ground.data }, { on:=4, ground:=Ground.data }, { on:=6, ground:=Ground.data }], guard:=none }
abbrev qPk14_32 : Oper:={ dst:=some 75, op:=Op.binOp BinOp.eql 3 (Operand.tmp 72) (Operand.tmp 74) 3, type:=4, pos := "locks.go:165", after:=#[{ on:=7, ground:=Ground.data }, { on:=9, ground:=Ground.data }, { on:=11, ground:=Ground.gcOnly Departure.lateStores }], guard:=none }
abbrev qPk14_33 : Oper:={ dst:=none, op:=Op.store 25 (Operand.tmp 4) (Operand.tmp 65), type:=0, pos := "locks.go:165", after:=#[{ on:=0, ground:=Ground.data }, { on:=7, ground:=Ground.chain }, { on:=0, ground:=Ground.phase }, { on:=1, ground:=Ground.textOnly Departure.lateStores }, { on:=2, ground:=Ground.textOnly Departure.lateStores }, { on:=3, ground:=Ground.textOnly Departure.lateStores }, { on:=4, ground:=Ground.textOnly Departure.lateStores }, { on:=5, ground:=Ground.textOnly Departure.lateStores }, { on:=6, ground:=Ground.textOnly Departure.lateStores }, { on:=7, ground:=Ground.textOnly Departure.lateStoresUnsure }, { on:=8, ground:=Ground.textOnly Departure.lateStores }, { on:=9, ground:=Ground.textOnly Departure.lateStores }, { on:=10, ground:=Ground.textOnly Departure.lateStores }], guard:=none }
abbrev qPk14_34 : Oper:={ dst:=some 5, op:=Op.assign (Operand.tmp 75), type:=4, pos := "locks.go:165", after:=#[{ on:=10, ground:=Ground.data }, { on:=11, ground:=Ground.chain }, { on:=0, ground:=Ground.phase }, { on:=1, ground:=Ground.phase }, { on:=2, ground:=Ground.phase }, { on:=3, ground:=Ground.phase }, { on:=4, ground:=Ground.phase }, { on:=5, ground:=Ground.phase }, { on:=6, ground:=Ground.phase }, { on:=7, ground:=Ground.phase }, { on:=8, ground:=Ground.phase }, { on:=9, ground:=Ground.phase }, { on:=10, ground:=Ground.phase }, { on:=11, ground:=Ground.phase }], guard:=none }
abbrev qPk14_35 : Oper:={ dst:=some 6, op:=Op.assign (Operand.const (Value.int IntKind.i64 0)), type:=42, pos := "locks.go:165", after:=#[{ on:=12, ground:=Ground.chain }, { on:=0, ground:=Ground.phase }, { on:=1, ground:=Ground.phase }, { on:=2, ground:=Ground.phase }, { on:=3, ground:=Ground.phase }, { on:=4, ground:=Ground.phase }, { on:=5, ground:=Ground.phase }, { on:=6, ground:=Ground.phase }, { on:=7, ground:=Ground.phase }, { on:=8, ground:=Ground.phase }, { on:=9, ground:=Ground.phase }, { on:=10, ground:=Ground.phase }, { on:=11, ground:=Ground.phase }, { on:=12, ground:=Ground.phase }], guard:=none }
set_option maxHeartbeats 16000000 in
theorem prequest_any {h v : Value} {t : Tb} {R : List Rng} (g : Gr) (w : World) (ht : TbRd h v t R) (hR : RdIn w R) (hg : GoodTb t) (hk : GoodGr g) :
  Calls Try.prog 24 #[.agg (tbCells h v).toArray, .agg (grCells g).toArray] w (TbPost3 w R (requestR t g)):=by
 obtain ⟨a, cap, rfl, hnc, hcm⟩:=ht.1.shape
 obtain ⟨a2, cap2, rfl, hnc2, hcm2⟩:=ht.2.shape
 have HT:=Lib.hid ht
 have HR:=Lib.hid hR
 have HK:=Lib.hid hk
 have HGo:=Lib.hid hg
 have HUX:=Lib.hid under_grs
 have HVa : Hid (∀ W, Below w.heap.size w W → Calls Try.prog 29 #[.agg (tbCells (.slice a t.held.length cap) (.slice a2 t.wait.length cap2)).toArray] W fun e w'=>e = .returned (.bool (tbOkB t)) ∧ Below W.heap.size W w'):=fun W hb=>plkvalid_any W ht (hR.below hb) hg
 have HGr : Hid (∀ W, Calls Try.prog 43 #[.agg (grCells g).toArray] W fun e w'=>e = .returned (.bool (grOkB g)) ∧ Below W.heap.size W w'):=fun W=>pgrant_any g W
 have HWa : Hid (tbOkB t = true → ∀ W, Below w.heap.size w W → Calls Try.prog 42 #[.agg (tbCells (.slice a t.held.length cap) (.slice a2 t.wait.length cap2)).toArray, .int .i64 g.tx] W fun e w'=>e = .returned (.tuple #[.agg (grCells (waitR t g.tx).1).toArray, .bool (waitR t g.tx).2]) ∧ Below W.heap.size W w'):=fun h W hb=>by
  rw [waitR_of (tbOkB_iff.1 h)]
  exact pwaiting_any g.tx W ht (hR.below hb) hg
 have HMo : Hid (tbOkB t = true → ∀ W, Below w.heap.size w W → Calls Try.prog 44 #[.slice a t.held.length cap, .int .i64 g.tx, .agg (lkCells g.lock).toArray] W fun e w'=>e = .returned (.int .i64 (modeG t.held g)) ∧ Below W.heap.size W w'):=fun h W hb=>pmode_any g.tx g.lock t.held _ R W (tbOkB_iff.1 h).tin.held.up ht.1 (hR.below hb) (by have:=hg.few;omega)
 have HSz : Hid (∀ W, Calls Try.prog 45 #[.agg (tbCells (.slice a t.held.length cap) (.slice a2 t.wait.length cap2)).toArray] W fun e w'=>e = .returned (.int .i64 ((t.held.length : Int) + (t.wait.length : Int))) ∧ Below W.heap.size W w'):=fun W=>size_any W ht hg
 have HTu : Hid (tbOkB t = true → ∀ W, Below w.heap.size w W → Calls Try.prog 48 #[.agg (tbCells (.slice a t.held.length cap) (.slice a2 t.wait.length cap2)).toArray, .agg (grCells g).toArray] W fun e w'=>e = .returned (.int .i64 (wplaceR t.held t.wait g : Nat)) ∧ Below W.heap.size W w'):=fun h W hb=>turn_any g W ht (hR.below hb) hg hk (tbOkB_iff.1 h).tin.held
 have HCl : Hid (∀ W, Below w.heap.size w W → Calls Try.prog 47 #[.slice a2 t.wait.length cap2] W fun e w'=>∃ u, e = .returned u ∧ Below W.heap.size W w' ∧ w'.ownsRow W.heap.size 29 4 u t.wait.length (grRow t.wait)):=fun W hb=>cloneG_any t.wait _ R W ht.2 (hR.below hb) (by have:=hg.few;omega)
 have HGw:=Lib.hid (waitR_good hg g.tx)
 have HLen : Hid (tbOkB t = true → t.held.length + t.wait.length ≤ 1024):=fun h=>(tbOkB_iff.1 h).few
 have HAd : Hid (tbOkB t = true → grOkB g = true → (waitR t g.tx).2 = false → ¬ g.mode ≤ modeG t.held g → TbIn (addedR t g)):=fun h1 h2 h3 h4=>by
  have hok:=tbOkB_iff.1 h1
  rw [waitR_of hok] at h3
  refine added_in hok (grOkB_iff.1 h2) (wfind_none ?_) (by omega)
  simpa using h3
 have HD : Hid (requestR t g = if tbOkB t = false then (tbNil, false, 17)
  else if grOkB g = false then (tbNil, false, 1)
  else if (waitR t g.tx).2 = true then (if grEqB (waitR t g.tx).1 g = true then (t, false, 0) else (tbNil, false, 15))
  else if g.mode ≤ modeG t.held g then (t, true, 0)
  else if t.held.length + t.wait.length = 1024 then (tbNil, false, 21)
  else (settleR (addedR t g), decide (g.mode ≤ modeG (settleR (addedR t g)).held g), 0)):=rfl
 clear ht hg hk
 have h1:=(((Hp.startrd w R hR).put 25 (tbCells (.slice a t.held.length cap) (.slice a2 t.wait.length cap2))).put 29 (grCells g)).put 25 (tbCells (.slice none 0 0) (.slice none 0 0))
 simp only [World.size_alloc, List.nil_append, List.cons_append] at h1
 have h2:=h1.pull [1, 2, 3, 0] (M:=[.ob w.heap.size 25 (tbCells (.slice a t.held.length cap) (.slice a2 t.wait.length cap2)), .ob (w.heap.size + 1) 29 (grCells g), .ob (w.heap.size + 1 + 1) 25 (tbCells (.slice none 0 0) (.slice none 0 0)), .rd R]) rfl (pull_nd h1.nd [1, 2, 3, 0] rfl (by decide))
 have HS0 : Hid (Hp w [.ob w.heap.size 25 (tbCells (.slice a t.held.length cap) (.slice a2 t.wait.length cap2)), .ob (w.heap.size + 1) 29 (grCells g), .ob (w.heap.size + 1 + 1) 25 (tbCells (.slice none 0 0) (.slice none 0 0)), .rd R] (((w.alloc (.cells (tbCells (.slice a t.held.length cap) (.slice a2 t.wait.length cap2)).toArray 25)).alloc (.cells (grCells g).toArray 29)).alloc (.cells #[.slice none 0 0, .slice none 0 0] 25))):=h2
 clear h1 h2 hR
 obtain ⟨fsHUG, huHUG⟩:=under_gr
 have HUG:=Lib.hid huHUG
 clear huHUG
 obtain ⟨fsHUK, huHUK⟩:=under_lk
 have HUK:=Lib.hid huHUK
 clear huHUK
 obtain ⟨fsHUT, huHUT⟩:=under_tb
 have HUT:=Lib.hid huHUT
 clear huHUT
 generalize tbOkB t = ok at *
 generalize grOkB g = gk at *
 generalize modeG t.held g = mo at *
 obtain ⟨wx, wb, hwx⟩ : ∃ wx wb, waitR t g.tx = (wx, wb):=⟨_, _, rfl⟩
 rw [hwx] at HWa HGw HAd HD
 clear hwx
 simp only at HWa HGw HAd HD
 obtain ⟨rq, hrq⟩ : ∃ rq, requestR t g = rq:=⟨_, rfl⟩
 rw [hrq] at HD
 rw [hrq]
 clear hrq
 go_enter Try.func24, Try.ntmps24
 go_upto_region 1 with (fail)
 generalize (((w.alloc (.cells (tbCells (.slice a t.held.length cap) (.slice a2 t.wait.length cap2)).toArray 25)).alloc (.cells (grCells g).toArray 29)).alloc (.cells #[.slice none 0 0, .slice none 0 0] 25)) = w1 at *
 generalize w.heap.size + 1 + 1 = b4 at *
 generalize w.heap.size + 1 = b3 at *
 go_wp2_with (first | ((with_reducible refine wpList_load_ob 25 (.tmp 2) (w.heap.size) (tbCells (.slice a t.held.length cap) (.slice a2 t.wait.length cap2)) 25 HUT.out ?_ ?_ ?_ ?_ ?_);(exact rfl);(exact (HS0.out).get 0 rfl);(exact rfl);(exact info_tb);simp only [z0, z1, z2, z3]))
 refine (HVa.out _ (HS0.out).old).mono ?_
 rintro e w41 ⟨rfl, hb⟩
 have HS41:=Lib.hid ((HS0.out).calls hb)
 clear hb
 clear HS0
 clear HVa
 cases ok
 ·skip
  go_wp2_with (first | ((with_reducible refine wpList_build_v (d:=some 12) 25 (.agg (tbCells (.slice none 0 0) (.slice none 0 0)).toArray) ?_ ?_);(intro W;simp only [List.map_toArray, List.map_cons, List.map_nil];exact build_tb0 W);simp only [z0, z1, z2, z3]) | ((with_reducible refine wpList_store_ob 25 (.tmp 4) b4 (tbCells (.slice none 0 0) (.slice none 0 0)) (tbCells (.slice none 0 0) (.slice none 0 0)) 25 ?_ ?_ ?_ ?_ ?_ ?_ ?_);(exact rfl);(exact rfl);(exact (HS41.out).get 2 rfl);(exact info_tb);(exact rfl);(exact (oneCell_tb _ _ _ _ _ _));skip))
  have HS67 : Hid (Hp w [.ob (w.heap.size) 25 (tbCells (.slice a t.held.length cap) (.slice a2 t.wait.length cap2)), .ob b3 29 (grCells g), .ob b4 25 (tbCells (.slice none 0 0) (.slice none 0 0)), .rd R] (w41.setRow b4 (tbCells (.slice none 0 0) (.slice none 0 0)).toArray)):=(HS41.out).row 2 rfl (tbCells (.slice none 0 0) (.slice none 0 0))
  clear HS41
  generalize (w41.setRow b4 (tbCells (.slice none 0 0) (.slice none 0 0)).toArray) = w67 at *
  refine bodyPost_ret (results_ob_tmp2 Try.results24 _ _ b4 (tbCells (.slice none 0 0) (.slice none 0 0)) 25 _ rfl ((HS67.out).get 2 rfl) HUT.out rfl info_tb) rfl ?_
  exact TbPost3.none (by rw [HD.out];rfl) (HS67.out).old
 have HLn : Hid (t.held.length + t.wait.length ≤ 1024):=Lib.hid (HLen.out (by first | trivial | rfl))
 have HWa1:=Lib.hid (HWa.out (by first | trivial | rfl))
 have HMo1:=Lib.hid (HMo.out (by first | trivial | rfl))
 have HTu1:=Lib.hid (HTu.out (by first | trivial | rfl))
 clear HWa HMo HTu HLen
 have g0 : w41.cell? ⟨b3, 0, none⟩ = some (.int .i64 g.tx):=HS41.out.at 1 rfl 0 rfl
 have g1 : w41.cell? ⟨b3, 1, none⟩ = some (.int .i64 g.page):=HS41.out.at 1 rfl 1 rfl
 have g2 : w41.cell? ⟨b3, 2, none⟩ = some (.int .i64 g.slot):=HS41.out.at 1 rfl 2 rfl
 have g3 : w41.cell? ⟨b3, 3, none⟩ = some (.int .i64 g.mode):=HS41.out.at 1 rfl 3 rfl
 go_wp2_with (first | ((with_reducible refine wpList_load_ob 25 (.tmp 2) (w.heap.size) (tbCells (.slice a t.held.length cap) (.slice a2 t.wait.length cap2)) 25 HUT.out ?_ ?_ ?_ ?_ ?_);(exact rfl);(exact (HS41.out).get 0 rfl);(exact rfl);(exact info_tb);simp only [z0, z1, z2, z3]))
 refine (HWa1.out _ (HS41.out).old).mono ?_
 rintro e w87 ⟨rfl, hb⟩
 have HS87:=Lib.hid ((HS41.out).calls hb)
 clear hb
 clear HS41
 go_upto_region 4 with (first | ((with_reducible refine wpList_alloc_ob 29 (grCells grNil) ?_ ?_);(exact alloc_gr);simp only [z0, z1, z2, z3]) | ((with_reducible refine wpList_store_ob 29 (.tmp 7) (w87.heap.size) (grCells wx) (grCells grNil) 29 ?_ ?_ ?_ ?_ ?_ ?_ ?_);(exact rfl);(exact rfl);(exact ((HS87.out).put 29 (grCells grNil)).get 4 rfl);(exact info_gr);(exact rfl);(exact (oneCell_gr _));skip))
 have HS88 : Hid (Hp w [.ob (w.heap.size) 25 (tbCells (.slice a t.held.length cap) (.slice a2 t.wait.length cap2)), .ob b3 29 (grCells g), .ob b4 25 (tbCells (.slice none 0 0) (.slice none 0 0)), .rd R, .ob (w87.heap.size) 29 (grCells wx)] ((w87.alloc (.cells (grCells grNil).toArray 29)).setRow (w87.heap.size) (grCells wx).toArray)):=((HS87.out).put 29 (grCells grNil)).row 4 rfl (grCells wx)
 clear g0 g1 g2 g3 HWa1
 clear HS87
 generalize ((w87.alloc (.cells (grCells grNil).toArray 29)).setRow (w87.heap.size) (grCells wx).toArray) = w88 at *
 generalize w87.heap.size = B87 at *
 go_wp2_with (first | ((with_reducible refine wpList_load_ob 29 (.tmp 3) b3 (grCells g) 29 HUG.out ?_ ?_ ?_ ?_ ?_);(exact rfl);(exact (HS88.out).get 1 rfl);(exact rfl);(exact info_gr);simp only [z0, z1, z2, z3]))
 refine (HGr.out _).mono ?_
 rintro e w114 ⟨rfl, hb⟩
 have HS114:=Lib.hid ((HS88.out).calls hb)
 clear hb
 clear HS88
 clear HGr
 cases gk
 ·skip
  go_wp2_with (first | ((with_reducible refine wpList_build_v (d:=some 24) 25 (.agg (tbCells (.slice none 0 0) (.slice none 0 0)).toArray) ?_ ?_);(intro W;simp only [List.map_toArray, List.map_cons, List.map_nil];exact build_tb0 W);simp only [z0, z1, z2, z3]) | ((with_reducible refine wpList_store_ob 25 (.tmp 4) b4 (tbCells (.slice none 0 0) (.slice none 0 0)) (tbCells (.slice none 0 0) (.slice none 0 0)) 25 ?_ ?_ ?_ ?_ ?_ ?_ ?_);(exact rfl);(exact rfl);(exact (HS114.out).get 2 rfl);(exact info_tb);(exact rfl);(exact (oneCell_tb _ _ _ _ _ _));skip))
  have HS140 : Hid (Hp w [.ob (w.heap.size) 25 (tbCells (.slice a t.held.length cap) (.slice a2 t.wait.length cap2)), .ob b3 29 (grCells g), .ob b4 25 (tbCells (.slice none 0 0) (.slice none 0 0)), .rd R, .ob B87 29 (grCells wx)] (w114.setRow b4 (tbCells (.slice none 0 0) (.slice none 0 0)).toArray)):=(HS114.out).row 2 rfl (tbCells (.slice none 0 0) (.slice none 0 0))
  clear HS114
  generalize (w114.setRow b4 (tbCells (.slice none 0 0) (.slice none 0 0)).toArray) = w140 at *
  refine bodyPost_ret (results_ob_tmp2 Try.results24 _ _ b4 (tbCells (.slice none 0 0) (.slice none 0 0)) 25 _ rfl ((HS140.out).get 2 rfl) HUT.out rfl info_tb) rfl ?_
  exact TbPost3.none (by rw [HD.out];rfl) (HS140.out).old
 cases wb
 case true =>
  have hqe : ∀ W, Sem.run Try.prog (binOp .neq 29 (.agg (grCells wx).toArray) (.agg (grCells g).toArray)) W = .ok (.bool (!sameV wx g)) W:=fun W=>run_neq (equal_gr wx g HGw.out HK.out) W
  have hsm:=grEq_same wx g
  simp only [grCells] at hqe
  have x0 : w114.cell? ⟨B87, 0, none⟩ = some (.int .i64 wx.tx):=HS114.out.at 4 rfl 0 rfl
  have x1 : w114.cell? ⟨B87, 1, none⟩ = some (.int .i64 wx.page):=HS114.out.at 4 rfl 1 rfl
  have x2 : w114.cell? ⟨B87, 2, none⟩ = some (.int .i64 wx.slot):=HS114.out.at 4 rfl 2 rfl
  have x3 : w114.cell? ⟨B87, 3, none⟩ = some (.int .i64 wx.mode):=HS114.out.at 4 rfl 3 rfl
  have g0 : w114.cell? ⟨b3, 0, none⟩ = some (.int .i64 g.tx):=HS114.out.at 1 rfl 0 rfl
  have g1 : w114.cell? ⟨b3, 1, none⟩ = some (.int .i64 g.page):=HS114.out.at 1 rfl 1 rfl
  have g2 : w114.cell? ⟨b3, 2, none⟩ = some (.int .i64 g.slot):=HS114.out.at 1 rfl 2 rfl
  have g3 : w114.cell? ⟨b3, 3, none⟩ = some (.int .i64 g.mode):=HS114.out.at 1 rfl 3 rfl
  cases hsv : sameV wx g
  ·have HE : Hid (rq = (tbNil, false, 15)):=Lib.hid (by rw [hsv] at hsm;rw [HD.out, ← hsm];simp)
   rw [hsv] at hqe
   clear hsv hsm
   go_upto_region 7 with (fail)
   clear x0 x1 x2 x3 g0 g1 g2 g3 hqe
   go_wp2_with (first | ((with_reducible refine wpList_build_v (d:=some 32) 25 (.agg (tbCells (.slice none 0 0) (.slice none 0 0)).toArray) ?_ ?_);(intro W;simp only [List.map_toArray, List.map_cons, List.map_nil];exact build_tb0 W);simp only [z0, z1, z2, z3]) | ((with_reducible refine wpList_store_ob 25 (.tmp 4) b4 (tbCells (.slice none 0 0) (.slice none 0 0)) (tbCells (.slice none 0 0) (.slice none 0 0)) 25 ?_ ?_ ?_ ?_ ?_ ?_ ?_);(exact rfl);(exact rfl);(exact (HS114.out).get 2 rfl);(exact info_tb);(exact rfl);(exact (oneCell_tb _ _ _ _ _ _));skip))
   have HS160 : Hid (Hp w [.ob (w.heap.size) 25 (tbCells (.slice a t.held.length cap) (.slice a2 t.wait.length cap2)), .ob b3 29 (grCells g), .ob b4 25 (tbCells (.slice none 0 0) (.slice none 0 0)), .rd R, .ob B87 29 (grCells wx)] (w114.setRow b4 (tbCells (.slice none 0 0) (.slice none 0 0)).toArray)):=(HS114.out).row 2 rfl (tbCells (.slice none 0 0) (.slice none 0 0))
   clear HS114
   generalize (w114.setRow b4 (tbCells (.slice none 0 0) (.slice none 0 0)).toArray) = w160 at *
   refine bodyPost_ret (results_ob_tmp2 Try.results24 _ _ b4 (tbCells (.slice none 0 0) (.slice none 0 0)) 25 _ rfl ((HS160.out).get 2 rfl) HUT.out rfl info_tb) rfl ?_
   exact TbPost3.none (by exact HE.out) (HS160.out).old
  ·have HE : Hid (rq = (t, false, 0)):=Lib.hid (by rw [hsv] at hsm;rw [HD.out, ← hsm];simp)
   rw [hsv] at hqe
   clear hsv hsm
   go_upto_region 9 with (fail)
   clear x0 x1 x2 x3 g0 g1 g2 g3 hqe
   go_wp2_with (first | ((with_reducible refine wpList_load_ob 25 (.tmp 2) (w.heap.size) (tbCells (.slice a t.held.length cap) (.slice a2 t.wait.length cap2)) 25 HUT.out ?_ ?_ ?_ ?_ ?_);(exact rfl);(exact (HS114.out).get 0 rfl);(exact rfl);(exact info_tb);simp only [z0, z1, z2, z3]) | ((with_reducible refine wpList_store_ob 25 (.tmp 4) b4 (tbCells (.slice a t.held.length cap) (.slice a2 t.wait.length cap2)) (tbCells (.slice none 0 0) (.slice none 0 0)) 25 ?_ ?_ ?_ ?_ ?_ ?_ ?_);(exact rfl);(exact rfl);(exact (HS114.out).get 2 rfl);(exact info_tb);(exact rfl);(exact (oneCell_tb _ _ _ _ _ _));skip))
   have HS180 : Hid (Hp w [.ob (w.heap.size) 25 (tbCells (.slice a t.held.length cap) (.slice a2 t.wait.length cap2)), .ob b3 29 (grCells g), .ob b4 25 (tbCells (.slice a t.held.length cap) (.slice a2 t.wait.length cap2)), .rd R, .ob B87 29 (grCells wx)] (w114.setRow b4 (tbCells (.slice a t.held.length cap) (.slice a2 t.wait.length cap2)).toArray)):=(HS114.out).row 2 rfl (tbCells (.slice a t.held.length cap) (.slice a2 t.wait.length cap2))
   clear HS114
   generalize (w114.setRow b4 (tbCells (.slice a t.held.length cap) (.slice a2 t.wait.length cap2)).toArray) = w180 at *
   refine bodyPost_ret (results_ob_tmp2 Try.results24 _ _ b4 (tbCells (.slice a t.held.length cap) (.slice a2 t.wait.length cap2)) 25 _ rfl ((HS180.out).get 2 rfl) HUT.out rfl info_tb) rfl ?_
   exact TbPost3.same (by exact HE.out) HT.out HR.out (HS180.out).old
 case false =>
  have HAd2:=Lib.hid (fun h=>HAd.out (by first | trivial | rfl) (by first | trivial | rfl) (by first | trivial | rfl) h)
  have HD2 : Hid (rq = if g.mode ≤ mo then (t, true, 0) else if t.held.length + t.wait.length = 1024 then (tbNil, false, 21) else (settleR (addedR t g), decide (g.mode ≤ modeG (settleR (addedR t g)).held g), 0)):=Lib.hid (by rw [HD.out];simp)
  clear HD HAd
  go_upto_region 10 with (fail)
  by_cases hmo : g.mode ≤ mo
  ·have HE : Hid (rq = (t, true, 0)):=Lib.hid (by rw [HD2.out, if_pos hmo])
   have dm : decide (g.mode ≤ mo) = true:=decide_eq_true hmo
   clear hmo HD2
   refine wp_region_held_drew (S:=fun w'=>w'.rangeAt w.heap.size 0 (tbCells (.slice a t.held.length cap) (.slice a2 t.wait.length cap2)) ∧ w'.rangeAt b3 0 (grCells g)) (by kernel_rfl) (⟨(fun j v hv=>by rw [Nat.zero_add];exact ((HS114.out).drew).at 0 rfl j hv), (fun j v hv=>by rw [Nat.zero_add];exact ((HS114.out).drew).at 1 rfl j hv)⟩) (fun hHeld=>?_)
   refine tk 0 qPk14_0 (some 37) (v:=?q801v) (Or.inl ⟨by rfl, ?q801h⟩) hHeld ?q801r
   case q801h=>(intro _ h;clear h;go_simp;try with_reducible rfl)
   try simp only [z0, z1, z2, z3]
   refine tk 1 qPk14_1 (some 38) (v:=.slice a t.held.length cap) (Or.inl ⟨by rfl, ?q802h⟩) hHeld ?q802r
   case q802h=>(intro wq hSw;have lq:=(hSw.1) 0 (.slice a t.held.length cap) rfl;simp only [Nat.zero_add] at lq;clear hSw;go_simp;try with_reducible rfl)
   try simp only [z0, z1, z2, z3]
   refine tk 2 qPk14_2 (some 39) (v:=?q803v) (Or.inl ⟨by rfl, ?q803h⟩) hHeld ?q803r
   case q803h=>(intro _ h;clear h;go_simp;try with_reducible rfl)
   try simp only [z0, z1, z2, z3]
   refine tk 3 qPk14_3 (some 40) (v:=.int .i64 g.tx) (Or.inl ⟨by rfl, ?q804h⟩) hHeld ?q804r
   case q804h=>(intro wq hSw;have lq:=(hSw.2) 0 (.int .i64 g.tx) rfl;simp only [Nat.zero_add] at lq;clear hSw;go_simp;try with_reducible rfl)
   try simp only [z0, z1, z2, z3]
   refine tk 4 qPk14_4 (some 41) (v:=?q805v) (Or.inl ⟨by rfl, ?q805h⟩) hHeld ?q805r
   case q805h=>(intro _ h;clear h;go_simp;try with_reducible rfl)
   try simp only [z0, z1, z2, z3]
   refine tk 5 qPk14_5 (some 42) (yieldsIf_load_mid (by rfl) 27 (.tmp 41) rfl b3 (1) rfl (lkCells g.lock) _ (fun _ h=>range_part (h.2) (mid_lk g)) HUK.out rfl (info_lk)) hHeld ?_
   try simp only [z0, z1, z2, z3]
   refine tk 7 qPk14_6 (some 44) (v:=?q807v) (Or.inl ⟨by rfl, ?q807h⟩) hHeld ?q807r
   case q807h=>(intro _ h;clear h;go_simp;try with_reducible rfl)
   try simp only [z0, z1, z2, z3]
   refine tk 8 qPk14_7 (some 45) (v:=.int .i64 g.mode) (Or.inl ⟨by rfl, ?q808h⟩) hHeld ?q808r
   case q808h=>(intro wq hSw;have lq:=(hSw.2) 3 (.int .i64 g.mode) rfl;simp only [Nat.zero_add] at lq;clear hSw;go_simp;try with_reducible rfl)
   try simp only [z0, z1, z2, z3]
   refine tn 6 qPk14_8 (fun K hK=>?_)
   go_simp
   go_wp2_with (go_at_call 44;refine (HMo1.out _ ((HS114.out).drew).old).mono ?_;rintro e w200 ⟨rfl, hb⟩)
   have HS200:=Lib.hid (((HS114.out).drew).calls hb)
   refine hK.out _ _ (⟨(fun j v hv=>by rw [Nat.zero_add];exact (HS200.out).at 0 rfl j hv), (fun j v hv=>by rw [Nat.zero_add];exact (HS200.out).at 1 rfl j hv)⟩) (fun hHeld=>?_)
   clear hK K hb
   try simp only [z0, z1, z2, z3]
   refine tk 9 qPk14_9 (some 46) (v:=.bool true) (Or.inl ⟨by rfl, ?q809h⟩) hHeld ?q809r
   case q809h=>(intro _ h;clear h;go_simp;try with_reducible rfl)
   try simp only [z0, z1, z2, z3]
   refine tk 10 qPk14_10 (some 36) (v:=?q810v) (Or.inl ⟨by rfl, ?q810h⟩) hHeld ?q810r
   case q810h=>(intro _ h;clear h;go_simp;try with_reducible rfl)
   try simp only [z0, z1, z2, z3]
   refine wpAnyH_done (by kernel_rfl) ?_ _
   clear hHeld
   go_upto_region 11 with (fail)
   go_wp2_with (first | ((with_reducible refine wpList_load_ob 25 (.tmp 2) (w.heap.size) (tbCells (.slice a t.held.length cap) (.slice a2 t.wait.length cap2)) 25 HUT.out ?_ ?_ ?_ ?_ ?_);(exact rfl);(exact (HS200.out).get 0 rfl);(exact rfl);(exact info_tb);simp only [z0, z1, z2, z3]) | ((with_reducible refine wpList_store_ob 25 (.tmp 4) b4 (tbCells (.slice a t.held.length cap) (.slice a2 t.wait.length cap2)) (tbCells (.slice none 0 0) (.slice none 0 0)) 25 ?_ ?_ ?_ ?_ ?_ ?_ ?_);(exact rfl);(exact rfl);(exact (HS200.out).get 2 rfl);(exact info_tb);(exact rfl);(exact (oneCell_tb _ _ _ _ _ _));skip))
   have HS226 : Hid (Hp w [.ob (w.heap.size) 25 (tbCells (.slice a t.held.length cap) (.slice a2 t.wait.length cap2)), .ob b3 29 (grCells g), .ob b4 25 (tbCells (.slice a t.held.length cap) (.slice a2 t.wait.length cap2)), .rd R, .ob B87 29 (grCells wx)] (w200.setRow b4 (tbCells (.slice a t.held.length cap) (.slice a2 t.wait.length cap2)).toArray)):=(HS200.out).row 2 rfl (tbCells (.slice a t.held.length cap) (.slice a2 t.wait.length cap2))
   clear HS200
   generalize (w200.setRow b4 (tbCells (.slice a t.held.length cap) (.slice a2 t.wait.length cap2)).toArray) = w226 at *
   refine bodyPost_ret (results_ob_tmp2 Try.results24 _ _ b4 (tbCells (.slice a t.held.length cap) (.slice a2 t.wait.length cap2)) 25 _ rfl ((HS226.out).get 2 rfl) HUT.out rfl info_tb) rfl ?_
   exact TbPost3.same (by exact HE.out) HT.out HR.out (HS226.out).old
  have HD3 : Hid (rq = if t.held.length + t.wait.length = 1024 then (tbNil, false, 21) else (settleR (addedR t g), decide (g.mode ≤ modeG (settleR (addedR t g)).held g), 0)):=Lib.hid (by rw [HD2.out, if_neg hmo])
  have HIn:=Lib.hid (HAd2.out (by omega))
  have dm : decide (g.mode ≤ mo) = false:=decide_eq_false hmo
  clear hmo HD2 HAd2
  refine wp_region_held_drew (S:=fun w'=>w'.rangeAt w.heap.size 0 (tbCells (.slice a t.held.length cap) (.slice a2 t.wait.length cap2)) ∧ w'.rangeAt b3 0 (grCells g)) (by kernel_rfl) (⟨(fun j v hv=>by rw [Nat.zero_add];exact ((HS114.out).drew).at 0 rfl j hv), (fun j v hv=>by rw [Nat.zero_add];exact ((HS114.out).drew).at 1 rfl j hv)⟩) (fun hHeld=>?_)
  refine tk 0 qPk14_0 (some 37) (v:=?q901v) (Or.inl ⟨by rfl, ?q901h⟩) hHeld ?q901r
  case q901h=>(intro _ h;clear h;go_simp;try with_reducible rfl)
  try simp only [z0, z1, z2, z3]
  refine tk 1 qPk14_1 (some 38) (v:=.slice a t.held.length cap) (Or.inl ⟨by rfl, ?q902h⟩) hHeld ?q902r
  case q902h=>(intro wq hSw;have lq:=(hSw.1) 0 (.slice a t.held.length cap) rfl;simp only [Nat.zero_add] at lq;clear hSw;go_simp;try with_reducible rfl)
  try simp only [z0, z1, z2, z3]
  refine tk 2 qPk14_2 (some 39) (v:=?q903v) (Or.inl ⟨by rfl, ?q903h⟩) hHeld ?q903r
  case q903h=>(intro _ h;clear h;go_simp;try with_reducible rfl)
  try simp only [z0, z1, z2, z3]
  refine tk 3 qPk14_3 (some 40) (v:=.int .i64 g.tx) (Or.inl ⟨by rfl, ?q904h⟩) hHeld ?q904r
  case q904h=>(intro wq hSw;have lq:=(hSw.2) 0 (.int .i64 g.tx) rfl;simp only [Nat.zero_add] at lq;clear hSw;go_simp;try with_reducible rfl)
  try simp only [z0, z1, z2, z3]
  refine tk 4 qPk14_4 (some 41) (v:=?q905v) (Or.inl ⟨by rfl, ?q905h⟩) hHeld ?q905r
  case q905h=>(intro _ h;clear h;go_simp;try with_reducible rfl)
  try simp only [z0, z1, z2, z3]
  refine tk 5 qPk14_5 (some 42) (yieldsIf_load_mid (by rfl) 27 (.tmp 41) rfl b3 (1) rfl (lkCells g.lock) _ (fun _ h=>range_part (h.2) (mid_lk g)) HUK.out rfl (info_lk)) hHeld ?_
  try simp only [z0, z1, z2, z3]
  refine tk 7 qPk14_6 (some 44) (v:=?q907v) (Or.inl ⟨by rfl, ?q907h⟩) hHeld ?q907r
  case q907h=>(intro _ h;clear h;go_simp;try with_reducible rfl)
  try simp only [z0, z1, z2, z3]
  refine tk 8 qPk14_7 (some 45) (v:=.int .i64 g.mode) (Or.inl ⟨by rfl, ?q908h⟩) hHeld ?q908r
  case q908h=>(intro wq hSw;have lq:=(hSw.2) 3 (.int .i64 g.mode) rfl;simp only [Nat.zero_add] at lq;clear hSw;go_simp;try with_reducible rfl)
  try simp only [z0, z1, z2, z3]
  refine tn 6 qPk14_8 (fun K hK=>?_)
  go_simp
  go_wp2_with (go_at_call 44;refine (HMo1.out _ ((HS114.out).drew).old).mono ?_;rintro e w246 ⟨rfl, hb⟩)
  have HS246:=Lib.hid (((HS114.out).drew).calls hb)
  refine hK.out _ _ (⟨(fun j v hv=>by rw [Nat.zero_add];exact (HS246.out).at 0 rfl j hv), (fun j v hv=>by rw [Nat.zero_add];exact (HS246.out).at 1 rfl j hv)⟩) (fun hHeld=>?_)
  clear hK K hb
  try simp only [z0, z1, z2, z3]
  refine tk 9 qPk14_9 (some 46) (v:=.bool false) (Or.inl ⟨by rfl, ?q909h⟩) hHeld ?q909r
  case q909h=>(intro _ h;clear h;go_simp;try with_reducible rfl)
  try simp only [z0, z1, z2, z3]
  refine tk 10 qPk14_10 (some 36) (v:=?q910v) (Or.inl ⟨by rfl, ?q910h⟩) hHeld ?q910r
  case q910h=>(intro _ h;clear h;go_simp;try with_reducible rfl)
  try simp only [z0, z1, z2, z3]
  refine wpAnyH_done (by kernel_rfl) ?_ _
  clear hHeld HMo1
  go_upto_region 12 with (fail)
  go_wp2_with (first | ((with_reducible refine wpList_load_ob 25 (.tmp 2) (w.heap.size) (tbCells (.slice a t.held.length cap) (.slice a2 t.wait.length cap2)) 25 HUT.out ?_ ?_ ?_ ?_ ?_);(exact rfl);(exact (HS246.out).get 0 rfl);(exact rfl);(exact info_tb);simp only [z0, z1, z2, z3]))
  refine (HSz.out _).mono ?_
  rintro e w272 ⟨rfl, hb⟩
  have HS272:=Lib.hid ((HS246.out).calls hb)
  clear hb
  clear HS246
  clear HSz
  by_cases hfl : t.held.length + t.wait.length = 1024
  ·have HE : Hid (rq = (tbNil, false, 21)):=Lib.hid (by rw [HD3.out, if_pos hfl])
   have e1 : ((t.held.length : Int) + (t.wait.length : Int) == 1024) = true:=by simp;omega
   clear hfl HD3
   go_upto_region 13 with (fail)
   clear e1
   go_wp2_with (first | ((with_reducible refine wpList_build_v (d:=some 52) 25 (.agg (tbCells (.slice none 0 0) (.slice none 0 0)).toArray) ?_ ?_);(intro W;simp only [List.map_toArray, List.map_cons, List.map_nil];exact build_tb0 W);simp only [z0, z1, z2, z3]) | ((with_reducible refine wpList_store_ob 25 (.tmp 4) b4 (tbCells (.slice none 0 0) (.slice none 0 0)) (tbCells (.slice none 0 0) (.slice none 0 0)) 25 ?_ ?_ ?_ ?_ ?_ ?_ ?_);(exact rfl);(exact rfl);(exact (HS272.out).get 2 rfl);(exact info_tb);(exact rfl);(exact (oneCell_tb _ _ _ _ _ _));skip))
   have HS298 : Hid (Hp w [.ob (w.heap.size) 25 (tbCells (.slice a t.held.length cap) (.slice a2 t.wait.length cap2)), .ob b3 29 (grCells g), .ob b4 25 (tbCells (.slice none 0 0) (.slice none 0 0)), .rd R, .ob B87 29 (grCells wx)] (w272.setRow b4 (tbCells (.slice none 0 0) (.slice none 0 0)).toArray)):=(HS272.out).row 2 rfl (tbCells (.slice none 0 0) (.slice none 0 0))
   clear HS272
   generalize (w272.setRow b4 (tbCells (.slice none 0 0) (.slice none 0 0)).toArray) = w298 at *
   refine bodyPost_ret (results_ob_tmp2 Try.results24 _ _ b4 (tbCells (.slice none 0 0) (.slice none 0 0)) 25 _ rfl ((HS298.out).get 2 rfl) HUT.out rfl info_tb) rfl ?_
   exact TbPost3.none (by exact HE.out) (HS298.out).old
  have HE : Hid (rq = (settleR (addedR t g), decide (g.mode ≤ modeG (settleR (addedR t g)).held g), 0)):=Lib.hid (by rw [HD3.out, if_neg hfl])
  have e1 : ((t.held.length : Int) + (t.wait.length : Int) == 1024) = false:=by simp;omega
  clear hfl HD3
  go_upto_region 14 with (fail)
  clear e1
  have hpl:=place_le t.held t.wait g
  have HAe:=Lib.hid (added_ins t g)
  obtain ⟨p, hp⟩ : ∃ p, wplaceR t.held t.wait g = p:=⟨_, rfl⟩
  rw [hp] at hpl HAe HTu1
  clear hp
  have HPl:=Lib.hid hpl
  obtain ⟨l6, hl6⟩ : ∃ l6, insG t.wait p g = l6:=⟨_, rfl⟩
  have HL6:=Lib.hid hl6
  rw [hl6] at HAe
  clear hl6 hpl
  go_cut [] (fun wz=>∃ (a6 : Option Addr) (c6 : Nat) (R7 : List Rng), GrRd (.slice a6 l6.length c6) l6 R7 ∧ (∀ r ∈ R7, w.heap.size ≤ r.1) ∧ Hp w [.ob (w.heap.size) 25 (tbCells (.slice a t.held.length cap) (.slice a6 l6.length c6)), .ob b3 29 (grCells g), .ob b4 25 (tbCells (.slice none 0 0) (.slice none 0 0)), .rd R, .rd R7] wz)
  case first =>
   refine wp_region_held_drew (S:=fun w'=>w'.rangeAt b3 0 (grCells g)) (by kernel_rfl) ((fun j v hv=>by rw [Nat.zero_add];exact ((HS272.out).drew).at 1 rfl j hv)) (fun hHeld=>?_)
   refine tk 0 qPk14_11 (some 53) (v:=?q1201v) (Or.inl ⟨by rfl, ?q1201h⟩) hHeld ?q1201r
   case q1201h=>(intro _ h;clear h;go_simp;try with_reducible rfl)
   try simp only [z0, z1, z2, z3]
   refine tk 4 qPk14_12 (some 57) (yieldsIf_load_mid (by rfl) 29 (.tmp 3) rfl b3 (0) rfl (grCells g) _ (fun _ h=>h) HUG.out rfl (info_gr)) hHeld ?_
   try simp only [z0, z1, z2, z3]
   refine tk 6 qPk14_13 (some 59) (yieldsIf_load_mid (by rfl) 29 (.tmp 3) rfl b3 (0) rfl (grCells g) _ (fun _ h=>h) HUG.out rfl (info_gr)) hHeld ?_
   try simp only [z0, z1, z2, z3]
   refine wpAnyH_ready (rs:=[1, 3, 7]) (by kernel_rfl) (by simp) ?_
   refine AllReadyH.cons (o:=qPk14_14) rfl (fun K hK=>?_) (AllReadyH.cons (o:=qPk14_15) rfl (fun K hK=>?_) (AllReadyH.cons (o:=qPk14_16) rfl (fun K hK=>?_) (AllReadyH.nil)))
   ·have q0:=((HS272.out).drew).at 0 rfl 1 rfl
    go_simp
    clear q0
    have HS318 : Hid (Hp w [.ob (w.heap.size) 25 (tbCells (.slice a t.held.length cap) (.slice a2 t.wait.length cap2)), .ob b3 29 (grCells g), .ob b4 25 (tbCells (.slice none 0 0) (.slice none 0 0)), .rd R, .ob B87 29 (grCells wx)] (w272.drew)):=(HS272.out).drew
    refine hK.out _ _ ((fun j v hv=>by rw [Nat.zero_add];exact (HS318.out).at 1 rfl j hv)) (fun hHeld=>?_)
    clear hK K
    generalize w272.drew = w318 at *
    try simp only [z0, z1, z2, z3]
    refine wpAnyH_ready (rs:=[2, 3, 7]) (by kernel_rfl) (by simp) ?_
    refine AllReadyH.cons (o:=qPk14_17) rfl (fun K hK=>?_) (AllReadyH.cons (o:=qPk14_15) rfl (fun K hK=>?_) (AllReadyH.cons (o:=qPk14_16) rfl (fun K hK=>?_) (AllReadyH.nil)))
    ·go_simp
     go_wp2_with (go_at_call 47;refine (HCl.out _ (HS318.out).old).mono ?_;rintro e w319 ⟨u0, rfl, hb, ho⟩)
     have HS319:=Lib.hid ((HS318.out).addown hb ho)
     refine hK.out _ _ ((fun j v hv=>by rw [Nat.zero_add];exact (HS319.out).at 1 rfl j hv)) (fun hHeld=>?_)
     clear hK K hb ho
     try simp only [z0, z1, z2, z3]
     refine wpAnyH_ready (rs:=[3, 7]) (by kernel_rfl) (by simp) ?_
     refine AllReadyH.cons (o:=qPk14_15) rfl (fun K hK=>?_) (AllReadyH.cons (o:=qPk14_16) rfl (fun K hK=>?_) (AllReadyH.nil))
     ·rw [if_pos (by rfl)]
      refine wp_load_whole 25 (.tmp 2) (w.heap.size) (tbCells (.slice a t.held.length cap) (.slice a2 t.wait.length cap2)) 25 HUT.out rfl rfl ((HS319.out).get 0 rfl) rfl (info_tb) ?_
      have HS320:=HS319
      refine hK.out _ _ ((fun j v hv=>by rw [Nat.zero_add];exact (HS320.out).at 1 rfl j hv)) (fun hHeld=>?_)
      clear hK K
      try simp only [z0, z1, z2, z3]
      refine wpAnyH_ready (rs:=[5, 7]) (by kernel_rfl) (by simp) ?_
      refine AllReadyH.cons (o:=qPk14_18) rfl (fun K hK=>?_) (AllReadyH.cons (o:=qPk14_16) rfl (fun K hK=>?_) (AllReadyH.nil))
      ·go_simp
       go_wp2_with (go_at_call 48;refine (HTu1.out _ (HS320.out).old).mono ?_;rintro e w320 ⟨rfl, hb⟩)
       have HS321:=Lib.hid ((HS320.out).calls hb)
       refine hK.out _ _ ((fun j v hv=>by rw [Nat.zero_add];exact (HS321.out).at 1 rfl j hv)) (fun hHeld=>?_)
       clear hK K hb
       try simp only [z0, z1, z2, z3]
       refine tn 7 qPk14_16 (fun K hK=>?_)
       rw [if_pos (by rfl)]
       refine wp_build_obs rfl elem_gr HUX.out [grCells g] (List.forall_mem_cons.2 ⟨rfl, (fun _ h=>absurd h List.not_mem_nil)⟩) (Nat.succ_pos _) (by simp only [List.length_cons, List.length_nil];omega) rfl (by simp only [List.map_toArray, List.map_cons, List.map_nil, List.zipIdx_cons, List.zipIdx_nil];exact rfl) ?_
       have HS322 : Hid (Hp w [.ob (w.heap.size) 25 (tbCells (.slice a t.held.length cap) (.slice a2 t.wait.length cap2)), .ob b3 29 (grCells g), .ob b4 25 (tbCells (.slice none 0 0) (.slice none 0 0)), .rd R, .ob B87 29 (grCells wx), .sl u0 29 4 (t.wait.length) (grRow t.wait), .ob (w320.heap.size) 29 (([grCells g] : List (List Value)).flatMap id)] (w320.alloc (.cells (([grCells g] : List (List Value)).flatMap id).toArray 29))):=(HS321.out).put 29 (([grCells g] : List (List Value)).flatMap id)
       refine hK.out _ _ ((fun j v hv=>by rw [Nat.zero_add];exact (HS322.out).at 1 rfl j hv)) (fun hHeld=>?_)
       clear hK K
       generalize (w320.alloc (.cells (([grCells g] : List (List Value)).flatMap id).toArray 29)) = w321 at *
       generalize w320.heap.size = B318 at *
       try simp only [z0, z1, z2, z3]
       refine tn 8 qPk14_19 (fun K hK=>?_)
       go_simp
       go_wp2_with (go_at_call 46;refine (insert_own t.wait g p u0 w.heap.size B318 _ HPl.out ((HS322.out).own 5 rfl) ((HS322.out).get 6 rfl) (fun e=>(HS322.out).ne 5 6 rfl rfl (by decide) e rfl rfl) (HS322.out).old.size (by have:=HLn.out;omega)).mono ?_;rintro e w322 ⟨u6, rfl, ho6, hg6, hub6⟩)
       rw [HL6.out] at ho6
       have HS323 : Hid (Hp w [.ob (w.heap.size) 25 (tbCells (.slice a t.held.length cap) (.slice a2 t.wait.length cap2)), .ob b3 29 (grCells g), .ob b4 25 (tbCells (.slice none 0 0) (.slice none 0 0)), .rd R, .ob B87 29 (grCells wx), .sl u6 29 4 (l6.length) (grRow l6), .ob B318 29 (([grCells g] : List (List Value)).flatMap id)] w322):=(HS322.out).grown2 5 rfl ho6 hg6 (fun b hb=>hub6.elim (fun h=>.inl (h ▸ hb)) (fun h=>.inr (by rw [h] at hb;exact Nat.le_of_eq (Option.some.inj hb))))
       refine hK.out _ _ ((fun j v hv=>by rw [Nat.zero_add];exact (HS323.out).at 1 rfl j hv)) (fun hHeld=>?_)
       clear hK K ho6 hg6 hub6
       try simp only [z0, z1, z2, z3]
       refine tk 9 qPk14_20 (some 62) (v:=?q1204v) (Or.inl ⟨by rfl, ?q1204h⟩) hHeld ?q1204r
       case q1204h=>(intro _ h;clear h;go_simp;try with_reducible rfl)
       try simp only [z0, z1, z2, z3]
       refine tn 10 qPk14_21 (fun K hK=>?_)
       rw [if_pos (by rfl)]
       obtain ⟨a6, c6, rfl⟩:=own_slice ((HS323.out).own 5 rfl)
       have q5:=(HS323.out).at 0 rfl 1 rfl
       have f5:=(HS323.out).frozen 0 rfl 1
       go_simp
       clear q5 f5
       have HS324 : Hid (Hp w [.ob (w.heap.size) 25 (tbCells (.slice a t.held.length cap) (.slice a6 l6.length c6)), .ob b3 29 (grCells g), .ob b4 25 (tbCells (.slice none 0 0) (.slice none 0 0)), .rd R, .ob B87 29 (grCells wx), .sl ((.slice a6 l6.length c6)) 29 4 (l6.length) (grRow l6), .ob B318 29 (([grCells g] : List (List Value)).flatMap id)] (w322.setCell ⟨w.heap.size, 1, none⟩ (.slice a6 l6.length c6))):=(HS323.out).set 0 rfl 1 (.slice a6 l6.length c6)
       refine hK.out _ _ ((fun j v hv=>by rw [Nat.zero_add];exact (HS324.out).at 1 rfl j hv)) (fun hHeld=>?_)
       clear hK K
       generalize (w322.setCell ⟨w.heap.size, 1, none⟩ (.slice a6 l6.length c6)) = w323 at *
       try simp only [z0, z1, z2, z3]
       refine wpAnyH_done (by kernel_rfl) ?_ _
       clear hHeld
       have HS325 : Hid (Hp w [.ob (w.heap.size) 25 (tbCells (.slice a t.held.length cap) (.slice a6 l6.length c6)), .ob b3 29 (grCells g), .ob b4 25 (tbCells (.slice none 0 0) (.slice none 0 0)), .rd R, .sl ((.slice a6 l6.length c6)) 29 4 (l6.length) (grRow l6)] w323):=HS324.out.pull [0, 1, 2, 3, 5] rfl (pull_nd HS324.out.nd [0, 1, 2, 3, 5] rfl (by decide))
       clear HS324
       obtain ⟨R7, h7, hn7, hs7⟩:=Hp.ownrd2 (A:=[.ob (w.heap.size) 25 (tbCells (.slice a t.held.length cap) (.slice a6 l6.length c6)), .ob b3 29 (grCells g), .ob b4 25 (tbCells (.slice none 0 0) (.slice none 0 0)), .rd R]) HS325.out
       go_wp2_with fail
       go_meet
       exact ⟨a6, c6, R7, h7, hn7, hs7⟩
      ·rw [if_pos (by rfl)]
       refine wp_build_obs rfl elem_gr HUX.out [grCells g] (List.forall_mem_cons.2 ⟨rfl, (fun _ h=>absurd h List.not_mem_nil)⟩) (Nat.succ_pos _) (by simp only [List.length_cons, List.length_nil];omega) rfl (by simp only [List.map_toArray, List.map_cons, List.map_nil, List.zipIdx_cons, List.zipIdx_nil];exact rfl) ?_
       have HS321 : Hid (Hp w [.ob (w.heap.size) 25 (tbCells (.slice a t.held.length cap) (.slice a2 t.wait.length cap2)), .ob b3 29 (grCells g), .ob b4 25 (tbCells (.slice none 0 0) (.slice none 0 0)), .rd R, .ob B87 29 (grCells wx), .sl u0 29 4 (t.wait.length) (grRow t.wait), .ob (w319.heap.size) 29 (([grCells g] : List (List Value)).flatMap id)] (w319.alloc (.cells (([grCells g] : List (List Value)).flatMap id).toArray 29))):=(HS320.out).put 29 (([grCells g] : List (List Value)).flatMap id)
       refine hK.out _ _ ((fun j v hv=>by rw [Nat.zero_add];exact (HS321.out).at 1 rfl j hv)) (fun hHeld=>?_)
       clear hK K
       generalize (w319.alloc (.cells (([grCells g] : List (List Value)).flatMap id).toArray 29)) = w320 at *
       generalize w319.heap.size = B318 at *
       try simp only [z0, z1, z2, z3]
       refine tn 5 qPk14_18 (fun K hK=>?_)
       go_simp
       go_wp2_with (go_at_call 48;refine (HTu1.out _ (HS321.out).old).mono ?_;rintro e w321 ⟨rfl, hb⟩)
       have HS322:=Lib.hid ((HS321.out).calls hb)
       refine hK.out _ _ ((fun j v hv=>by rw [Nat.zero_add];exact (HS322.out).at 1 rfl j hv)) (fun hHeld=>?_)
       clear hK K hb
       try simp only [z0, z1, z2, z3]
       refine tn 8 qPk14_19 (fun K hK=>?_)
       go_simp
       go_wp2_with (go_at_call 46;refine (insert_own t.wait g p u0 w.heap.size B318 _ HPl.out ((HS322.out).own 5 rfl) ((HS322.out).get 6 rfl) (fun e=>(HS322.out).ne 5 6 rfl rfl (by decide) e rfl rfl) (HS322.out).old.size (by have:=HLn.out;omega)).mono ?_;rintro e w322 ⟨u6, rfl, ho6, hg6, hub6⟩)
       rw [HL6.out] at ho6
       have HS323 : Hid (Hp w [.ob (w.heap.size) 25 (tbCells (.slice a t.held.length cap) (.slice a2 t.wait.length cap2)), .ob b3 29 (grCells g), .ob b4 25 (tbCells (.slice none 0 0) (.slice none 0 0)), .rd R, .ob B87 29 (grCells wx), .sl u6 29 4 (l6.length) (grRow l6), .ob B318 29 (([grCells g] : List (List Value)).flatMap id)] w322):=(HS322.out).grown2 5 rfl ho6 hg6 (fun b hb=>hub6.elim (fun h=>.inl (h ▸ hb)) (fun h=>.inr (by rw [h] at hb;exact Nat.le_of_eq (Option.some.inj hb))))
       refine hK.out _ _ ((fun j v hv=>by rw [Nat.zero_add];exact (HS323.out).at 1 rfl j hv)) (fun hHeld=>?_)
       clear hK K ho6 hg6 hub6
       try simp only [z0, z1, z2, z3]
       refine tk 9 qPk14_20 (some 62) (v:=?q1205v) (Or.inl ⟨by rfl, ?q1205h⟩) hHeld ?q1205r
       case q1205h=>(intro _ h;clear h;go_simp;try with_reducible rfl)
       try simp only [z0, z1, z2, z3]
       refine tn 10 qPk14_21 (fun K hK=>?_)
       rw [if_pos (by rfl)]
       obtain ⟨a6, c6, rfl⟩:=own_slice ((HS323.out).own 5 rfl)
       have q5:=(HS323.out).at 0 rfl 1 rfl
       have f5:=(HS323.out).frozen 0 rfl 1
       go_simp
       clear q5 f5
       have HS324 : Hid (Hp w [.ob (w.heap.size) 25 (tbCells (.slice a t.held.length cap) (.slice a6 l6.length c6)), .ob b3 29 (grCells g), .ob b4 25 (tbCells (.slice none 0 0) (.slice none 0 0)), .rd R, .ob B87 29 (grCells wx), .sl ((.slice a6 l6.length c6)) 29 4 (l6.length) (grRow l6), .ob B318 29 (([grCells g] : List (List Value)).flatMap id)] (w322.setCell ⟨w.heap.size, 1, none⟩ (.slice a6 l6.length c6))):=(HS323.out).set 0 rfl 1 (.slice a6 l6.length c6)
       refine hK.out _ _ ((fun j v hv=>by rw [Nat.zero_add];exact (HS324.out).at 1 rfl j hv)) (fun hHeld=>?_)
       clear hK K
       generalize (w322.setCell ⟨w.heap.size, 1, none⟩ (.slice a6 l6.length c6)) = w323 at *
       try simp only [z0, z1, z2, z3]
       refine wpAnyH_done (by kernel_rfl) ?_ _
       clear hHeld
       have HS325 : Hid (Hp w [.ob (w.heap.size) 25 (tbCells (.slice a t.held.length cap) (.slice a6 l6.length c6)), .ob b3 29 (grCells g), .ob b4 25 (tbCells (.slice none 0 0) (.slice none 0 0)), .rd R, .sl ((.slice a6 l6.length c6)) 29 4 (l6.length) (grRow l6)] w323):=HS324.out.pull [0, 1, 2, 3, 5] rfl (pull_nd HS324.out.nd [0, 1, 2, 3, 5] rfl (by decide))
       clear HS324
       obtain ⟨R7, h7, hn7, hs7⟩:=Hp.ownrd2 (A:=[.ob (w.heap.size) 25 (tbCells (.slice a t.held.length cap) (.slice a6 l6.length c6)), .ob b3 29 (grCells g), .ob b4 25 (tbCells (.slice none 0 0) (.slice none 0 0)), .rd R]) HS325.out
       go_wp2_with fail
       go_meet
       exact ⟨a6, c6, R7, h7, hn7, hs7⟩
     ·rw [if_pos (by rfl)]
      refine wp_build_obs rfl elem_gr HUX.out [grCells g] (List.forall_mem_cons.2 ⟨rfl, (fun _ h=>absurd h List.not_mem_nil)⟩) (Nat.succ_pos _) (by simp only [List.length_cons, List.length_nil];omega) rfl (by simp only [List.map_toArray, List.map_cons, List.map_nil, List.zipIdx_cons, List.zipIdx_nil];exact rfl) ?_
      have HS320 : Hid (Hp w [.ob (w.heap.size) 25 (tbCells (.slice a t.held.length cap) (.slice a2 t.wait.length cap2)), .ob b3 29 (grCells g), .ob b4 25 (tbCells (.slice none 0 0) (.slice none 0 0)), .rd R, .ob B87 29 (grCells wx), .sl u0 29 4 (t.wait.length) (grRow t.wait), .ob (w319.heap.size) 29 (([grCells g] : List (List Value)).flatMap id)] (w319.alloc (.cells (([grCells g] : List (List Value)).flatMap id).toArray 29))):=(HS319.out).put 29 (([grCells g] : List (List Value)).flatMap id)
      refine hK.out _ _ ((fun j v hv=>by rw [Nat.zero_add];exact (HS320.out).at 1 rfl j hv)) (fun hHeld=>?_)
      clear hK K
      generalize (w319.alloc (.cells (([grCells g] : List (List Value)).flatMap id).toArray 29)) = w320 at *
      generalize w319.heap.size = B318 at *
      try simp only [z0, z1, z2, z3]
      refine tn 3 qPk14_15 (fun K hK=>?_)
      rw [if_pos (by rfl)]
      refine wp_load_whole 25 (.tmp 2) (w.heap.size) (tbCells (.slice a t.held.length cap) (.slice a2 t.wait.length cap2)) 25 HUT.out rfl rfl ((HS320.out).get 0 rfl) rfl (info_tb) ?_
      have HS321:=HS320
      refine hK.out _ _ ((fun j v hv=>by rw [Nat.zero_add];exact (HS321.out).at 1 rfl j hv)) (fun hHeld=>?_)
      clear hK K
      try simp only [z0, z1, z2, z3]
      refine tn 5 qPk14_18 (fun K hK=>?_)
      go_simp
      go_wp2_with (go_at_call 48;refine (HTu1.out _ (HS321.out).old).mono ?_;rintro e w321 ⟨rfl, hb⟩)
      have HS322:=Lib.hid ((HS321.out).calls hb)
      refine hK.out _ _ ((fun j v hv=>by rw [Nat.zero_add];exact (HS322.out).at 1 rfl j hv)) (fun hHeld=>?_)
      clear hK K hb
      try simp only [z0, z1, z2, z3]
      refine tn 8 qPk14_19 (fun K hK=>?_)
      go_simp
      go_wp2_with (go_at_call 46;refine (insert_own t.wait g p u0 w.heap.size B318 _ HPl.out ((HS322.out).own 5 rfl) ((HS322.out).get 6 rfl) (fun e=>(HS322.out).ne 5 6 rfl rfl (by decide) e rfl rfl) (HS322.out).old.size (by have:=HLn.out;omega)).mono ?_;rintro e w322 ⟨u6, rfl, ho6, hg6, hub6⟩)
      rw [HL6.out] at ho6
      have HS323 : Hid (Hp w [.ob (w.heap.size) 25 (tbCells (.slice a t.held.length cap) (.slice a2 t.wait.length cap2)), .ob b3 29 (grCells g), .ob b4 25 (tbCells (.slice none 0 0) (.slice none 0 0)), .rd R, .ob B87 29 (grCells wx), .sl u6 29 4 (l6.length) (grRow l6), .ob B318 29 (([grCells g] : List (List Value)).flatMap id)] w322):=(HS322.out).grown2 5 rfl ho6 hg6 (fun b hb=>hub6.elim (fun h=>.inl (h ▸ hb)) (fun h=>.inr (by rw [h] at hb;exact Nat.le_of_eq (Option.some.inj hb))))
      refine hK.out _ _ ((fun j v hv=>by rw [Nat.zero_add];exact (HS323.out).at 1 rfl j hv)) (fun hHeld=>?_)
      clear hK K ho6 hg6 hub6
      try simp only [z0, z1, z2, z3]
      refine tk 9 qPk14_20 (some 62) (v:=?q1206v) (Or.inl ⟨by rfl, ?q1206h⟩) hHeld ?q1206r
      case q1206h=>(intro _ h;clear h;go_simp;try with_reducible rfl)
      try simp only [z0, z1, z2, z3]
      refine tn 10 qPk14_21 (fun K hK=>?_)
      rw [if_pos (by rfl)]
      obtain ⟨a6, c6, rfl⟩:=own_slice ((HS323.out).own 5 rfl)
      have q5:=(HS323.out).at 0 rfl 1 rfl
      have f5:=(HS323.out).frozen 0 rfl 1
      go_simp
      clear q5 f5
      have HS324 : Hid (Hp w [.ob (w.heap.size) 25 (tbCells (.slice a t.held.length cap) (.slice a6 l6.length c6)), .ob b3 29 (grCells g), .ob b4 25 (tbCells (.slice none 0 0) (.slice none 0 0)), .rd R, .ob B87 29 (grCells wx), .sl ((.slice a6 l6.length c6)) 29 4 (l6.length) (grRow l6), .ob B318 29 (([grCells g] : List (List Value)).flatMap id)] (w322.setCell ⟨w.heap.size, 1, none⟩ (.slice a6 l6.length c6))):=(HS323.out).set 0 rfl 1 (.slice a6 l6.length c6)
      refine hK.out _ _ ((fun j v hv=>by rw [Nat.zero_add];exact (HS324.out).at 1 rfl j hv)) (fun hHeld=>?_)
      clear hK K
      generalize (w322.setCell ⟨w.heap.size, 1, none⟩ (.slice a6 l6.length c6)) = w323 at *
      try simp only [z0, z1, z2, z3]
      refine wpAnyH_done (by kernel_rfl) ?_ _
      clear hHeld
      have HS325 : Hid (Hp w [.ob (w.heap.size) 25 (tbCells (.slice a t.held.length cap) (.slice a6 l6.length c6)), .ob b3 29 (grCells g), .ob b4 25 (tbCells (.slice none 0 0) (.slice none 0 0)), .rd R, .sl ((.slice a6 l6.length c6)) 29 4 (l6.length) (grRow l6)] w323):=HS324.out.pull [0, 1, 2, 3, 5] rfl (pull_nd HS324.out.nd [0, 1, 2, 3, 5] rfl (by decide))
      clear HS324
      obtain ⟨R7, h7, hn7, hs7⟩:=Hp.ownrd2 (A:=[.ob (w.heap.size) 25 (tbCells (.slice a t.held.length cap) (.slice a6 l6.length c6)), .ob b3 29 (grCells g), .ob b4 25 (tbCells (.slice none 0 0) (.slice none 0 0)), .rd R]) HS325.out
      go_wp2_with fail
      go_meet
      exact ⟨a6, c6, R7, h7, hn7, hs7⟩
    ·rw [if_pos (by rfl)]
     refine wp_load_whole 25 (.tmp 2) (w.heap.size) (tbCells (.slice a t.held.length cap) (.slice a2 t.wait.length cap2)) 25 HUT.out rfl rfl ((HS318.out).get 0 rfl) rfl (info_tb) ?_
     have HS319:=HS318
     refine hK.out _ _ ((fun j v hv=>by rw [Nat.zero_add];exact (HS319.out).at 1 rfl j hv)) (fun hHeld=>?_)
     clear hK K
     try simp only [z0, z1, z2, z3]
     refine wpAnyH_ready (rs:=[2, 7]) (by kernel_rfl) (by simp) ?_
     refine AllReadyH.cons (o:=qPk14_17) rfl (fun K hK=>?_) (AllReadyH.cons (o:=qPk14_16) rfl (fun K hK=>?_) (AllReadyH.nil))
     ·go_simp
      go_wp2_with (go_at_call 47;refine (HCl.out _ (HS319.out).old).mono ?_;rintro e w319 ⟨u0, rfl, hb, ho⟩)
      have HS320:=Lib.hid ((HS319.out).addown hb ho)
      refine hK.out _ _ ((fun j v hv=>by rw [Nat.zero_add];exact (HS320.out).at 1 rfl j hv)) (fun hHeld=>?_)
      clear hK K hb ho
      try simp only [z0, z1, z2, z3]
      refine wpAnyH_ready (rs:=[5, 7]) (by kernel_rfl) (by simp) ?_
      refine AllReadyH.cons (o:=qPk14_18) rfl (fun K hK=>?_) (AllReadyH.cons (o:=qPk14_16) rfl (fun K hK=>?_) (AllReadyH.nil))
      ·go_simp
       go_wp2_with (go_at_call 48;refine (HTu1.out _ (HS320.out).old).mono ?_;rintro e w320 ⟨rfl, hb⟩)
       have HS321:=Lib.hid ((HS320.out).calls hb)
       refine hK.out _ _ ((fun j v hv=>by rw [Nat.zero_add];exact (HS321.out).at 1 rfl j hv)) (fun hHeld=>?_)
       clear hK K hb
       try simp only [z0, z1, z2, z3]
       refine tn 7 qPk14_16 (fun K hK=>?_)
       rw [if_pos (by rfl)]
       refine wp_build_obs rfl elem_gr HUX.out [grCells g] (List.forall_mem_cons.2 ⟨rfl, (fun _ h=>absurd h List.not_mem_nil)⟩) (Nat.succ_pos _) (by simp only [List.length_cons, List.length_nil];omega) rfl (by simp only [List.map_toArray, List.map_cons, List.map_nil, List.zipIdx_cons, List.zipIdx_nil];exact rfl) ?_
       have HS322 : Hid (Hp w [.ob (w.heap.size) 25 (tbCells (.slice a t.held.length cap) (.slice a2 t.wait.length cap2)), .ob b3 29 (grCells g), .ob b4 25 (tbCells (.slice none 0 0) (.slice none 0 0)), .rd R, .ob B87 29 (grCells wx), .sl u0 29 4 (t.wait.length) (grRow t.wait), .ob (w320.heap.size) 29 (([grCells g] : List (List Value)).flatMap id)] (w320.alloc (.cells (([grCells g] : List (List Value)).flatMap id).toArray 29))):=(HS321.out).put 29 (([grCells g] : List (List Value)).flatMap id)
       refine hK.out _ _ ((fun j v hv=>by rw [Nat.zero_add];exact (HS322.out).at 1 rfl j hv)) (fun hHeld=>?_)
       clear hK K
       generalize (w320.alloc (.cells (([grCells g] : List (List Value)).flatMap id).toArray 29)) = w321 at *
       generalize w320.heap.size = B318 at *
       try simp only [z0, z1, z2, z3]
       refine tn 8 qPk14_19 (fun K hK=>?_)
       go_simp
       go_wp2_with (go_at_call 46;refine (insert_own t.wait g p u0 w.heap.size B318 _ HPl.out ((HS322.out).own 5 rfl) ((HS322.out).get 6 rfl) (fun e=>(HS322.out).ne 5 6 rfl rfl (by decide) e rfl rfl) (HS322.out).old.size (by have:=HLn.out;omega)).mono ?_;rintro e w322 ⟨u6, rfl, ho6, hg6, hub6⟩)
       rw [HL6.out] at ho6
       have HS323 : Hid (Hp w [.ob (w.heap.size) 25 (tbCells (.slice a t.held.length cap) (.slice a2 t.wait.length cap2)), .ob b3 29 (grCells g), .ob b4 25 (tbCells (.slice none 0 0) (.slice none 0 0)), .rd R, .ob B87 29 (grCells wx), .sl u6 29 4 (l6.length) (grRow l6), .ob B318 29 (([grCells g] : List (List Value)).flatMap id)] w322):=(HS322.out).grown2 5 rfl ho6 hg6 (fun b hb=>hub6.elim (fun h=>.inl (h ▸ hb)) (fun h=>.inr (by rw [h] at hb;exact Nat.le_of_eq (Option.some.inj hb))))
       refine hK.out _ _ ((fun j v hv=>by rw [Nat.zero_add];exact (HS323.out).at 1 rfl j hv)) (fun hHeld=>?_)
       clear hK K ho6 hg6 hub6
       try simp only [z0, z1, z2, z3]
       refine tk 9 qPk14_20 (some 62) (v:=?q1207v) (Or.inl ⟨by rfl, ?q1207h⟩) hHeld ?q1207r
       case q1207h=>(intro _ h;clear h;go_simp;try with_reducible rfl)
       try simp only [z0, z1, z2, z3]
       refine tn 10 qPk14_21 (fun K hK=>?_)
       rw [if_pos (by rfl)]
       obtain ⟨a6, c6, rfl⟩:=own_slice ((HS323.out).own 5 rfl)
       have q5:=(HS323.out).at 0 rfl 1 rfl
       have f5:=(HS323.out).frozen 0 rfl 1
       go_simp
       clear q5 f5
       have HS324 : Hid (Hp w [.ob (w.heap.size) 25 (tbCells (.slice a t.held.length cap) (.slice a6 l6.length c6)), .ob b3 29 (grCells g), .ob b4 25 (tbCells (.slice none 0 0) (.slice none 0 0)), .rd R, .ob B87 29 (grCells wx), .sl ((.slice a6 l6.length c6)) 29 4 (l6.length) (grRow l6), .ob B318 29 (([grCells g] : List (List Value)).flatMap id)] (w322.setCell ⟨w.heap.size, 1, none⟩ (.slice a6 l6.length c6))):=(HS323.out).set 0 rfl 1 (.slice a6 l6.length c6)
       refine hK.out _ _ ((fun j v hv=>by rw [Nat.zero_add];exact (HS324.out).at 1 rfl j hv)) (fun hHeld=>?_)
       clear hK K
       generalize (w322.setCell ⟨w.heap.size, 1, none⟩ (.slice a6 l6.length c6)) = w323 at *
       try simp only [z0, z1, z2, z3]
       refine wpAnyH_done (by kernel_rfl) ?_ _
       clear hHeld
       have HS325 : Hid (Hp w [.ob (w.heap.size) 25 (tbCells (.slice a t.held.length cap) (.slice a6 l6.length c6)), .ob b3 29 (grCells g), .ob b4 25 (tbCells (.slice none 0 0) (.slice none 0 0)), .rd R, .sl ((.slice a6 l6.length c6)) 29 4 (l6.length) (grRow l6)] w323):=HS324.out.pull [0, 1, 2, 3, 5] rfl (pull_nd HS324.out.nd [0, 1, 2, 3, 5] rfl (by decide))
       clear HS324
       obtain ⟨R7, h7, hn7, hs7⟩:=Hp.ownrd2 (A:=[.ob (w.heap.size) 25 (tbCells (.slice a t.held.length cap) (.slice a6 l6.length c6)), .ob b3 29 (grCells g), .ob b4 25 (tbCells (.slice none 0 0) (.slice none 0 0)), .rd R]) HS325.out
       go_wp2_with fail
       go_meet
       exact ⟨a6, c6, R7, h7, hn7, hs7⟩
      ·rw [if_pos (by rfl)]
       refine wp_build_obs rfl elem_gr HUX.out [grCells g] (List.forall_mem_cons.2 ⟨rfl, (fun _ h=>absurd h List.not_mem_nil)⟩) (Nat.succ_pos _) (by simp only [List.length_cons, List.length_nil];omega) rfl (by simp only [List.map_toArray, List.map_cons, List.map_nil, List.zipIdx_cons, List.zipIdx_nil];exact rfl) ?_
       have HS321 : Hid (Hp w [.ob (w.heap.size) 25 (tbCells (.slice a t.held.length cap) (.slice a2 t.wait.length cap2)), .ob b3 29 (grCells g), .ob b4 25 (tbCells (.slice none 0 0) (.slice none 0 0)), .rd R, .ob B87 29 (grCells wx), .sl u0 29 4 (t.wait.length) (grRow t.wait), .ob (w319.heap.size) 29 (([grCells g] : List (List Value)).flatMap id)] (w319.alloc (.cells (([grCells g] : List (List Value)).flatMap id).toArray 29))):=(HS320.out).put 29 (([grCells g] : List (List Value)).flatMap id)
       refine hK.out _ _ ((fun j v hv=>by rw [Nat.zero_add];exact (HS321.out).at 1 rfl j hv)) (fun hHeld=>?_)
       clear hK K
       generalize (w319.alloc (.cells (([grCells g] : List (List Value)).flatMap id).toArray 29)) = w320 at *
       generalize w319.heap.size = B318 at *
       try simp only [z0, z1, z2, z3]
       refine tn 5 qPk14_18 (fun K hK=>?_)
       go_simp
       go_wp2_with (go_at_call 48;refine (HTu1.out _ (HS321.out).old).mono ?_;rintro e w321 ⟨rfl, hb⟩)
       have HS322:=Lib.hid ((HS321.out).calls hb)
       refine hK.out _ _ ((fun j v hv=>by rw [Nat.zero_add];exact (HS322.out).at 1 rfl j hv)) (fun hHeld=>?_)
       clear hK K hb
       try simp only [z0, z1, z2, z3]
       refine tn 8 qPk14_19 (fun K hK=>?_)
       go_simp
       go_wp2_with (go_at_call 46;refine (insert_own t.wait g p u0 w.heap.size B318 _ HPl.out ((HS322.out).own 5 rfl) ((HS322.out).get 6 rfl) (fun e=>(HS322.out).ne 5 6 rfl rfl (by decide) e rfl rfl) (HS322.out).old.size (by have:=HLn.out;omega)).mono ?_;rintro e w322 ⟨u6, rfl, ho6, hg6, hub6⟩)
       rw [HL6.out] at ho6
       have HS323 : Hid (Hp w [.ob (w.heap.size) 25 (tbCells (.slice a t.held.length cap) (.slice a2 t.wait.length cap2)), .ob b3 29 (grCells g), .ob b4 25 (tbCells (.slice none 0 0) (.slice none 0 0)), .rd R, .ob B87 29 (grCells wx), .sl u6 29 4 (l6.length) (grRow l6), .ob B318 29 (([grCells g] : List (List Value)).flatMap id)] w322):=(HS322.out).grown2 5 rfl ho6 hg6 (fun b hb=>hub6.elim (fun h=>.inl (h ▸ hb)) (fun h=>.inr (by rw [h] at hb;exact Nat.le_of_eq (Option.some.inj hb))))
       refine hK.out _ _ ((fun j v hv=>by rw [Nat.zero_add];exact (HS323.out).at 1 rfl j hv)) (fun hHeld=>?_)
       clear hK K ho6 hg6 hub6
       try simp only [z0, z1, z2, z3]
       refine tk 9 qPk14_20 (some 62) (v:=?q1208v) (Or.inl ⟨by rfl, ?q1208h⟩) hHeld ?q1208r
       case q1208h=>(intro _ h;clear h;go_simp;try with_reducible rfl)
       try simp only [z0, z1, z2, z3]
       refine tn 10 qPk14_21 (fun K hK=>?_)
       rw [if_pos (by rfl)]
       obtain ⟨a6, c6, rfl⟩:=own_slice ((HS323.out).own 5 rfl)
       have q5:=(HS323.out).at 0 rfl 1 rfl
       have f5:=(HS323.out).frozen 0 rfl 1
       go_simp
       clear q5 f5
       have HS324 : Hid (Hp w [.ob (w.heap.size) 25 (tbCells (.slice a t.held.length cap) (.slice a6 l6.length c6)), .ob b3 29 (grCells g), .ob b4 25 (tbCells (.slice none 0 0) (.slice none 0 0)), .rd R, .ob B87 29 (grCells wx), .sl ((.slice a6 l6.length c6)) 29 4 (l6.length) (grRow l6), .ob B318 29 (([grCells g] : List (List Value)).flatMap id)] (w322.setCell ⟨w.heap.size, 1, none⟩ (.slice a6 l6.length c6))):=(HS323.out).set 0 rfl 1 (.slice a6 l6.length c6)
       refine hK.out _ _ ((fun j v hv=>by rw [Nat.zero_add];exact (HS324.out).at 1 rfl j hv)) (fun hHeld=>?_)
       clear hK K
       generalize (w322.setCell ⟨w.heap.size, 1, none⟩ (.slice a6 l6.length c6)) = w323 at *
       try simp only [z0, z1, z2, z3]
       refine wpAnyH_done (by kernel_rfl) ?_ _
       clear hHeld
       have HS325 : Hid (Hp w [.ob (w.heap.size) 25 (tbCells (.slice a t.held.length cap) (.slice a6 l6.length c6)), .ob b3 29 (grCells g), .ob b4 25 (tbCells (.slice none 0 0) (.slice none 0 0)), .rd R, .sl ((.slice a6 l6.length c6)) 29 4 (l6.length) (grRow l6)] w323):=HS324.out.pull [0, 1, 2, 3, 5] rfl (pull_nd HS324.out.nd [0, 1, 2, 3, 5] rfl (by decide))
       clear HS324
       obtain ⟨R7, h7, hn7, hs7⟩:=Hp.ownrd2 (A:=[.ob (w.heap.size) 25 (tbCells (.slice a t.held.length cap) (.slice a6 l6.length c6)), .ob b3 29 (grCells g), .ob b4 25 (tbCells (.slice none 0 0) (.slice none 0 0)), .rd R]) HS325.out
       go_wp2_with fail
       go_meet
       exact ⟨a6, c6, R7, h7, hn7, hs7⟩
     ·rw [if_pos (by rfl)]
      refine wp_build_obs rfl elem_gr HUX.out [grCells g] (List.forall_mem_cons.2 ⟨rfl, (fun _ h=>absurd h List.not_mem_nil)⟩) (Nat.succ_pos _) (by simp only [List.length_cons, List.length_nil];omega) rfl (by simp only [List.map_toArray, List.map_cons, List.map_nil, List.zipIdx_cons, List.zipIdx_nil];exact rfl) ?_
      have HS320 : Hid (Hp w [.ob (w.heap.size) 25 (tbCells (.slice a t.held.length cap) (.slice a2 t.wait.length cap2)), .ob b3 29 (grCells g), .ob b4 25 (tbCells (.slice none 0 0) (.slice none 0 0)), .rd R, .ob B87 29 (grCells wx), .ob (w318.heap.size) 29 (([grCells g] : List (List Value)).flatMap id)] (w318.alloc (.cells (([grCells g] : List (List Value)).flatMap id).toArray 29))):=(HS319.out).put 29 (([grCells g] : List (List Value)).flatMap id)
      refine hK.out _ _ ((fun j v hv=>by rw [Nat.zero_add];exact (HS320.out).at 1 rfl j hv)) (fun hHeld=>?_)
      clear hK K
      generalize (w318.alloc (.cells (([grCells g] : List (List Value)).flatMap id).toArray 29)) = w319 at *
      generalize w318.heap.size = B318 at *
      try simp only [z0, z1, z2, z3]
      refine tn 2 qPk14_17 (fun K hK=>?_)
      go_simp
      go_wp2_with (go_at_call 47;refine (HCl.out _ (HS320.out).old).mono ?_;rintro e w320 ⟨u0, rfl, hb, ho⟩)
      have HS321:=Lib.hid ((HS320.out).addown hb ho)
      refine hK.out _ _ ((fun j v hv=>by rw [Nat.zero_add];exact (HS321.out).at 1 rfl j hv)) (fun hHeld=>?_)
      clear hK K hb ho
      try simp only [z0, z1, z2, z3]
      refine tn 5 qPk14_18 (fun K hK=>?_)
      go_simp
      go_wp2_with (go_at_call 48;refine (HTu1.out _ (HS321.out).old).mono ?_;rintro e w321 ⟨rfl, hb⟩)
      have HS322:=Lib.hid ((HS321.out).calls hb)
      refine hK.out _ _ ((fun j v hv=>by rw [Nat.zero_add];exact (HS322.out).at 1 rfl j hv)) (fun hHeld=>?_)
      clear hK K hb
      try simp only [z0, z1, z2, z3]
      refine tn 8 qPk14_19 (fun K hK=>?_)
      go_simp
      go_wp2_with (go_at_call 46;refine (insert_own t.wait g p u0 w.heap.size B318 _ HPl.out ((HS322.out).own 6 rfl) ((HS322.out).get 5 rfl) (fun e=>(HS322.out).ne 6 5 rfl rfl (by decide) e rfl rfl) (HS322.out).old.size (by have:=HLn.out;omega)).mono ?_;rintro e w322 ⟨u6, rfl, ho6, hg6, hub6⟩)
      rw [HL6.out] at ho6
      have HS323 : Hid (Hp w [.ob (w.heap.size) 25 (tbCells (.slice a t.held.length cap) (.slice a2 t.wait.length cap2)), .ob b3 29 (grCells g), .ob b4 25 (tbCells (.slice none 0 0) (.slice none 0 0)), .rd R, .ob B87 29 (grCells wx), .ob B318 29 (([grCells g] : List (List Value)).flatMap id), .sl u6 29 4 (l6.length) (grRow l6)] w322):=(HS322.out).grown2 6 rfl ho6 hg6 (fun b hb=>hub6.elim (fun h=>.inl (h ▸ hb)) (fun h=>.inr (by rw [h] at hb;exact Nat.le_of_eq (Option.some.inj hb))))
      refine hK.out _ _ ((fun j v hv=>by rw [Nat.zero_add];exact (HS323.out).at 1 rfl j hv)) (fun hHeld=>?_)
      clear hK K ho6 hg6 hub6
      try simp only [z0, z1, z2, z3]
      refine tk 9 qPk14_20 (some 62) (v:=?q1209v) (Or.inl ⟨by rfl, ?q1209h⟩) hHeld ?q1209r
      case q1209h=>(intro _ h;clear h;go_simp;try with_reducible rfl)
      try simp only [z0, z1, z2, z3]
      refine tn 10 qPk14_21 (fun K hK=>?_)
      rw [if_pos (by rfl)]
      obtain ⟨a6, c6, rfl⟩:=own_slice ((HS323.out).own 6 rfl)
      have q5:=(HS323.out).at 0 rfl 1 rfl
      have f5:=(HS323.out).frozen 0 rfl 1
      go_simp
      clear q5 f5
      have HS324 : Hid (Hp w [.ob (w.heap.size) 25 (tbCells (.slice a t.held.length cap) (.slice a6 l6.length c6)), .ob b3 29 (grCells g), .ob b4 25 (tbCells (.slice none 0 0) (.slice none 0 0)), .rd R, .ob B87 29 (grCells wx), .ob B318 29 (([grCells g] : List (List Value)).flatMap id), .sl ((.slice a6 l6.length c6)) 29 4 (l6.length) (grRow l6)] (w322.setCell ⟨w.heap.size, 1, none⟩ (.slice a6 l6.length c6))):=(HS323.out).set 0 rfl 1 (.slice a6 l6.length c6)
      refine hK.out _ _ ((fun j v hv=>by rw [Nat.zero_add];exact (HS324.out).at 1 rfl j hv)) (fun hHeld=>?_)
      clear hK K
      generalize (w322.setCell ⟨w.heap.size, 1, none⟩ (.slice a6 l6.length c6)) = w323 at *
      try simp only [z0, z1, z2, z3]
      refine wpAnyH_done (by kernel_rfl) ?_ _
      clear hHeld
      have HS325 : Hid (Hp w [.ob (w.heap.size) 25 (tbCells (.slice a t.held.length cap) (.slice a6 l6.length c6)), .ob b3 29 (grCells g), .ob b4 25 (tbCells (.slice none 0 0) (.slice none 0 0)), .rd R, .sl ((.slice a6 l6.length c6)) 29 4 (l6.length) (grRow l6)] w323):=HS324.out.pull [0, 1, 2, 3, 6] rfl (pull_nd HS324.out.nd [0, 1, 2, 3, 6] rfl (by decide))
      clear HS324
      obtain ⟨R7, h7, hn7, hs7⟩:=Hp.ownrd2 (A:=[.ob (w.heap.size) 25 (tbCells (.slice a t.held.length cap) (.slice a6 l6.length c6)), .ob b3 29 (grCells g), .ob b4 25 (tbCells (.slice none 0 0) (.slice none 0 0)), .rd R]) HS325.out
      go_wp2_with fail
      go_meet
      exact ⟨a6, c6, R7, h7, hn7, hs7⟩
    ·rw [if_pos (by rfl)]
     refine wp_build_obs rfl elem_gr HUX.out [grCells g] (List.forall_mem_cons.2 ⟨rfl, (fun _ h=>absurd h List.not_mem_nil)⟩) (Nat.succ_pos _) (by simp only [List.length_cons, List.length_nil];omega) rfl (by simp only [List.map_toArray, List.map_cons, List.map_nil, List.zipIdx_cons, List.zipIdx_nil];exact rfl) ?_
     have HS319 : Hid (Hp w [.ob (w.heap.size) 25 (tbCells (.slice a t.held.length cap) (.slice a2 t.wait.length cap2)), .ob b3 29 (grCells g), .ob b4 25 (tbCells (.slice none 0 0) (.slice none 0 0)), .rd R, .ob B87 29 (grCells wx), .ob (w318.heap.size) 29 (([grCells g] : List (List Value)).flatMap id)] (w318.alloc (.cells (([grCells g] : List (List Value)).flatMap id).toArray 29))):=(HS318.out).put 29 (([grCells g] : List (List Value)).flatMap id)
     refine hK.out _ _ ((fun j v hv=>by rw [Nat.zero_add];exact (HS319.out).at 1 rfl j hv)) (fun hHeld=>?_)
     clear hK K
     generalize (w318.alloc (.cells (([grCells g] : List (List Value)).flatMap id).toArray 29)) = w319 at *
     generalize w318.heap.size = B318 at *
     try simp only [z0, z1, z2, z3]
     refine wpAnyH_ready (rs:=[2, 3]) (by kernel_rfl) (by simp) ?_
     refine AllReadyH.cons (o:=qPk14_17) rfl (fun K hK=>?_) (AllReadyH.cons (o:=qPk14_15) rfl (fun K hK=>?_) (AllReadyH.nil))
     ·go_simp
      go_wp2_with (go_at_call 47;refine (HCl.out _ (HS319.out).old).mono ?_;rintro e w320 ⟨u0, rfl, hb, ho⟩)
      have HS320:=Lib.hid ((HS319.out).addown hb ho)
      refine hK.out _ _ ((fun j v hv=>by rw [Nat.zero_add];exact (HS320.out).at 1 rfl j hv)) (fun hHeld=>?_)
      clear hK K hb ho
      try simp only [z0, z1, z2, z3]
      refine tn 3 qPk14_15 (fun K hK=>?_)
      rw [if_pos (by rfl)]
      refine wp_load_whole 25 (.tmp 2) (w.heap.size) (tbCells (.slice a t.held.length cap) (.slice a2 t.wait.length cap2)) 25 HUT.out rfl rfl ((HS320.out).get 0 rfl) rfl (info_tb) ?_
      have HS321:=HS320
      refine hK.out _ _ ((fun j v hv=>by rw [Nat.zero_add];exact (HS321.out).at 1 rfl j hv)) (fun hHeld=>?_)
      clear hK K
      try simp only [z0, z1, z2, z3]
      refine tn 5 qPk14_18 (fun K hK=>?_)
      go_simp
      go_wp2_with (go_at_call 48;refine (HTu1.out _ (HS321.out).old).mono ?_;rintro e w321 ⟨rfl, hb⟩)
      have HS322:=Lib.hid ((HS321.out).calls hb)
      refine hK.out _ _ ((fun j v hv=>by rw [Nat.zero_add];exact (HS322.out).at 1 rfl j hv)) (fun hHeld=>?_)
      clear hK K hb
      try simp only [z0, z1, z2, z3]
      refine tn 8 qPk14_19 (fun K hK=>?_)
      go_simp
      go_wp2_with (go_at_call 46;refine (insert_own t.wait g p u0 w.heap.size B318 _ HPl.out ((HS322.out).own 6 rfl) ((HS322.out).get 5 rfl) (fun e=>(HS322.out).ne 6 5 rfl rfl (by decide) e rfl rfl) (HS322.out).old.size (by have:=HLn.out;omega)).mono ?_;rintro e w322 ⟨u6, rfl, ho6, hg6, hub6⟩)
      rw [HL6.out] at ho6
      have HS323 : Hid (Hp w [.ob (w.heap.size) 25 (tbCells (.slice a t.held.length cap) (.slice a2 t.wait.length cap2)), .ob b3 29 (grCells g), .ob b4 25 (tbCells (.slice none 0 0) (.slice none 0 0)), .rd R, .ob B87 29 (grCells wx), .ob B318 29 (([grCells g] : List (List Value)).flatMap id), .sl u6 29 4 (l6.length) (grRow l6)] w322):=(HS322.out).grown2 6 rfl ho6 hg6 (fun b hb=>hub6.elim (fun h=>.inl (h ▸ hb)) (fun h=>.inr (by rw [h] at hb;exact Nat.le_of_eq (Option.some.inj hb))))
      refine hK.out _ _ ((fun j v hv=>by rw [Nat.zero_add];exact (HS323.out).at 1 rfl j hv)) (fun hHeld=>?_)
      clear hK K ho6 hg6 hub6
      try simp only [z0, z1, z2, z3]
      refine tk 9 qPk14_20 (some 62) (v:=?q1210v) (Or.inl ⟨by rfl, ?q1210h⟩) hHeld ?q1210r
      case q1210h=>(intro _ h;clear h;go_simp;try with_reducible rfl)
      try simp only [z0, z1, z2, z3]
      refine tn 10 qPk14_21 (fun K hK=>?_)
      rw [if_pos (by rfl)]
      obtain ⟨a6, c6, rfl⟩:=own_slice ((HS323.out).own 6 rfl)
      have q5:=(HS323.out).at 0 rfl 1 rfl
      have f5:=(HS323.out).frozen 0 rfl 1
      go_simp
      clear q5 f5
      have HS324 : Hid (Hp w [.ob (w.heap.size) 25 (tbCells (.slice a t.held.length cap) (.slice a6 l6.length c6)), .ob b3 29 (grCells g), .ob b4 25 (tbCells (.slice none 0 0) (.slice none 0 0)), .rd R, .ob B87 29 (grCells wx), .ob B318 29 (([grCells g] : List (List Value)).flatMap id), .sl ((.slice a6 l6.length c6)) 29 4 (l6.length) (grRow l6)] (w322.setCell ⟨w.heap.size, 1, none⟩ (.slice a6 l6.length c6))):=(HS323.out).set 0 rfl 1 (.slice a6 l6.length c6)
      refine hK.out _ _ ((fun j v hv=>by rw [Nat.zero_add];exact (HS324.out).at 1 rfl j hv)) (fun hHeld=>?_)
      clear hK K
      generalize (w322.setCell ⟨w.heap.size, 1, none⟩ (.slice a6 l6.length c6)) = w323 at *
      try simp only [z0, z1, z2, z3]
      refine wpAnyH_done (by kernel_rfl) ?_ _
      clear hHeld
      have HS325 : Hid (Hp w [.ob (w.heap.size) 25 (tbCells (.slice a t.held.length cap) (.slice a6 l6.length c6)), .ob b3 29 (grCells g), .ob b4 25 (tbCells (.slice none 0 0) (.slice none 0 0)), .rd R, .sl ((.slice a6 l6.length c6)) 29 4 (l6.length) (grRow l6)] w323):=HS324.out.pull [0, 1, 2, 3, 6] rfl (pull_nd HS324.out.nd [0, 1, 2, 3, 6] rfl (by decide))
      clear HS324
      obtain ⟨R7, h7, hn7, hs7⟩:=Hp.ownrd2 (A:=[.ob (w.heap.size) 25 (tbCells (.slice a t.held.length cap) (.slice a6 l6.length c6)), .ob b3 29 (grCells g), .ob b4 25 (tbCells (.slice none 0 0) (.slice none 0 0)), .rd R]) HS325.out
      go_wp2_with fail
      go_meet
      exact ⟨a6, c6, R7, h7, hn7, hs7⟩
     ·rw [if_pos (by rfl)]
      refine wp_load_whole 25 (.tmp 2) (w.heap.size) (tbCells (.slice a t.held.length cap) (.slice a2 t.wait.length cap2)) 25 HUT.out rfl rfl ((HS319.out).get 0 rfl) rfl (info_tb) ?_
      have HS320:=HS319
      refine hK.out _ _ ((fun j v hv=>by rw [Nat.zero_add];exact (HS320.out).at 1 rfl j hv)) (fun hHeld=>?_)
      clear hK K
      try simp only [z0, z1, z2, z3]
      refine tn 2 qPk14_17 (fun K hK=>?_)
      go_simp
      go_wp2_with (go_at_call 47;refine (HCl.out _ (HS320.out).old).mono ?_;rintro e w320 ⟨u0, rfl, hb, ho⟩)
      have HS321:=Lib.hid ((HS320.out).addown hb ho)
      refine hK.out _ _ ((fun j v hv=>by rw [Nat.zero_add];exact (HS321.out).at 1 rfl j hv)) (fun hHeld=>?_)
      clear hK K hb ho
      try simp only [z0, z1, z2, z3]
      refine tn 5 qPk14_18 (fun K hK=>?_)
      go_simp
      go_wp2_with (go_at_call 48;refine (HTu1.out _ (HS321.out).old).mono ?_;rintro e w321 ⟨rfl, hb⟩)
      have HS322:=Lib.hid ((HS321.out).calls hb)
      refine hK.out _ _ ((fun j v hv=>by rw [Nat.zero_add];exact (HS322.out).at 1 rfl j hv)) (fun hHeld=>?_)
      clear hK K hb
      try simp only [z0, z1, z2, z3]
      refine tn 8 qPk14_19 (fun K hK=>?_)
      go_simp
      go_wp2_with (go_at_call 46;refine (insert_own t.wait g p u0 w.heap.size B318 _ HPl.out ((HS322.out).own 6 rfl) ((HS322.out).get 5 rfl) (fun e=>(HS322.out).ne 6 5 rfl rfl (by decide) e rfl rfl) (HS322.out).old.size (by have:=HLn.out;omega)).mono ?_;rintro e w322 ⟨u6, rfl, ho6, hg6, hub6⟩)
      rw [HL6.out] at ho6
      have HS323 : Hid (Hp w [.ob (w.heap.size) 25 (tbCells (.slice a t.held.length cap) (.slice a2 t.wait.length cap2)), .ob b3 29 (grCells g), .ob b4 25 (tbCells (.slice none 0 0) (.slice none 0 0)), .rd R, .ob B87 29 (grCells wx), .ob B318 29 (([grCells g] : List (List Value)).flatMap id), .sl u6 29 4 (l6.length) (grRow l6)] w322):=(HS322.out).grown2 6 rfl ho6 hg6 (fun b hb=>hub6.elim (fun h=>.inl (h ▸ hb)) (fun h=>.inr (by rw [h] at hb;exact Nat.le_of_eq (Option.some.inj hb))))
      refine hK.out _ _ ((fun j v hv=>by rw [Nat.zero_add];exact (HS323.out).at 1 rfl j hv)) (fun hHeld=>?_)
      clear hK K ho6 hg6 hub6
      try simp only [z0, z1, z2, z3]
      refine tk 9 qPk14_20 (some 62) (v:=?q1211v) (Or.inl ⟨by rfl, ?q1211h⟩) hHeld ?q1211r
      case q1211h=>(intro _ h;clear h;go_simp;try with_reducible rfl)
      try simp only [z0, z1, z2, z3]
      refine tn 10 qPk14_21 (fun K hK=>?_)
      rw [if_pos (by rfl)]
      obtain ⟨a6, c6, rfl⟩:=own_slice ((HS323.out).own 6 rfl)
      have q5:=(HS323.out).at 0 rfl 1 rfl
      have f5:=(HS323.out).frozen 0 rfl 1
      go_simp
      clear q5 f5
      have HS324 : Hid (Hp w [.ob (w.heap.size) 25 (tbCells (.slice a t.held.length cap) (.slice a6 l6.length c6)), .ob b3 29 (grCells g), .ob b4 25 (tbCells (.slice none 0 0) (.slice none 0 0)), .rd R, .ob B87 29 (grCells wx), .ob B318 29 (([grCells g] : List (List Value)).flatMap id), .sl ((.slice a6 l6.length c6)) 29 4 (l6.length) (grRow l6)] (w322.setCell ⟨w.heap.size, 1, none⟩ (.slice a6 l6.length c6))):=(HS323.out).set 0 rfl 1 (.slice a6 l6.length c6)
      refine hK.out _ _ ((fun j v hv=>by rw [Nat.zero_add];exact (HS324.out).at 1 rfl j hv)) (fun hHeld=>?_)
      clear hK K
      generalize (w322.setCell ⟨w.heap.size, 1, none⟩ (.slice a6 l6.length c6)) = w323 at *
      try simp only [z0, z1, z2, z3]
      refine wpAnyH_done (by kernel_rfl) ?_ _
      clear hHeld
      have HS325 : Hid (Hp w [.ob (w.heap.size) 25 (tbCells (.slice a t.held.length cap) (.slice a6 l6.length c6)), .ob b3 29 (grCells g), .ob b4 25 (tbCells (.slice none 0 0) (.slice none 0 0)), .rd R, .sl ((.slice a6 l6.length c6)) 29 4 (l6.length) (grRow l6)] w323):=HS324.out.pull [0, 1, 2, 3, 6] rfl (pull_nd HS324.out.nd [0, 1, 2, 3, 6] rfl (by decide))
      clear HS324
      obtain ⟨R7, h7, hn7, hs7⟩:=Hp.ownrd2 (A:=[.ob (w.heap.size) 25 (tbCells (.slice a t.held.length cap) (.slice a6 l6.length c6)), .ob b3 29 (grCells g), .ob b4 25 (tbCells (.slice none 0 0) (.slice none 0 0)), .rd R]) HS325.out
      go_wp2_with fail
      go_meet
      exact ⟨a6, c6, R7, h7, hn7, hs7⟩
   ·rw [if_pos (by rfl)]
    refine wp_load_whole 25 (.tmp 2) (w.heap.size) (tbCells (.slice a t.held.length cap) (.slice a2 t.wait.length cap2)) 25 HUT.out rfl rfl (((HS272.out).drew).get 0 rfl) rfl (info_tb) ?_
    have HS318 : Hid (Hp w [.ob (w.heap.size) 25 (tbCells (.slice a t.held.length cap) (.slice a2 t.wait.length cap2)), .ob b3 29 (grCells g), .ob b4 25 (tbCells (.slice none 0 0) (.slice none 0 0)), .rd R, .ob B87 29 (grCells wx)] (w272.drew)):=(HS272.out).drew
    refine hK.out _ _ ((fun j v hv=>by rw [Nat.zero_add];exact (HS318.out).at 1 rfl j hv)) (fun hHeld=>?_)
    clear hK K
    generalize w272.drew = w318 at *
    try simp only [z0, z1, z2, z3]
    refine wpAnyH_ready (rs:=[1, 7]) (by kernel_rfl) (by simp) ?_
    refine AllReadyH.cons (o:=qPk14_14) rfl (fun K hK=>?_) (AllReadyH.cons (o:=qPk14_16) rfl (fun K hK=>?_) (AllReadyH.nil))
    ·have q0:=(HS318.out).at 0 rfl 1 rfl
     go_simp
     clear q0
     have HS319:=HS318
     refine hK.out _ _ ((fun j v hv=>by rw [Nat.zero_add];exact (HS319.out).at 1 rfl j hv)) (fun hHeld=>?_)
     clear hK K
     try simp only [z0, z1, z2, z3]
     refine wpAnyH_ready (rs:=[2, 7]) (by kernel_rfl) (by simp) ?_
     refine AllReadyH.cons (o:=qPk14_17) rfl (fun K hK=>?_) (AllReadyH.cons (o:=qPk14_16) rfl (fun K hK=>?_) (AllReadyH.nil))
     ·go_simp
      go_wp2_with (go_at_call 47;refine (HCl.out _ (HS319.out).old).mono ?_;rintro e w319 ⟨u0, rfl, hb, ho⟩)
      have HS320:=Lib.hid ((HS319.out).addown hb ho)
      refine hK.out _ _ ((fun j v hv=>by rw [Nat.zero_add];exact (HS320.out).at 1 rfl j hv)) (fun hHeld=>?_)
      clear hK K hb ho
      try simp only [z0, z1, z2, z3]
      refine wpAnyH_ready (rs:=[5, 7]) (by kernel_rfl) (by simp) ?_
      refine AllReadyH.cons (o:=qPk14_18) rfl (fun K hK=>?_) (AllReadyH.cons (o:=qPk14_16) rfl (fun K hK=>?_) (AllReadyH.nil))
      ·go_simp
       go_wp2_with (go_at_call 48;refine (HTu1.out _ (HS320.out).old).mono ?_;rintro e w320 ⟨rfl, hb⟩)
       have HS321:=Lib.hid ((HS320.out).calls hb)
       refine hK.out _ _ ((fun j v hv=>by rw [Nat.zero_add];exact (HS321.out).at 1 rfl j hv)) (fun hHeld=>?_)
       clear hK K hb
       try simp only [z0, z1, z2, z3]
       refine tn 7 qPk14_16 (fun K hK=>?_)
       rw [if_pos (by rfl)]
       refine wp_build_obs rfl elem_gr HUX.out [grCells g] (List.forall_mem_cons.2 ⟨rfl, (fun _ h=>absurd h List.not_mem_nil)⟩) (Nat.succ_pos _) (by simp only [List.length_cons, List.length_nil];omega) rfl (by simp only [List.map_toArray, List.map_cons, List.map_nil, List.zipIdx_cons, List.zipIdx_nil];exact rfl) ?_
       have HS322 : Hid (Hp w [.ob (w.heap.size) 25 (tbCells (.slice a t.held.length cap) (.slice a2 t.wait.length cap2)), .ob b3 29 (grCells g), .ob b4 25 (tbCells (.slice none 0 0) (.slice none 0 0)), .rd R, .ob B87 29 (grCells wx), .sl u0 29 4 (t.wait.length) (grRow t.wait), .ob (w320.heap.size) 29 (([grCells g] : List (List Value)).flatMap id)] (w320.alloc (.cells (([grCells g] : List (List Value)).flatMap id).toArray 29))):=(HS321.out).put 29 (([grCells g] : List (List Value)).flatMap id)
       refine hK.out _ _ ((fun j v hv=>by rw [Nat.zero_add];exact (HS322.out).at 1 rfl j hv)) (fun hHeld=>?_)
       clear hK K
       generalize (w320.alloc (.cells (([grCells g] : List (List Value)).flatMap id).toArray 29)) = w321 at *
       generalize w320.heap.size = B318 at *
       try simp only [z0, z1, z2, z3]
       refine tn 8 qPk14_19 (fun K hK=>?_)
       go_simp
       go_wp2_with (go_at_call 46;refine (insert_own t.wait g p u0 w.heap.size B318 _ HPl.out ((HS322.out).own 5 rfl) ((HS322.out).get 6 rfl) (fun e=>(HS322.out).ne 5 6 rfl rfl (by decide) e rfl rfl) (HS322.out).old.size (by have:=HLn.out;omega)).mono ?_;rintro e w322 ⟨u6, rfl, ho6, hg6, hub6⟩)
       rw [HL6.out] at ho6
       have HS323 : Hid (Hp w [.ob (w.heap.size) 25 (tbCells (.slice a t.held.length cap) (.slice a2 t.wait.length cap2)), .ob b3 29 (grCells g), .ob b4 25 (tbCells (.slice none 0 0) (.slice none 0 0)), .rd R, .ob B87 29 (grCells wx), .sl u6 29 4 (l6.length) (grRow l6), .ob B318 29 (([grCells g] : List (List Value)).flatMap id)] w322):=(HS322.out).grown2 5 rfl ho6 hg6 (fun b hb=>hub6.elim (fun h=>.inl (h ▸ hb)) (fun h=>.inr (by rw [h] at hb;exact Nat.le_of_eq (Option.some.inj hb))))
       refine hK.out _ _ ((fun j v hv=>by rw [Nat.zero_add];exact (HS323.out).at 1 rfl j hv)) (fun hHeld=>?_)
       clear hK K ho6 hg6 hub6
       try simp only [z0, z1, z2, z3]
       refine tk 9 qPk14_20 (some 62) (v:=?q1212v) (Or.inl ⟨by rfl, ?q1212h⟩) hHeld ?q1212r
       case q1212h=>(intro _ h;clear h;go_simp;try with_reducible rfl)
       try simp only [z0, z1, z2, z3]
       refine tn 10 qPk14_21 (fun K hK=>?_)
       rw [if_pos (by rfl)]
       obtain ⟨a6, c6, rfl⟩:=own_slice ((HS323.out).own 5 rfl)
       have q5:=(HS323.out).at 0 rfl 1 rfl
       have f5:=(HS323.out).frozen 0 rfl 1
       go_simp
       clear q5 f5
       have HS324 : Hid (Hp w [.ob (w.heap.size) 25 (tbCells (.slice a t.held.length cap) (.slice a6 l6.length c6)), .ob b3 29 (grCells g), .ob b4 25 (tbCells (.slice none 0 0) (.slice none 0 0)), .rd R, .ob B87 29 (grCells wx), .sl ((.slice a6 l6.length c6)) 29 4 (l6.length) (grRow l6), .ob B318 29 (([grCells g] : List (List Value)).flatMap id)] (w322.setCell ⟨w.heap.size, 1, none⟩ (.slice a6 l6.length c6))):=(HS323.out).set 0 rfl 1 (.slice a6 l6.length c6)
       refine hK.out _ _ ((fun j v hv=>by rw [Nat.zero_add];exact (HS324.out).at 1 rfl j hv)) (fun hHeld=>?_)
       clear hK K
       generalize (w322.setCell ⟨w.heap.size, 1, none⟩ (.slice a6 l6.length c6)) = w323 at *
       try simp only [z0, z1, z2, z3]
       refine wpAnyH_done (by kernel_rfl) ?_ _
       clear hHeld
       have HS325 : Hid (Hp w [.ob (w.heap.size) 25 (tbCells (.slice a t.held.length cap) (.slice a6 l6.length c6)), .ob b3 29 (grCells g), .ob b4 25 (tbCells (.slice none 0 0) (.slice none 0 0)), .rd R, .sl ((.slice a6 l6.length c6)) 29 4 (l6.length) (grRow l6)] w323):=HS324.out.pull [0, 1, 2, 3, 5] rfl (pull_nd HS324.out.nd [0, 1, 2, 3, 5] rfl (by decide))
       clear HS324
       obtain ⟨R7, h7, hn7, hs7⟩:=Hp.ownrd2 (A:=[.ob (w.heap.size) 25 (tbCells (.slice a t.held.length cap) (.slice a6 l6.length c6)), .ob b3 29 (grCells g), .ob b4 25 (tbCells (.slice none 0 0) (.slice none 0 0)), .rd R]) HS325.out
       go_wp2_with fail
       go_meet
       exact ⟨a6, c6, R7, h7, hn7, hs7⟩
      ·rw [if_pos (by rfl)]
       refine wp_build_obs rfl elem_gr HUX.out [grCells g] (List.forall_mem_cons.2 ⟨rfl, (fun _ h=>absurd h List.not_mem_nil)⟩) (Nat.succ_pos _) (by simp only [List.length_cons, List.length_nil];omega) rfl (by simp only [List.map_toArray, List.map_cons, List.map_nil, List.zipIdx_cons, List.zipIdx_nil];exact rfl) ?_
       have HS321 : Hid (Hp w [.ob (w.heap.size) 25 (tbCells (.slice a t.held.length cap) (.slice a2 t.wait.length cap2)), .ob b3 29 (grCells g), .ob b4 25 (tbCells (.slice none 0 0) (.slice none 0 0)), .rd R, .ob B87 29 (grCells wx), .sl u0 29 4 (t.wait.length) (grRow t.wait), .ob (w319.heap.size) 29 (([grCells g] : List (List Value)).flatMap id)] (w319.alloc (.cells (([grCells g] : List (List Value)).flatMap id).toArray 29))):=(HS320.out).put 29 (([grCells g] : List (List Value)).flatMap id)
       refine hK.out _ _ ((fun j v hv=>by rw [Nat.zero_add];exact (HS321.out).at 1 rfl j hv)) (fun hHeld=>?_)
       clear hK K
       generalize (w319.alloc (.cells (([grCells g] : List (List Value)).flatMap id).toArray 29)) = w320 at *
       generalize w319.heap.size = B318 at *
       try simp only [z0, z1, z2, z3]
       refine tn 5 qPk14_18 (fun K hK=>?_)
       go_simp
       go_wp2_with (go_at_call 48;refine (HTu1.out _ (HS321.out).old).mono ?_;rintro e w321 ⟨rfl, hb⟩)
       have HS322:=Lib.hid ((HS321.out).calls hb)
       refine hK.out _ _ ((fun j v hv=>by rw [Nat.zero_add];exact (HS322.out).at 1 rfl j hv)) (fun hHeld=>?_)
       clear hK K hb
       try simp only [z0, z1, z2, z3]
       refine tn 8 qPk14_19 (fun K hK=>?_)
       go_simp
       go_wp2_with (go_at_call 46;refine (insert_own t.wait g p u0 w.heap.size B318 _ HPl.out ((HS322.out).own 5 rfl) ((HS322.out).get 6 rfl) (fun e=>(HS322.out).ne 5 6 rfl rfl (by decide) e rfl rfl) (HS322.out).old.size (by have:=HLn.out;omega)).mono ?_;rintro e w322 ⟨u6, rfl, ho6, hg6, hub6⟩)
       rw [HL6.out] at ho6
       have HS323 : Hid (Hp w [.ob (w.heap.size) 25 (tbCells (.slice a t.held.length cap) (.slice a2 t.wait.length cap2)), .ob b3 29 (grCells g), .ob b4 25 (tbCells (.slice none 0 0) (.slice none 0 0)), .rd R, .ob B87 29 (grCells wx), .sl u6 29 4 (l6.length) (grRow l6), .ob B318 29 (([grCells g] : List (List Value)).flatMap id)] w322):=(HS322.out).grown2 5 rfl ho6 hg6 (fun b hb=>hub6.elim (fun h=>.inl (h ▸ hb)) (fun h=>.inr (by rw [h] at hb;exact Nat.le_of_eq (Option.some.inj hb))))
       refine hK.out _ _ ((fun j v hv=>by rw [Nat.zero_add];exact (HS323.out).at 1 rfl j hv)) (fun hHeld=>?_)
       clear hK K ho6 hg6 hub6
       try simp only [z0, z1, z2, z3]
       refine tk 9 qPk14_20 (some 62) (v:=?q1213v) (Or.inl ⟨by rfl, ?q1213h⟩) hHeld ?q1213r
       case q1213h=>(intro _ h;clear h;go_simp;try with_reducible rfl)
       try simp only [z0, z1, z2, z3]
       refine tn 10 qPk14_21 (fun K hK=>?_)
       rw [if_pos (by rfl)]
       obtain ⟨a6, c6, rfl⟩:=own_slice ((HS323.out).own 5 rfl)
       have q5:=(HS323.out).at 0 rfl 1 rfl
       have f5:=(HS323.out).frozen 0 rfl 1
       go_simp
       clear q5 f5
       have HS324 : Hid (Hp w [.ob (w.heap.size) 25 (tbCells (.slice a t.held.length cap) (.slice a6 l6.length c6)), .ob b3 29 (grCells g), .ob b4 25 (tbCells (.slice none 0 0) (.slice none 0 0)), .rd R, .ob B87 29 (grCells wx), .sl ((.slice a6 l6.length c6)) 29 4 (l6.length) (grRow l6), .ob B318 29 (([grCells g] : List (List Value)).flatMap id)] (w322.setCell ⟨w.heap.size, 1, none⟩ (.slice a6 l6.length c6))):=(HS323.out).set 0 rfl 1 (.slice a6 l6.length c6)
       refine hK.out _ _ ((fun j v hv=>by rw [Nat.zero_add];exact (HS324.out).at 1 rfl j hv)) (fun hHeld=>?_)
       clear hK K
       generalize (w322.setCell ⟨w.heap.size, 1, none⟩ (.slice a6 l6.length c6)) = w323 at *
       try simp only [z0, z1, z2, z3]
       refine wpAnyH_done (by kernel_rfl) ?_ _
       clear hHeld
       have HS325 : Hid (Hp w [.ob (w.heap.size) 25 (tbCells (.slice a t.held.length cap) (.slice a6 l6.length c6)), .ob b3 29 (grCells g), .ob b4 25 (tbCells (.slice none 0 0) (.slice none 0 0)), .rd R, .sl ((.slice a6 l6.length c6)) 29 4 (l6.length) (grRow l6)] w323):=HS324.out.pull [0, 1, 2, 3, 5] rfl (pull_nd HS324.out.nd [0, 1, 2, 3, 5] rfl (by decide))
       clear HS324
       obtain ⟨R7, h7, hn7, hs7⟩:=Hp.ownrd2 (A:=[.ob (w.heap.size) 25 (tbCells (.slice a t.held.length cap) (.slice a6 l6.length c6)), .ob b3 29 (grCells g), .ob b4 25 (tbCells (.slice none 0 0) (.slice none 0 0)), .rd R]) HS325.out
       go_wp2_with fail
       go_meet
       exact ⟨a6, c6, R7, h7, hn7, hs7⟩
     ·rw [if_pos (by rfl)]
      refine wp_build_obs rfl elem_gr HUX.out [grCells g] (List.forall_mem_cons.2 ⟨rfl, (fun _ h=>absurd h List.not_mem_nil)⟩) (Nat.succ_pos _) (by simp only [List.length_cons, List.length_nil];omega) rfl (by simp only [List.map_toArray, List.map_cons, List.map_nil, List.zipIdx_cons, List.zipIdx_nil];exact rfl) ?_
      have HS320 : Hid (Hp w [.ob (w.heap.size) 25 (tbCells (.slice a t.held.length cap) (.slice a2 t.wait.length cap2)), .ob b3 29 (grCells g), .ob b4 25 (tbCells (.slice none 0 0) (.slice none 0 0)), .rd R, .ob B87 29 (grCells wx), .ob (w318.heap.size) 29 (([grCells g] : List (List Value)).flatMap id)] (w318.alloc (.cells (([grCells g] : List (List Value)).flatMap id).toArray 29))):=(HS319.out).put 29 (([grCells g] : List (List Value)).flatMap id)
      refine hK.out _ _ ((fun j v hv=>by rw [Nat.zero_add];exact (HS320.out).at 1 rfl j hv)) (fun hHeld=>?_)
      clear hK K
      generalize (w318.alloc (.cells (([grCells g] : List (List Value)).flatMap id).toArray 29)) = w319 at *
      generalize w318.heap.size = B318 at *
      try simp only [z0, z1, z2, z3]
      refine tn 2 qPk14_17 (fun K hK=>?_)
      go_simp
      go_wp2_with (go_at_call 47;refine (HCl.out _ (HS320.out).old).mono ?_;rintro e w320 ⟨u0, rfl, hb, ho⟩)
      have HS321:=Lib.hid ((HS320.out).addown hb ho)
      refine hK.out _ _ ((fun j v hv=>by rw [Nat.zero_add];exact (HS321.out).at 1 rfl j hv)) (fun hHeld=>?_)
      clear hK K hb ho
      try simp only [z0, z1, z2, z3]
      refine tn 5 qPk14_18 (fun K hK=>?_)
      go_simp
      go_wp2_with (go_at_call 48;refine (HTu1.out _ (HS321.out).old).mono ?_;rintro e w321 ⟨rfl, hb⟩)
      have HS322:=Lib.hid ((HS321.out).calls hb)
      refine hK.out _ _ ((fun j v hv=>by rw [Nat.zero_add];exact (HS322.out).at 1 rfl j hv)) (fun hHeld=>?_)
      clear hK K hb
      try simp only [z0, z1, z2, z3]
      refine tn 8 qPk14_19 (fun K hK=>?_)
      go_simp
      go_wp2_with (go_at_call 46;refine (insert_own t.wait g p u0 w.heap.size B318 _ HPl.out ((HS322.out).own 6 rfl) ((HS322.out).get 5 rfl) (fun e=>(HS322.out).ne 6 5 rfl rfl (by decide) e rfl rfl) (HS322.out).old.size (by have:=HLn.out;omega)).mono ?_;rintro e w322 ⟨u6, rfl, ho6, hg6, hub6⟩)
      rw [HL6.out] at ho6
      have HS323 : Hid (Hp w [.ob (w.heap.size) 25 (tbCells (.slice a t.held.length cap) (.slice a2 t.wait.length cap2)), .ob b3 29 (grCells g), .ob b4 25 (tbCells (.slice none 0 0) (.slice none 0 0)), .rd R, .ob B87 29 (grCells wx), .ob B318 29 (([grCells g] : List (List Value)).flatMap id), .sl u6 29 4 (l6.length) (grRow l6)] w322):=(HS322.out).grown2 6 rfl ho6 hg6 (fun b hb=>hub6.elim (fun h=>.inl (h ▸ hb)) (fun h=>.inr (by rw [h] at hb;exact Nat.le_of_eq (Option.some.inj hb))))
      refine hK.out _ _ ((fun j v hv=>by rw [Nat.zero_add];exact (HS323.out).at 1 rfl j hv)) (fun hHeld=>?_)
      clear hK K ho6 hg6 hub6
      try simp only [z0, z1, z2, z3]
      refine tk 9 qPk14_20 (some 62) (v:=?q1214v) (Or.inl ⟨by rfl, ?q1214h⟩) hHeld ?q1214r
      case q1214h=>(intro _ h;clear h;go_simp;try with_reducible rfl)
      try simp only [z0, z1, z2, z3]
      refine tn 10 qPk14_21 (fun K hK=>?_)
      rw [if_pos (by rfl)]
      obtain ⟨a6, c6, rfl⟩:=own_slice ((HS323.out).own 6 rfl)
      have q5:=(HS323.out).at 0 rfl 1 rfl
      have f5:=(HS323.out).frozen 0 rfl 1
      go_simp
      clear q5 f5
      have HS324 : Hid (Hp w [.ob (w.heap.size) 25 (tbCells (.slice a t.held.length cap) (.slice a6 l6.length c6)), .ob b3 29 (grCells g), .ob b4 25 (tbCells (.slice none 0 0) (.slice none 0 0)), .rd R, .ob B87 29 (grCells wx), .ob B318 29 (([grCells g] : List (List Value)).flatMap id), .sl ((.slice a6 l6.length c6)) 29 4 (l6.length) (grRow l6)] (w322.setCell ⟨w.heap.size, 1, none⟩ (.slice a6 l6.length c6))):=(HS323.out).set 0 rfl 1 (.slice a6 l6.length c6)
      refine hK.out _ _ ((fun j v hv=>by rw [Nat.zero_add];exact (HS324.out).at 1 rfl j hv)) (fun hHeld=>?_)
      clear hK K
      generalize (w322.setCell ⟨w.heap.size, 1, none⟩ (.slice a6 l6.length c6)) = w323 at *
      try simp only [z0, z1, z2, z3]
      refine wpAnyH_done (by kernel_rfl) ?_ _
      clear hHeld
      have HS325 : Hid (Hp w [.ob (w.heap.size) 25 (tbCells (.slice a t.held.length cap) (.slice a6 l6.length c6)), .ob b3 29 (grCells g), .ob b4 25 (tbCells (.slice none 0 0) (.slice none 0 0)), .rd R, .sl ((.slice a6 l6.length c6)) 29 4 (l6.length) (grRow l6)] w323):=HS324.out.pull [0, 1, 2, 3, 6] rfl (pull_nd HS324.out.nd [0, 1, 2, 3, 6] rfl (by decide))
      clear HS324
      obtain ⟨R7, h7, hn7, hs7⟩:=Hp.ownrd2 (A:=[.ob (w.heap.size) 25 (tbCells (.slice a t.held.length cap) (.slice a6 l6.length c6)), .ob b3 29 (grCells g), .ob b4 25 (tbCells (.slice none 0 0) (.slice none 0 0)), .rd R]) HS325.out
      go_wp2_with fail
      go_meet
      exact ⟨a6, c6, R7, h7, hn7, hs7⟩
    ·rw [if_pos (by rfl)]
     refine wp_build_obs rfl elem_gr HUX.out [grCells g] (List.forall_mem_cons.2 ⟨rfl, (fun _ h=>absurd h List.not_mem_nil)⟩) (Nat.succ_pos _) (by simp only [List.length_cons, List.length_nil];omega) rfl (by simp only [List.map_toArray, List.map_cons, List.map_nil, List.zipIdx_cons, List.zipIdx_nil];exact rfl) ?_
     have HS319 : Hid (Hp w [.ob (w.heap.size) 25 (tbCells (.slice a t.held.length cap) (.slice a2 t.wait.length cap2)), .ob b3 29 (grCells g), .ob b4 25 (tbCells (.slice none 0 0) (.slice none 0 0)), .rd R, .ob B87 29 (grCells wx), .ob (w318.heap.size) 29 (([grCells g] : List (List Value)).flatMap id)] (w318.alloc (.cells (([grCells g] : List (List Value)).flatMap id).toArray 29))):=(HS318.out).put 29 (([grCells g] : List (List Value)).flatMap id)
     refine hK.out _ _ ((fun j v hv=>by rw [Nat.zero_add];exact (HS319.out).at 1 rfl j hv)) (fun hHeld=>?_)
     clear hK K
     generalize (w318.alloc (.cells (([grCells g] : List (List Value)).flatMap id).toArray 29)) = w319 at *
     generalize w318.heap.size = B318 at *
     try simp only [z0, z1, z2, z3]
     refine tn 1 qPk14_14 (fun K hK=>?_)
     have q0:=(HS319.out).at 0 rfl 1 rfl
     go_simp
     clear q0
     have HS320:=HS319
     refine hK.out _ _ ((fun j v hv=>by rw [Nat.zero_add];exact (HS320.out).at 1 rfl j hv)) (fun hHeld=>?_)
     clear hK K
     try simp only [z0, z1, z2, z3]
     refine tn 2 qPk14_17 (fun K hK=>?_)
     go_simp
     go_wp2_with (go_at_call 47;refine (HCl.out _ (HS320.out).old).mono ?_;rintro e w320 ⟨u0, rfl, hb, ho⟩)
     have HS321:=Lib.hid ((HS320.out).addown hb ho)
     refine hK.out _ _ ((fun j v hv=>by rw [Nat.zero_add];exact (HS321.out).at 1 rfl j hv)) (fun hHeld=>?_)
     clear hK K hb ho
     try simp only [z0, z1, z2, z3]
     refine tn 5 qPk14_18 (fun K hK=>?_)
     go_simp
     go_wp2_with (go_at_call 48;refine (HTu1.out _ (HS321.out).old).mono ?_;rintro e w321 ⟨rfl, hb⟩)
     have HS322:=Lib.hid ((HS321.out).calls hb)
     refine hK.out _ _ ((fun j v hv=>by rw [Nat.zero_add];exact (HS322.out).at 1 rfl j hv)) (fun hHeld=>?_)
     clear hK K hb
     try simp only [z0, z1, z2, z3]
     refine tn 8 qPk14_19 (fun K hK=>?_)
     go_simp
     go_wp2_with (go_at_call 46;refine (insert_own t.wait g p u0 w.heap.size B318 _ HPl.out ((HS322.out).own 6 rfl) ((HS322.out).get 5 rfl) (fun e=>(HS322.out).ne 6 5 rfl rfl (by decide) e rfl rfl) (HS322.out).old.size (by have:=HLn.out;omega)).mono ?_;rintro e w322 ⟨u6, rfl, ho6, hg6, hub6⟩)
     rw [HL6.out] at ho6
     have HS323 : Hid (Hp w [.ob (w.heap.size) 25 (tbCells (.slice a t.held.length cap) (.slice a2 t.wait.length cap2)), .ob b3 29 (grCells g), .ob b4 25 (tbCells (.slice none 0 0) (.slice none 0 0)), .rd R, .ob B87 29 (grCells wx), .ob B318 29 (([grCells g] : List (List Value)).flatMap id), .sl u6 29 4 (l6.length) (grRow l6)] w322):=(HS322.out).grown2 6 rfl ho6 hg6 (fun b hb=>hub6.elim (fun h=>.inl (h ▸ hb)) (fun h=>.inr (by rw [h] at hb;exact Nat.le_of_eq (Option.some.inj hb))))
     refine hK.out _ _ ((fun j v hv=>by rw [Nat.zero_add];exact (HS323.out).at 1 rfl j hv)) (fun hHeld=>?_)
     clear hK K ho6 hg6 hub6
     try simp only [z0, z1, z2, z3]
     refine tk 9 qPk14_20 (some 62) (v:=?q1215v) (Or.inl ⟨by rfl, ?q1215h⟩) hHeld ?q1215r
     case q1215h=>(intro _ h;clear h;go_simp;try with_reducible rfl)
     try simp only [z0, z1, z2, z3]
     refine tn 10 qPk14_21 (fun K hK=>?_)
     rw [if_pos (by rfl)]
     obtain ⟨a6, c6, rfl⟩:=own_slice ((HS323.out).own 6 rfl)
     have q5:=(HS323.out).at 0 rfl 1 rfl
     have f5:=(HS323.out).frozen 0 rfl 1
     go_simp
     clear q5 f5
     have HS324 : Hid (Hp w [.ob (w.heap.size) 25 (tbCells (.slice a t.held.length cap) (.slice a6 l6.length c6)), .ob b3 29 (grCells g), .ob b4 25 (tbCells (.slice none 0 0) (.slice none 0 0)), .rd R, .ob B87 29 (grCells wx), .ob B318 29 (([grCells g] : List (List Value)).flatMap id), .sl ((.slice a6 l6.length c6)) 29 4 (l6.length) (grRow l6)] (w322.setCell ⟨w.heap.size, 1, none⟩ (.slice a6 l6.length c6))):=(HS323.out).set 0 rfl 1 (.slice a6 l6.length c6)
     refine hK.out _ _ ((fun j v hv=>by rw [Nat.zero_add];exact (HS324.out).at 1 rfl j hv)) (fun hHeld=>?_)
     clear hK K
     generalize (w322.setCell ⟨w.heap.size, 1, none⟩ (.slice a6 l6.length c6)) = w323 at *
     try simp only [z0, z1, z2, z3]
     refine wpAnyH_done (by kernel_rfl) ?_ _
     clear hHeld
     have HS325 : Hid (Hp w [.ob (w.heap.size) 25 (tbCells (.slice a t.held.length cap) (.slice a6 l6.length c6)), .ob b3 29 (grCells g), .ob b4 25 (tbCells (.slice none 0 0) (.slice none 0 0)), .rd R, .sl ((.slice a6 l6.length c6)) 29 4 (l6.length) (grRow l6)] w323):=HS324.out.pull [0, 1, 2, 3, 6] rfl (pull_nd HS324.out.nd [0, 1, 2, 3, 6] rfl (by decide))
     clear HS324
     obtain ⟨R7, h7, hn7, hs7⟩:=Hp.ownrd2 (A:=[.ob (w.heap.size) 25 (tbCells (.slice a t.held.length cap) (.slice a6 l6.length c6)), .ob b3 29 (grCells g), .ob b4 25 (tbCells (.slice none 0 0) (.slice none 0 0)), .rd R]) HS325.out
     go_wp2_with fail
     go_meet
     exact ⟨a6, c6, R7, h7, hn7, hs7⟩
   ·rw [if_pos (by rfl)]
    refine wp_build_obs rfl elem_gr HUX.out [grCells g] (List.forall_mem_cons.2 ⟨rfl, (fun _ h=>absurd h List.not_mem_nil)⟩) (Nat.succ_pos _) (by simp only [List.length_cons, List.length_nil];omega) rfl (by simp only [List.map_toArray, List.map_cons, List.map_nil, List.zipIdx_cons, List.zipIdx_nil];exact rfl) ?_
    have HS318 : Hid (Hp w [.ob (w.heap.size) 25 (tbCells (.slice a t.held.length cap) (.slice a2 t.wait.length cap2)), .ob b3 29 (grCells g), .ob b4 25 (tbCells (.slice none 0 0) (.slice none 0 0)), .rd R, .ob B87 29 (grCells wx), .ob (w272.drew.heap.size) 29 (([grCells g] : List (List Value)).flatMap id)] (w272.drew.alloc (.cells (([grCells g] : List (List Value)).flatMap id).toArray 29))):=((HS272.out).drew).put 29 (([grCells g] : List (List Value)).flatMap id)
    refine hK.out _ _ ((fun j v hv=>by rw [Nat.zero_add];exact (HS318.out).at 1 rfl j hv)) (fun hHeld=>?_)
    clear hK K
    generalize (w272.drew.alloc (.cells (([grCells g] : List (List Value)).flatMap id).toArray 29)) = w318 at *
    generalize w272.drew.heap.size = B318 at *
    try simp only [z0, z1, z2, z3]
    refine wpAnyH_ready (rs:=[1, 3]) (by kernel_rfl) (by simp) ?_
    refine AllReadyH.cons (o:=qPk14_14) rfl (fun K hK=>?_) (AllReadyH.cons (o:=qPk14_15) rfl (fun K hK=>?_) (AllReadyH.nil))
    ·have q0:=(HS318.out).at 0 rfl 1 rfl
     go_simp
     clear q0
     have HS319:=HS318
     refine hK.out _ _ ((fun j v hv=>by rw [Nat.zero_add];exact (HS319.out).at 1 rfl j hv)) (fun hHeld=>?_)
     clear hK K
     try simp only [z0, z1, z2, z3]
     refine wpAnyH_ready (rs:=[2, 3]) (by kernel_rfl) (by simp) ?_
     refine AllReadyH.cons (o:=qPk14_17) rfl (fun K hK=>?_) (AllReadyH.cons (o:=qPk14_15) rfl (fun K hK=>?_) (AllReadyH.nil))
     ·go_simp
      go_wp2_with (go_at_call 47;refine (HCl.out _ (HS319.out).old).mono ?_;rintro e w319 ⟨u0, rfl, hb, ho⟩)
      have HS320:=Lib.hid ((HS319.out).addown hb ho)
      refine hK.out _ _ ((fun j v hv=>by rw [Nat.zero_add];exact (HS320.out).at 1 rfl j hv)) (fun hHeld=>?_)
      clear hK K hb ho
      try simp only [z0, z1, z2, z3]
      refine tn 3 qPk14_15 (fun K hK=>?_)
      rw [if_pos (by rfl)]
      refine wp_load_whole 25 (.tmp 2) (w.heap.size) (tbCells (.slice a t.held.length cap) (.slice a2 t.wait.length cap2)) 25 HUT.out rfl rfl ((HS320.out).get 0 rfl) rfl (info_tb) ?_
      have HS321:=HS320
      refine hK.out _ _ ((fun j v hv=>by rw [Nat.zero_add];exact (HS321.out).at 1 rfl j hv)) (fun hHeld=>?_)
      clear hK K
      try simp only [z0, z1, z2, z3]
      refine tn 5 qPk14_18 (fun K hK=>?_)
      go_simp
      go_wp2_with (go_at_call 48;refine (HTu1.out _ (HS321.out).old).mono ?_;rintro e w320 ⟨rfl, hb⟩)
      have HS322:=Lib.hid ((HS321.out).calls hb)
      refine hK.out _ _ ((fun j v hv=>by rw [Nat.zero_add];exact (HS322.out).at 1 rfl j hv)) (fun hHeld=>?_)
      clear hK K hb
      try simp only [z0, z1, z2, z3]
      refine tn 8 qPk14_19 (fun K hK=>?_)
      go_simp
      go_wp2_with (go_at_call 46;refine (insert_own t.wait g p u0 w.heap.size B318 _ HPl.out ((HS322.out).own 6 rfl) ((HS322.out).get 5 rfl) (fun e=>(HS322.out).ne 6 5 rfl rfl (by decide) e rfl rfl) (HS322.out).old.size (by have:=HLn.out;omega)).mono ?_;rintro e w321 ⟨u6, rfl, ho6, hg6, hub6⟩)
      rw [HL6.out] at ho6
      have HS323 : Hid (Hp w [.ob (w.heap.size) 25 (tbCells (.slice a t.held.length cap) (.slice a2 t.wait.length cap2)), .ob b3 29 (grCells g), .ob b4 25 (tbCells (.slice none 0 0) (.slice none 0 0)), .rd R, .ob B87 29 (grCells wx), .ob B318 29 (([grCells g] : List (List Value)).flatMap id), .sl u6 29 4 (l6.length) (grRow l6)] w321):=(HS322.out).grown2 6 rfl ho6 hg6 (fun b hb=>hub6.elim (fun h=>.inl (h ▸ hb)) (fun h=>.inr (by rw [h] at hb;exact Nat.le_of_eq (Option.some.inj hb))))
      refine hK.out _ _ ((fun j v hv=>by rw [Nat.zero_add];exact (HS323.out).at 1 rfl j hv)) (fun hHeld=>?_)
      clear hK K ho6 hg6 hub6
      try simp only [z0, z1, z2, z3]
      refine tk 9 qPk14_20 (some 62) (v:=?q1216v) (Or.inl ⟨by rfl, ?q1216h⟩) hHeld ?q1216r
      case q1216h=>(intro _ h;clear h;go_simp;try with_reducible rfl)
      try simp only [z0, z1, z2, z3]
      refine tn 10 qPk14_21 (fun K hK=>?_)
      rw [if_pos (by rfl)]
      obtain ⟨a6, c6, rfl⟩:=own_slice ((HS323.out).own 6 rfl)
      have q5:=(HS323.out).at 0 rfl 1 rfl
      have f5:=(HS323.out).frozen 0 rfl 1
      go_simp
      clear q5 f5
      have HS324 : Hid (Hp w [.ob (w.heap.size) 25 (tbCells (.slice a t.held.length cap) (.slice a6 l6.length c6)), .ob b3 29 (grCells g), .ob b4 25 (tbCells (.slice none 0 0) (.slice none 0 0)), .rd R, .ob B87 29 (grCells wx), .ob B318 29 (([grCells g] : List (List Value)).flatMap id), .sl ((.slice a6 l6.length c6)) 29 4 (l6.length) (grRow l6)] (w321.setCell ⟨w.heap.size, 1, none⟩ (.slice a6 l6.length c6))):=(HS323.out).set 0 rfl 1 (.slice a6 l6.length c6)
      refine hK.out _ _ ((fun j v hv=>by rw [Nat.zero_add];exact (HS324.out).at 1 rfl j hv)) (fun hHeld=>?_)
      clear hK K
      generalize (w321.setCell ⟨w.heap.size, 1, none⟩ (.slice a6 l6.length c6)) = w322 at *
      try simp only [z0, z1, z2, z3]
      refine wpAnyH_done (by kernel_rfl) ?_ _
      clear hHeld
      have HS325 : Hid (Hp w [.ob (w.heap.size) 25 (tbCells (.slice a t.held.length cap) (.slice a6 l6.length c6)), .ob b3 29 (grCells g), .ob b4 25 (tbCells (.slice none 0 0) (.slice none 0 0)), .rd R, .sl ((.slice a6 l6.length c6)) 29 4 (l6.length) (grRow l6)] w322):=HS324.out.pull [0, 1, 2, 3, 6] rfl (pull_nd HS324.out.nd [0, 1, 2, 3, 6] rfl (by decide))
      clear HS324
      obtain ⟨R7, h7, hn7, hs7⟩:=Hp.ownrd2 (A:=[.ob (w.heap.size) 25 (tbCells (.slice a t.held.length cap) (.slice a6 l6.length c6)), .ob b3 29 (grCells g), .ob b4 25 (tbCells (.slice none 0 0) (.slice none 0 0)), .rd R]) HS325.out
      go_wp2_with fail
      go_meet
      exact ⟨a6, c6, R7, h7, hn7, hs7⟩
     ·rw [if_pos (by rfl)]
      refine wp_load_whole 25 (.tmp 2) (w.heap.size) (tbCells (.slice a t.held.length cap) (.slice a2 t.wait.length cap2)) 25 HUT.out rfl rfl ((HS319.out).get 0 rfl) rfl (info_tb) ?_
      have HS320:=HS319
      refine hK.out _ _ ((fun j v hv=>by rw [Nat.zero_add];exact (HS320.out).at 1 rfl j hv)) (fun hHeld=>?_)
      clear hK K
      try simp only [z0, z1, z2, z3]
      refine tn 2 qPk14_17 (fun K hK=>?_)
      go_simp
      go_wp2_with (go_at_call 47;refine (HCl.out _ (HS320.out).old).mono ?_;rintro e w319 ⟨u0, rfl, hb, ho⟩)
      have HS321:=Lib.hid ((HS320.out).addown hb ho)
      refine hK.out _ _ ((fun j v hv=>by rw [Nat.zero_add];exact (HS321.out).at 1 rfl j hv)) (fun hHeld=>?_)
      clear hK K hb ho
      try simp only [z0, z1, z2, z3]
      refine tn 5 qPk14_18 (fun K hK=>?_)
      go_simp
      go_wp2_with (go_at_call 48;refine (HTu1.out _ (HS321.out).old).mono ?_;rintro e w320 ⟨rfl, hb⟩)
      have HS322:=Lib.hid ((HS321.out).calls hb)
      refine hK.out _ _ ((fun j v hv=>by rw [Nat.zero_add];exact (HS322.out).at 1 rfl j hv)) (fun hHeld=>?_)
      clear hK K hb
      try simp only [z0, z1, z2, z3]
      refine tn 8 qPk14_19 (fun K hK=>?_)
      go_simp
      go_wp2_with (go_at_call 46;refine (insert_own t.wait g p u0 w.heap.size B318 _ HPl.out ((HS322.out).own 6 rfl) ((HS322.out).get 5 rfl) (fun e=>(HS322.out).ne 6 5 rfl rfl (by decide) e rfl rfl) (HS322.out).old.size (by have:=HLn.out;omega)).mono ?_;rintro e w321 ⟨u6, rfl, ho6, hg6, hub6⟩)
      rw [HL6.out] at ho6
      have HS323 : Hid (Hp w [.ob (w.heap.size) 25 (tbCells (.slice a t.held.length cap) (.slice a2 t.wait.length cap2)), .ob b3 29 (grCells g), .ob b4 25 (tbCells (.slice none 0 0) (.slice none 0 0)), .rd R, .ob B87 29 (grCells wx), .ob B318 29 (([grCells g] : List (List Value)).flatMap id), .sl u6 29 4 (l6.length) (grRow l6)] w321):=(HS322.out).grown2 6 rfl ho6 hg6 (fun b hb=>hub6.elim (fun h=>.inl (h ▸ hb)) (fun h=>.inr (by rw [h] at hb;exact Nat.le_of_eq (Option.some.inj hb))))
      refine hK.out _ _ ((fun j v hv=>by rw [Nat.zero_add];exact (HS323.out).at 1 rfl j hv)) (fun hHeld=>?_)
      clear hK K ho6 hg6 hub6
      try simp only [z0, z1, z2, z3]
      refine tk 9 qPk14_20 (some 62) (v:=?q1217v) (Or.inl ⟨by rfl, ?q1217h⟩) hHeld ?q1217r
      case q1217h=>(intro _ h;clear h;go_simp;try with_reducible rfl)
      try simp only [z0, z1, z2, z3]
      refine tn 10 qPk14_21 (fun K hK=>?_)
      rw [if_pos (by rfl)]
      obtain ⟨a6, c6, rfl⟩:=own_slice ((HS323.out).own 6 rfl)
      have q5:=(HS323.out).at 0 rfl 1 rfl
      have f5:=(HS323.out).frozen 0 rfl 1
      go_simp
      clear q5 f5
      have HS324 : Hid (Hp w [.ob (w.heap.size) 25 (tbCells (.slice a t.held.length cap) (.slice a6 l6.length c6)), .ob b3 29 (grCells g), .ob b4 25 (tbCells (.slice none 0 0) (.slice none 0 0)), .rd R, .ob B87 29 (grCells wx), .ob B318 29 (([grCells g] : List (List Value)).flatMap id), .sl ((.slice a6 l6.length c6)) 29 4 (l6.length) (grRow l6)] (w321.setCell ⟨w.heap.size, 1, none⟩ (.slice a6 l6.length c6))):=(HS323.out).set 0 rfl 1 (.slice a6 l6.length c6)
      refine hK.out _ _ ((fun j v hv=>by rw [Nat.zero_add];exact (HS324.out).at 1 rfl j hv)) (fun hHeld=>?_)
      clear hK K
      generalize (w321.setCell ⟨w.heap.size, 1, none⟩ (.slice a6 l6.length c6)) = w322 at *
      try simp only [z0, z1, z2, z3]
      refine wpAnyH_done (by kernel_rfl) ?_ _
      clear hHeld
      have HS325 : Hid (Hp w [.ob (w.heap.size) 25 (tbCells (.slice a t.held.length cap) (.slice a6 l6.length c6)), .ob b3 29 (grCells g), .ob b4 25 (tbCells (.slice none 0 0) (.slice none 0 0)), .rd R, .sl ((.slice a6 l6.length c6)) 29 4 (l6.length) (grRow l6)] w322):=HS324.out.pull [0, 1, 2, 3, 6] rfl (pull_nd HS324.out.nd [0, 1, 2, 3, 6] rfl (by decide))
      clear HS324
      obtain ⟨R7, h7, hn7, hs7⟩:=Hp.ownrd2 (A:=[.ob (w.heap.size) 25 (tbCells (.slice a t.held.length cap) (.slice a6 l6.length c6)), .ob b3 29 (grCells g), .ob b4 25 (tbCells (.slice none 0 0) (.slice none 0 0)), .rd R]) HS325.out
      go_wp2_with fail
      go_meet
      exact ⟨a6, c6, R7, h7, hn7, hs7⟩
    ·rw [if_pos (by rfl)]
     refine wp_load_whole 25 (.tmp 2) (w.heap.size) (tbCells (.slice a t.held.length cap) (.slice a2 t.wait.length cap2)) 25 HUT.out rfl rfl ((HS318.out).get 0 rfl) rfl (info_tb) ?_
     have HS319:=HS318
     refine hK.out _ _ ((fun j v hv=>by rw [Nat.zero_add];exact (HS319.out).at 1 rfl j hv)) (fun hHeld=>?_)
     clear hK K
     try simp only [z0, z1, z2, z3]
     refine tn 1 qPk14_14 (fun K hK=>?_)
     have q0:=(HS319.out).at 0 rfl 1 rfl
     go_simp
     clear q0
     have HS320:=HS319
     refine hK.out _ _ ((fun j v hv=>by rw [Nat.zero_add];exact (HS320.out).at 1 rfl j hv)) (fun hHeld=>?_)
     clear hK K
     try simp only [z0, z1, z2, z3]
     refine tn 2 qPk14_17 (fun K hK=>?_)
     go_simp
     go_wp2_with (go_at_call 47;refine (HCl.out _ (HS320.out).old).mono ?_;rintro e w319 ⟨u0, rfl, hb, ho⟩)
     have HS321:=Lib.hid ((HS320.out).addown hb ho)
     refine hK.out _ _ ((fun j v hv=>by rw [Nat.zero_add];exact (HS321.out).at 1 rfl j hv)) (fun hHeld=>?_)
     clear hK K hb ho
     try simp only [z0, z1, z2, z3]
     refine tn 5 qPk14_18 (fun K hK=>?_)
     go_simp
     go_wp2_with (go_at_call 48;refine (HTu1.out _ (HS321.out).old).mono ?_;rintro e w320 ⟨rfl, hb⟩)
     have HS322:=Lib.hid ((HS321.out).calls hb)
     refine hK.out _ _ ((fun j v hv=>by rw [Nat.zero_add];exact (HS322.out).at 1 rfl j hv)) (fun hHeld=>?_)
     clear hK K hb
     try simp only [z0, z1, z2, z3]
     refine tn 8 qPk14_19 (fun K hK=>?_)
     go_simp
     go_wp2_with (go_at_call 46;refine (insert_own t.wait g p u0 w.heap.size B318 _ HPl.out ((HS322.out).own 6 rfl) ((HS322.out).get 5 rfl) (fun e=>(HS322.out).ne 6 5 rfl rfl (by decide) e rfl rfl) (HS322.out).old.size (by have:=HLn.out;omega)).mono ?_;rintro e w321 ⟨u6, rfl, ho6, hg6, hub6⟩)
     rw [HL6.out] at ho6
     have HS323 : Hid (Hp w [.ob (w.heap.size) 25 (tbCells (.slice a t.held.length cap) (.slice a2 t.wait.length cap2)), .ob b3 29 (grCells g), .ob b4 25 (tbCells (.slice none 0 0) (.slice none 0 0)), .rd R, .ob B87 29 (grCells wx), .ob B318 29 (([grCells g] : List (List Value)).flatMap id), .sl u6 29 4 (l6.length) (grRow l6)] w321):=(HS322.out).grown2 6 rfl ho6 hg6 (fun b hb=>hub6.elim (fun h=>.inl (h ▸ hb)) (fun h=>.inr (by rw [h] at hb;exact Nat.le_of_eq (Option.some.inj hb))))
     refine hK.out _ _ ((fun j v hv=>by rw [Nat.zero_add];exact (HS323.out).at 1 rfl j hv)) (fun hHeld=>?_)
     clear hK K ho6 hg6 hub6
     try simp only [z0, z1, z2, z3]
     refine tk 9 qPk14_20 (some 62) (v:=?q1218v) (Or.inl ⟨by rfl, ?q1218h⟩) hHeld ?q1218r
     case q1218h=>(intro _ h;clear h;go_simp;try with_reducible rfl)
     try simp only [z0, z1, z2, z3]
     refine tn 10 qPk14_21 (fun K hK=>?_)
     rw [if_pos (by rfl)]
     obtain ⟨a6, c6, rfl⟩:=own_slice ((HS323.out).own 6 rfl)
     have q5:=(HS323.out).at 0 rfl 1 rfl
     have f5:=(HS323.out).frozen 0 rfl 1
     go_simp
     clear q5 f5
     have HS324 : Hid (Hp w [.ob (w.heap.size) 25 (tbCells (.slice a t.held.length cap) (.slice a6 l6.length c6)), .ob b3 29 (grCells g), .ob b4 25 (tbCells (.slice none 0 0) (.slice none 0 0)), .rd R, .ob B87 29 (grCells wx), .ob B318 29 (([grCells g] : List (List Value)).flatMap id), .sl ((.slice a6 l6.length c6)) 29 4 (l6.length) (grRow l6)] (w321.setCell ⟨w.heap.size, 1, none⟩ (.slice a6 l6.length c6))):=(HS323.out).set 0 rfl 1 (.slice a6 l6.length c6)
     refine hK.out _ _ ((fun j v hv=>by rw [Nat.zero_add];exact (HS324.out).at 1 rfl j hv)) (fun hHeld=>?_)
     clear hK K
     generalize (w321.setCell ⟨w.heap.size, 1, none⟩ (.slice a6 l6.length c6)) = w322 at *
     try simp only [z0, z1, z2, z3]
     refine wpAnyH_done (by kernel_rfl) ?_ _
     clear hHeld
     have HS325 : Hid (Hp w [.ob (w.heap.size) 25 (tbCells (.slice a t.held.length cap) (.slice a6 l6.length c6)), .ob b3 29 (grCells g), .ob b4 25 (tbCells (.slice none 0 0) (.slice none 0 0)), .rd R, .sl ((.slice a6 l6.length c6)) 29 4 (l6.length) (grRow l6)] w322):=HS324.out.pull [0, 1, 2, 3, 6] rfl (pull_nd HS324.out.nd [0, 1, 2, 3, 6] rfl (by decide))
     clear HS324
     obtain ⟨R7, h7, hn7, hs7⟩:=Hp.ownrd2 (A:=[.ob (w.heap.size) 25 (tbCells (.slice a t.held.length cap) (.slice a6 l6.length c6)), .ob b3 29 (grCells g), .ob b4 25 (tbCells (.slice none 0 0) (.slice none 0 0)), .rd R]) HS325.out
     go_wp2_with fail
     go_meet
     exact ⟨a6, c6, R7, h7, hn7, hs7⟩
  case rest =>
   obtain ⟨a6, c6, R7, h7, hn7, hs7⟩:=hcut
   have HR7:=Lib.hid h7
   have HN7:=Lib.hid hn7
   have HS7:=Lib.hid hs7
   clear h7 hn7 hs7 HCl HTu1
   generalize wc = w700 at *
   have hi9 : TbIn ⟨t.held, l6⟩:=by have:=HIn.out;rwa [HAe.out] at this
   have HE2 : Hid (rq = (settleR ⟨t.held, l6⟩, decide (g.mode ≤ modeG (settleR ⟨t.held, l6⟩).held g), 0)):=Lib.hid (by rw [HE.out, HAe.out])
   have HIn2:=Lib.hid hi9
   have HFw : Hid (t.held.length + l6.length ≤ 2000):=Lib.hid (by have h1:=congrArg List.length HL6.out;have h2:=HLn.out;rw [insG_len] at h1;omega)
   have HSe : Hid (∀ W, RdIn W (R ++ R7) → Calls Try.prog 38 #[.agg (tbCells (.slice a t.held.length cap) (.slice a6 l6.length c6)).toArray] W (TbNew W (settleR ⟨t.held, l6⟩))):=fun W h2=>settled_any (R:=R ++ R7) W ⟨SlRd.mono HT.out.1 (fun r hr=>by simp [hr]), SlRd.mono HR7.out (fun r hr=>by simp [hr])⟩ h2 HIn2.out (by have:=HFw.out;simp only;omega)
   have hi8:=settle_in HIn2.out
   have hl8:=settle_len HIn2.out
   have HGs:=Lib.hid (hi8.good (by have:=HFw.out;simp only at hl8;omega))
   have HUp:=Lib.hid hi8.held.up
   have HSm:=Lib.hid (settle_mode HIn2.out (g:=g) (by show g ∈ l6;rw [← HL6.out];exact mem_insG _ _ _))
   generalize settleR ⟨t.held, l6⟩ = u at *
   clear HE HAe hi9 hi8 hl8
   go_wp2_with (first | ((with_reducible refine wpList_load_ob 25 (.tmp 2) (w.heap.size) (tbCells (.slice a t.held.length cap) (.slice a6 l6.length c6)) 25 HUT.out ?_ ?_ ?_ ?_ ?_);(exact rfl);(exact (HS7.out).get 0 rfl);(exact rfl);(exact info_tb);simp only [z0, z1, z2, z3]))
   refine (HSe.out _ (RdIn.append ((HS7.out).reads 3 rfl) ((HS7.out).reads 4 rfl))).mono ?_
   rintro e w731 ⟨h9, v9, R9, rfl, hrd2, hin2, hnew2, hb⟩
   obtain ⟨a9, c9, rfl, _, _⟩:=hrd2.1.shape
   obtain ⟨b9, d9, rfl, _, _⟩:=hrd2.2.shape
   have H9:=Lib.hid hrd2
   have HN9 : Hid (∀ r ∈ R9, w.heap.size ≤ r.1):=fun r hr=>Nat.le_trans (HS7.out).old.size (hnew2 r hr)
   have HS731 : Hid (Hp w [.ob (w.heap.size) 25 (tbCells (.slice a t.held.length cap) (.slice a6 l6.length c6)), .ob b3 29 (grCells g), .ob b4 25 (tbCells (.slice none 0 0) (.slice none 0 0)), .rd R, .rd R7, .rd R9] w731):=(HS7.out).addrd hb R9 hin2 (fun r hr=>.inl (hnew2 r hr))
   clear hb hin2 hnew2 hrd2
   clear HS7
   go_upto_region 16 with (first | ((with_reducible refine wpList_store_ob 25 (.tmp 2) (w.heap.size) (tbCells (.slice a9 u.held.length c9) (.slice b9 u.wait.length d9)) (tbCells (.slice a t.held.length cap) (.slice a6 l6.length c6)) 25 ?_ ?_ ?_ ?_ ?_ ?_ ?_);(exact rfl);(exact rfl);(exact (HS731.out).get 0 rfl);(exact info_tb);(exact rfl);(exact (oneCell_tb _ _ _ _ _ _));skip))
   have HS732 : Hid (Hp w [.ob (w.heap.size) 25 (tbCells (.slice a9 u.held.length c9) (.slice b9 u.wait.length d9)), .ob b3 29 (grCells g), .ob b4 25 (tbCells (.slice none 0 0) (.slice none 0 0)), .rd R, .rd R7, .rd R9] (w731.setRow (w.heap.size) (tbCells (.slice a9 u.held.length c9) (.slice b9 u.wait.length d9)).toArray)):=(HS731.out).row 0 rfl (tbCells (.slice a9 u.held.length c9) (.slice b9 u.wait.length d9))
   clear HSe
   clear HS731
   generalize (w731.setRow (w.heap.size) (tbCells (.slice a9 u.held.length c9) (.slice b9 u.wait.length d9)).toArray) = w732 at *
   have HMu : Hid (∀ W, RdIn W R9 → Calls Try.prog 44 #[.slice a9 u.held.length c9, .int .i64 g.tx, .agg (lkCells g.lock).toArray] W fun e w'=>e = .returned (.int .i64 (modeG u.held g)) ∧ Below W.heap.size W w'):=fun W h2=>pmode_any g.tx g.lock u.held _ R9 W HUp.out H9.out.1 h2 (by have:=HGs.out.few;omega)
   generalize modeG u.held g = mu at *
   obtain ⟨q, hq⟩ : ∃ q, (mu == g.mode) = q:=⟨_, rfl⟩
   rw [← HSm.out, hq] at HE2
   refine wp_region_held_drew (S:=fun w'=>w'.rangeAt w.heap.size 0 (tbCells (.slice a9 u.held.length c9) (.slice b9 u.wait.length d9)) ∧ w'.rangeAt b3 0 (grCells g)) (by kernel_rfl) (⟨(fun j v hv=>by rw [Nat.zero_add];exact ((HS732.out).drew).at 0 rfl j hv), (fun j v hv=>by rw [Nat.zero_add];exact ((HS732.out).drew).at 1 rfl j hv)⟩) (fun hHeld=>?_)
   refine tk 0 qPk14_22 (some 65) (yieldsIf_load_mid (by rfl) 25 (.tmp 2) rfl w.heap.size (0) rfl (tbCells (.slice a9 u.held.length c9) (.slice b9 u.wait.length d9)) _ (fun _ h=>h.1) HUT.out rfl (info_tb)) hHeld ?_
   try simp only [z0, z1, z2, z3]
   refine tk 1 qPk14_23 (some 66) (v:=?q1402v) (Or.inl ⟨by rfl, ?q1402h⟩) hHeld ?q1402r
   case q1402h=>(intro _ h;clear h;go_simp;try with_reducible rfl)
   try simp only [z0, z1, z2, z3]
   refine tk 2 qPk14_24 (some 67) (v:=.slice a9 u.held.length c9) (Or.inl ⟨by rfl, ?q1403h⟩) hHeld ?q1403r
   case q1403h=>(intro wq hSw;have lq:=(hSw.1) 0 (.slice a9 u.held.length c9) rfl;simp only [Nat.zero_add] at lq;clear hSw;go_simp;try with_reducible rfl)
   try simp only [z0, z1, z2, z3]
   refine tk 3 qPk14_25 (some 68) (v:=?q1404v) (Or.inl ⟨by rfl, ?q1404h⟩) hHeld ?q1404r
   case q1404h=>(intro _ h;clear h;go_simp;try with_reducible rfl)
   try simp only [z0, z1, z2, z3]
   refine tk 4 qPk14_26 (some 69) (v:=.int .i64 g.tx) (Or.inl ⟨by rfl, ?q1405h⟩) hHeld ?q1405r
   case q1405h=>(intro wq hSw;have lq:=(hSw.2) 0 (.int .i64 g.tx) rfl;simp only [Nat.zero_add] at lq;clear hSw;go_simp;try with_reducible rfl)
   try simp only [z0, z1, z2, z3]
   refine tk 5 qPk14_27 (some 70) (v:=?q1406v) (Or.inl ⟨by rfl, ?q1406h⟩) hHeld ?q1406r
   case q1406h=>(intro _ h;clear h;go_simp;try with_reducible rfl)
   try simp only [z0, z1, z2, z3]
   refine tk 6 qPk14_28 (some 71) (yieldsIf_load_mid (by rfl) 27 (.tmp 70) rfl b3 (1) rfl (lkCells g.lock) _ (fun _ h=>range_part (h.2) (mid_lk g)) HUK.out rfl (info_lk)) hHeld ?_
   try simp only [z0, z1, z2, z3]
   refine tk 8 qPk14_29 (some 73) (v:=?q1408v) (Or.inl ⟨by rfl, ?q1408h⟩) hHeld ?q1408r
   case q1408h=>(intro _ h;clear h;go_simp;try with_reducible rfl)
   try simp only [z0, z1, z2, z3]
   refine tk 9 qPk14_30 (some 74) (v:=.int .i64 g.mode) (Or.inl ⟨by rfl, ?q1409h⟩) hHeld ?q1409r
   case q1409h=>(intro wq hSw;have lq:=(hSw.2) 3 (.int .i64 g.mode) rfl;simp only [Nat.zero_add] at lq;clear hSw;go_simp;try with_reducible rfl)
   try simp only [z0, z1, z2, z3]
   refine tn 7 qPk14_31 (fun K hK=>?_)
   go_simp
   go_wp2_with (go_at_call 44;refine (HMu.out _ (((HS732.out).drew).reads 5 rfl)).mono ?_;rintro e w758 ⟨rfl, hb⟩)
   have HS758:=Lib.hid (((HS732.out).drew).calls hb)
   refine hK.out _ _ (⟨(fun j v hv=>by rw [Nat.zero_add];exact (HS758.out).at 0 rfl j hv), (fun j v hv=>by rw [Nat.zero_add];exact (HS758.out).at 1 rfl j hv)⟩) (fun hHeld=>?_)
   clear hK K hb
   try simp only [z0, z1, z2, z3]
   refine tk 10 qPk14_32 (some 75) (v:=.bool q) (Or.inl ⟨by rfl, ?q1410h⟩) hHeld ?q1410r
   case q1410h=>(intro _ h;clear h;go_simp;try with_reducible rfl)
   try simp only [z0, z1, z2, z3]
   refine tn 11 qPk14_33 (fun K hK=>?_)
   rw [if_pos (by rfl)]
   refine wp_store_ob 25 (.tmp 4) (.tmp 65) b4 (tbCells (.slice a9 u.held.length c9) (.slice b9 u.wait.length d9)) (tbCells (.slice none 0 0) (.slice none 0 0)) 25 rfl rfl rfl rfl ((HS758.out).get 2 rfl) (info_tb) (rfl) ((oneCell_tb _ _ _ _ _ _)) ?_
   have HS759 : Hid (Hp w [.ob (w.heap.size) 25 (tbCells (.slice a9 u.held.length c9) (.slice b9 u.wait.length d9)), .ob b3 29 (grCells g), .ob b4 25 (tbCells (.slice a9 u.held.length c9) (.slice b9 u.wait.length d9)), .rd R, .rd R7, .rd R9] (w758.setRow b4 (tbCells (.slice a9 u.held.length c9) (.slice b9 u.wait.length d9)).toArray)):=(HS758.out).row 2 rfl (tbCells (.slice a9 u.held.length c9) (.slice b9 u.wait.length d9))
   refine hK.out _ _ (⟨(fun j v hv=>by rw [Nat.zero_add];exact (HS759.out).at 0 rfl j hv), (fun j v hv=>by rw [Nat.zero_add];exact (HS759.out).at 1 rfl j hv)⟩) (fun hHeld=>?_)
   clear hK K
   generalize (w758.setRow b4 (tbCells (.slice a9 u.held.length c9) (.slice b9 u.wait.length d9)).toArray) = w759 at *
   try simp only [z0, z1, z2, z3]
   refine tk 12 qPk14_34 (some 5) (v:=?q1411v) (Or.inl ⟨by rfl, ?q1411h⟩) hHeld ?q1411r
   case q1411h=>(intro _ h;clear h;go_simp;try with_reducible rfl)
   try simp only [z0, z1, z2, z3]
   refine tk 13 qPk14_35 (some 6) (v:=?q1412v) (Or.inl ⟨by rfl, ?q1412h⟩) hHeld ?q1412r
   case q1412h=>(intro _ h;clear h;go_simp;try with_reducible rfl)
   try simp only [z0, z1, z2, z3]
   refine wpAnyH_done (by kernel_rfl) ?_ _
   clear hHeld
   go_wp2_with fail
   refine bodyPost_ret (results_ob_tmp2 Try.results24 _ _ b4 (tbCells (.slice a9 u.held.length c9) (.slice b9 u.wait.length d9)) 25 _ rfl ((HS759.out).get 2 rfl) HUT.out rfl info_tb) rfl ?_
   rw [HE2.out]
   exact ⟨_, _, R9, rfl, H9.out, (HS759.out).reads 5 rfl, fun r hr=>.inl (HN9.out r hr), (HS759.out).old⟩
end Go.Proofs.Ytooaldglgkjjgaa
/- the program's Would (waits) -/
namespace Go.Proofs.Ytooaldglgkjjgaa
open Go.RowKit
open Go.Act renaming put → z0
open List renaming setIfInBounds_toArray → z1, set_cons_zero → z2, set_cons_succ → z3
set_option maxRecDepth 20000
set_option linter.unusedSimpArgs false
set_option linter.unusedVariables false

set_option maxHeartbeats 16000000 in
theorem pwould_any {h v : Value} {t : Tb} {R : List Rng} (g : Gr) (w : World) (ht : TbRd h v t R) (hR : RdIn w R) (hg : GoodTb t) (hk : GoodGr g) :
  Calls Try.prog 17 #[.agg (tbCells h v).toArray, .agg (grCells g).toArray] w (WouldPost w (wouldR t g)):=by
 obtain ⟨u, bb, cd, hu⟩ : ∃ u bb cd, requestR t g = (u, bb, cd):=⟨_, _, _, rfl⟩
 have HRq : Hid (∀ W, RdIn W R → Calls Try.prog 24 #[.agg (tbCells h v).toArray, .agg (grCells g).toArray] W (TbPost3 W R (u, bb, cd))):=fun W h9=>by
  have:=prequest_any g W ht h9 hg hk
  rwa [hu] at this
 have HGu : Hid (cd = 0 → GoodTb u):=fun h0=>by
  have h9 : (requestR t g).2.2 = 0:=by rw [hu];exact h0
  have:=(request_ok (req_ok h9) h9).1.good
  rwa [hu] at this
 have HE : Hid (wouldR t g = if cd = 0 then (cycR u g.tx, 0) else ([], cd)):=Lib.hid (by unfold wouldR;rw [hu])
 obtain ⟨a, cap, rfl, hnc, hcm⟩:=ht.1.shape
 obtain ⟨a2, cap2, rfl, hnc2, hcm2⟩:=ht.2.shape
 have HR0:=Lib.hid (Hp.startrd w R hR)
 clear hu hR ht hg hk
 generalize wouldR t g = res at *
 have h1:=(HR0.out.put 25 (tbCells (.slice a t.held.length cap) (.slice a2 t.wait.length cap2))).put 29 (grCells g)
 simp only [List.nil_append, List.cons_append] at h1
 have e9 : (w.alloc (.cells (tbCells (.slice a t.held.length cap) (.slice a2 t.wait.length cap2)).toArray 25)).heap.size = w.heap.size + 1:=by simp only [World.alloc, Array.size_push]
 rw [e9] at h1
 have HS0:=Lib.hid h1
 clear e9
 clear h1 HR0
 obtain ⟨fsHUG, huHUG⟩:=under_gr
 have HUG:=Lib.hid huHUG
 clear huHUG
 obtain ⟨fsHUK, huHUK⟩:=under_lk
 have HUK:=Lib.hid huHUK
 clear huHUK
 obtain ⟨fsHUT, huHUT⟩:=under_tb
 have HUT:=Lib.hid huHUT
 clear huHUT
 go_enter Try.func17, Try.ntmps17
 go_upto_region 1 with (fail)
 generalize ((w.alloc (.cells (tbCells (.slice a t.held.length cap) (.slice a2 t.wait.length cap2)).toArray 25)).alloc (.cells (grCells g).toArray 29)) = w1 at *
 generalize w.heap.size + 1 = b3 at *
 go_wp2_with (first | ((with_reducible refine wpList_load_ob 25 (.tmp 2) (w.heap.size) (tbCells (.slice a t.held.length cap) (.slice a2 t.wait.length cap2)) 25 HUT.out ?_ ?_ ?_ ?_ ?_);(exact rfl);(exact (HS0.out).get 1 rfl);(exact rfl);(exact info_tb);simp only [z0, z1, z2, z3]) | ((with_reducible refine wpList_load_ob 29 (.tmp 3) b3 (grCells g) 29 HUG.out ?_ ?_ ?_ ?_ ?_);(exact rfl);(exact (HS0.out).get 2 rfl);(exact rfl);(exact info_gr);simp only [z0, z1, z2, z3]))
 refine (HRq.out _ ((HS0.out).reads 0 rfl)).mono ?_
 rintro e w21 ⟨h9, v9, R9, rfl, hrd2, hin2, hnew2, hb⟩
 obtain ⟨a9, c9, rfl, _, _⟩:=hrd2.1.shape
 obtain ⟨b9, d9, rfl, _, _⟩:=hrd2.2.shape
 have Hrd9:=Lib.hid hrd2
 have HS21 : Hid (Hp w [.rd R, .ob (w.heap.size) 25 (tbCells (.slice a t.held.length cap) (.slice a2 t.wait.length cap2)), .ob b3 29 (grCells g), .rd R9] w21):=(HS0.out).addrd hb R9 hin2 (fun r hr=>(hnew2 r hr).elim .inl (fun h=>.inr ⟨.rd R, List.mem_of_getElem? (i:=0) rfl, h⟩))
 clear hb hin2 hrd2 hnew2
 clear HS0
 go_upto_region 2 with (first | ((with_reducible refine wpList_alloc_ob 25 (tbCells (.slice none 0 0) (.slice none 0 0)) ?_ ?_);(exact alloc_tb);simp only [z0, z1, z2, z3]) | ((with_reducible refine wpList_store_ob 25 (.tmp 6) (w21.heap.size) (tbCells (.slice a9 u.held.length c9) (.slice b9 u.wait.length d9)) (tbCells (.slice none 0 0) (.slice none 0 0)) 25 ?_ ?_ ?_ ?_ ?_ ?_ ?_);(exact rfl);(exact rfl);(exact ((HS21.out).put 25 (tbCells (.slice none 0 0) (.slice none 0 0))).get 4 rfl);(exact info_tb);(exact rfl);(exact (oneCell_tb _ _ _ _ _ _));skip))
 have HS22 : Hid (Hp w [.rd R, .ob (w.heap.size) 25 (tbCells (.slice a t.held.length cap) (.slice a2 t.wait.length cap2)), .ob b3 29 (grCells g), .rd R9, .ob (w21.heap.size) 25 (tbCells (.slice a9 u.held.length c9) (.slice b9 u.wait.length d9))] ((w21.alloc (.cells (tbCells (.slice none 0 0) (.slice none 0 0)).toArray 25)).setRow (w21.heap.size) (tbCells (.slice a9 u.held.length c9) (.slice b9 u.wait.length d9)).toArray)):=((HS21.out).put 25 (tbCells (.slice none 0 0) (.slice none 0 0))).row 4 rfl (tbCells (.slice a9 u.held.length c9) (.slice b9 u.wait.length d9))
 clear HS21
 generalize ((w21.alloc (.cells (tbCells (.slice none 0 0) (.slice none 0 0)).toArray 25)).setRow (w21.heap.size) (tbCells (.slice a9 u.held.length c9) (.slice b9 u.wait.length d9)).toArray) = w22 at *
 generalize w21.heap.size = B21 at *
 by_cases hc0 : cd = 0
 ·obtain ⟨e1, n1⟩:=eq_facts hc0
  have HGU:=Lib.hid (HGu.out hc0)
  have HE2 : Hid (res = (cycR u g.tx, 0)):=Lib.hid (by rw [HE.out, if_pos hc0])
  clear hc0 HGu
  go_upto_region 4 with (fail)
  clear e1 n1
  have cg : w22.cell? ⟨b3, 0, none⟩ = some (.int .i64 g.tx):=HS22.out.at 2 rfl 0 rfl
  go_wp2_with (first | ((with_reducible refine wpList_load_ob 25 (.tmp 6) B21 (tbCells (.slice a9 u.held.length c9) (.slice b9 u.wait.length d9)) 25 HUT.out ?_ ?_ ?_ ?_ ?_);(exact rfl);(exact (HS22.out).get 4 rfl);(exact rfl);(exact info_tb);simp only [z0, z1, z2, z3]))
  have HS23 : Hid (Hp w [.rd R, .ob (w.heap.size) 25 (tbCells (.slice a t.held.length cap) (.slice a2 t.wait.length cap2)), .ob b3 29 (grCells g), .rd R9, .ob B21 25 (tbCells (.slice a9 u.held.length c9) (.slice b9 u.wait.length d9))] w22):=HS22.out
  clear HS22
  have HSz:=Lib.hid HS23.out.old.size
  go_wp2_with fail
  refine (pcycle_any g.tx _ Hrd9.out ((HS23.out).reads 3 rfl) HGU.out).mono ?_
  rintro e w23 ⟨v8, R8, rfl, hrd2, hin2, hnew2, hb⟩
  obtain ⟨a8, c8, rfl, hl8, hm8, hg8⟩:=hrd2.cells
  have Hrd8:=Lib.hid hrd2
  have Hnw8:=Lib.hid hnew2
  have Hgc8:=Lib.hid hg8
  clear hg8
  have HS24 : Hid (Hp w [.rd R, .ob (w.heap.size) 25 (tbCells (.slice a t.held.length cap) (.slice a2 t.wait.length cap2)), .ob b3 29 (grCells g), .rd R9, .ob B21 25 (tbCells (.slice a9 u.held.length c9) (.slice b9 u.wait.length d9)), .rd R8] w23):=(HS23.out).addrd hb R8 hin2 (fun r hr=>.inl (hnew2 r hr))
  clear hb hin2 hrd2 hnew2
  clear HS23
  go_wp2_with fail
  go_ret2
  rw [HE2.out]
  exact ⟨_, R8, rfl, Hrd8.out, HS24.out.reads 5 rfl, fun r hr=>Nat.le_trans HSz.out (Hnw8.out r hr), HS24.out.old⟩
 ·obtain ⟨e1, n1⟩:=ne_facts hc0
  have HE2 : Hid (res = ([], cd)):=Lib.hid (by rw [HE.out, if_neg hc0])
  clear hc0 HGu
  go_wp2_with fail
  go_ret2
  rw [HE2.out]
  exact ⟨_, [], rfl, IntRd.nil _, RdIn.nil _, by simp, HS22.out.old⟩
end Go.Proofs.Ytooaldglgkjjgaa
/- the example of chapter 8, reckoned -/
namespace Go.Proofs.Ytooaldglgkjjgaa
set_option maxRecDepth 20000

def kx (tx m : Int) : Gr:=⟨tx, 1, 0, m⟩
theorem request_new {t : Tb} {g : Gr} (h : TbOk t) (hg : GrOk g) (hno : wfind t.wait g.tx = none) (hm : ¬ g.mode ≤ modeG t.held g) (hl : ¬ t.held.length + t.wait.length = 1024) :
    requestR t g = (settleR (addedR t g), decide (g.mode ≤ modeG (settleR (addedR t g)).held g), 0):=by
  rw [request_of h hg, waitR_of h, hno]
  simp only [Option.isSome_none, Bool.false_eq_true, if_false]
  rw [if_neg hm, if_neg hl]
end Go.Proofs.Ytooaldglgkjjgaa
/- the example of chapter 9, reckoned -/
namespace Go.Proofs.Ytooaldglgkjjgaa
set_option maxRecDepth 20000

def kz (tx m : Int) : Gr:=⟨tx, 0, 0, m⟩
def exT : Tb:=⟨[kz 1 1, kz 2 1], [kz 1 2]⟩
theorem kz_ok {tx m : Int} (h : tx = 1 ∨ tx = 2) (hm : m = 1 ∨ m = 2) : GrOk (kz tx m):=⟨by show 1 ≤ tx ∧ tx ≤ 1073741824;omega, ⟨by show (0 : Int) ≤ 0;decide, by show (0 : Int) < 64;decide⟩, ⟨by show (0 : Int) ≤ 0;decide, by show (0 : Int) < 16;decide⟩, hm⟩
theorem exT_ok : TbOk exT:=by
  refine ⟨by decide, ⟨⟨fun g hg=>?_, ?_, ?_⟩, ⟨fun g hg=>?_, ?_⟩⟩⟩
  · rcases List.mem_cons.1 hg with rfl | hg
    · exact kz_ok (.inl rfl) (.inl rfl)
    · rcases List.mem_cons.1 hg with rfl | hg
      · exact kz_ok (.inr rfl) (.inl rfl)
      · cases hg
  · show List.Pairwise GLt [kz 1 1, kz 2 1]
    refine List.pairwise_cons.2 ⟨fun x hx=>?_, List.pairwise_singleton _ _⟩
    rw [List.mem_singleton.1 hx]
    exact .inr ⟨rfl, .inr ⟨rfl, by show (1 : Int) < 2;decide⟩⟩
  · show List.Pairwise (fun a b=>¬ Conf a b) [kz 1 1, kz 2 1]
    refine List.pairwise_cons.2 ⟨fun x hx hc=>?_, List.pairwise_singleton _ _⟩
    rw [List.mem_singleton.1 hx] at hc
    have:=hc.2.2.2
    exact absurd this (by show ¬ ((1 : Int) = 2 ∨ (1 : Int) = 2);decide)
  · rw [List.mem_singleton.1 (show g ∈ [kz 1 2] from hg)]
    exact ⟨kz_ok (.inl rfl) (.inr rfl), by decide⟩
  · exact List.pairwise_singleton _ _
/-- for whom one waits, in a table that is valid -/
def forC (t : Tb) (tx : Int) : List Int:=match wfind t.wait tx with
  | some g=>(t.wait.takeWhile (fun x=>!decide (x.tx = tx))).foldl (forStep g) (t.held.foldl (forStep g) [])
  | none=>[]
theorem for_of {t : Tb} (h : TbOk t) : forR t = forC t:=by
  funext tx
  unfold forR forC
  rw [waitR_of h]
  cases wfind t.wait tx <;> rfl
theorem cyc_of {t : Tb} (h : TbOk t) (tx : Int) : cycR t tx = cycGo (forC t) tx 0 (waitersL t.wait).length:=by
  unfold cycR waitersR
  rw [for_of h, if_pos (tbOkB_iff.2 h)]
theorem would_ex : wouldR exT (kz 2 2) = ([2, 1], 0):=by
  have e : requestR exT (kz 2 2) = (⟨[kz 1 1, kz 2 1], [kz 1 2, kz 2 2]⟩, false, 0):=by
    rw [request_new exT_ok (kz_ok (.inr rfl) (.inr rfl)) (by rfl) (by decide) (by decide)];rfl
  have o : TbOk ⟨[kz 1 1, kz 2 1], [kz 1 2, kz 2 2]⟩:=by have:=(request_ok exT_ok (g:=kz 2 2) (by rw [e])).1;rwa [e] at this
  unfold wouldR
  rw [e, if_pos rfl, cyc_of o]
  decide +kernel
end Go.Proofs.Ytooaldglgkjjgaa
