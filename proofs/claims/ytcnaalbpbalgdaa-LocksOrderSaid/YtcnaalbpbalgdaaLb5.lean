/- texts of a claim, one after the other: the sanity check of the laws of chapter 8, transactions that ask for one lock get it in the order in which they asked; a table that is nearly full, the law LocksLimits: for every input the call returns true, the order of transactions that ask for one lock, said in functions of their place, the bytes of a slice that came in, the law LocksOrder: for every input the call returns true -/
import Derived.Test.YtcnaalbpbalgdaaLb4
import Derived.Test.YtcnaalbpbalgdaaLb1
/- the sanity check of the laws of chapter 8 -/
namespace Go.Proofs.Ytcnaalbpbalgdaa
open Go.RowKit
set_option maxRecDepth 20000
set_option linter.unusedSimpArgs false
set_option linter.unusedVariables false

theorem build_lk1 (p : Int) (W : World) : Sem.run Try.prog (Instr.build 27 #[(0, .int .i64 p)]) W = .ok (.agg (lkCells ⟨p, 0⟩).toArray) W := by kernel_rfl
theorem build_kx (tx m : Int) (W : World) : Sem.run Try.prog (Instr.build 29 #[(0, .int .i64 tx), (1, .agg (lkCells ⟨1, 0⟩).toArray), (2, .int .i64 m)]) W = .ok (.agg (grCells (kx tx m)).toArray) W := by kernel_rfl
set_option maxHeartbeats 8000000 in
theorem awake8 (w : World) : Calls Try.prog 8 #[] w fun e w' => e = .returned (.bool true) ∧ Below w.heap.size w w' := by
  obtain ⟨t1, t2, t3, t4, ⟨e1, o1⟩, ⟨e2, o2⟩, ⟨e3, o3⟩, ⟨e4, o4⟩, e5⟩ := awake_facts
  have HE1 := Lib.hid e1
  have HE2 := Lib.hid e2
  have HE3 := Lib.hid e3
  have HE4 := Lib.hid e4
  have HE5 := Lib.hid e5
  have HO1 := Lib.hid o1.good
  have HO2 := Lib.hid o2.good
  have HO3 := Lib.hid o3.good
  have HO4 := Lib.hid o4.good
  have HK : Hid (∀ tx m, (tx = 1 ∨ tx = 2) → (m = 1 ∨ m = 2) → GoodGr (kx tx m)) := Lib.hid (fun tx m h1 h2 => (kx_ok h1 h2).good)
  have HN : Hid (GoodTb tbNil) := Lib.hid tbNil_ok.good
  clear e1 e2 e3 e4 e5 o1 o2 o3 o4
  obtain ⟨fsHUG, huHUG⟩ := under_gr
  have HUG := Lib.hid huHUG
  clear huHUG
  obtain ⟨fsHUK, huHUK⟩ := under_lk
  have HUK := Lib.hid huHUK
  clear huHUK
  obtain ⟨fsHUT, huHUT⟩ := under_tb
  have HUT := Lib.hid huHUT
  clear huHUT
  have HS0 := Lib.hid (Hp.start w)
  go_enter Try.func8, Try.ntmps8
  go_wp2_with (first | ((with_reducible refine wpList_build_v (d := some 9) 27 (.agg (lkCells (⟨1, 0⟩ : Lok)).toArray) ?_ ?_); (intro W; simp only [List.map_toArray, List.map_cons, List.map_nil]; exact build_lk1 _ W); simp only [Act.put, List.setIfInBounds_toArray, List.set_cons_zero, List.set_cons_succ]) | ((with_reducible refine wpList_alloc_ob 27 (lkCells lkNil) ?_ ?_); (exact alloc_lk); simp only [Act.put, List.setIfInBounds_toArray, List.set_cons_zero, List.set_cons_succ]) | ((with_reducible refine wpList_store_ob 27 (.tmp 1) (w.heap.size) (lkCells (⟨1, 0⟩ : Lok)) (lkCells lkNil) 27 ?_ ?_ ?_ ?_ ?_ ?_ ?_); (exact rfl); (exact rfl); (exact ((HS0.out).put 27 (lkCells lkNil)).get 0 rfl); (exact info_lk); (exact rfl); (exact (oneCell_lk _)); skip) | ((with_reducible refine wpList_build_v (d := some 11) 25 (.agg (tbCells (.slice none 0 0) (.slice none 0 0)).toArray) ?_ ?_); (intro W; simp only [List.map_toArray, List.map_cons, List.map_nil]; exact build_tb0 W); simp only [Act.put, List.setIfInBounds_toArray, List.set_cons_zero, List.set_cons_succ]) | ((with_reducible refine wpList_load_ob 27 (.tmp 1) (w.heap.size) (lkCells (⟨1, 0⟩ : Lok)) 27 HUK.out ?_ ?_ ?_ ?_ ?_); (exact rfl); (exact (((HS0.out).put 27 (lkCells lkNil)).row 0 rfl (lkCells (⟨1, 0⟩ : Lok))).get 0 rfl); (exact rfl); (exact info_lk); simp only [Act.put, List.setIfInBounds_toArray, List.set_cons_zero, List.set_cons_succ]) | ((with_reducible refine wpList_build_v (d := some 13) 29 (.agg (grCells (kx 1 1)).toArray) ?_ ?_); (intro W; simp only [List.map_toArray, List.map_cons, List.map_nil]; exact build_kx _ _ W); simp only [Act.put, List.setIfInBounds_toArray, List.set_cons_zero, List.set_cons_succ]))
  refine (tb3_as HE1.out (prequest_any (kx 1 1) _ (TbRd.nil []) (RdIn.nil _) HN.out (HK.out _ _ (by decide) (by decide)))).mono ?_
  rintro e w1 ⟨h9, v9, R1, rfl, hrd2, hin2, hnew2, hb⟩
  obtain ⟨a1, c1, rfl, _, _⟩ := hrd2.1.shape
  obtain ⟨b1, d1, rfl, _, _⟩ := hrd2.2.shape
  have Hrd1 := Lib.hid hrd2
  have HS1 : Hid (Hp w [.ob (w.heap.size) 27 (lkCells (⟨1, 0⟩ : Lok)), .rd R1] w1) := (((HS0.out).put 27 (lkCells lkNil)).row 0 rfl (lkCells (⟨1, 0⟩ : Lok))).addrd hb R1 hin2 (fun r hr => (hnew2 r hr).elim .inl (fun h => .inr (absurd h (by simp))))
  clear hb hin2 hrd2 hnew2
  clear HS0
  go_wp2_with (first | ((with_reducible refine wpList_alloc_ob 25 (tbCells (.slice none 0 0) (.slice none 0 0)) ?_ ?_); (exact alloc_tb); simp only [Act.put, List.setIfInBounds_toArray, List.set_cons_zero, List.set_cons_succ]) | ((with_reducible refine wpList_store_ob 25 (.tmp 2) (w1.heap.size) (tbCells (.slice a1 t1.held.length c1) (.slice b1 t1.wait.length d1)) (tbCells (.slice none 0 0) (.slice none 0 0)) 25 ?_ ?_ ?_ ?_ ?_ ?_ ?_); (exact rfl); (exact rfl); (exact ((HS1.out).put 25 (tbCells (.slice none 0 0) (.slice none 0 0))).get 2 rfl); (exact info_tb); (exact rfl); (exact (oneCell_tb _ _ _ _ _ _)); skip) | ((with_reducible refine wpList_load_ob 25 (.tmp 2) (w1.heap.size) (tbCells (.slice a1 t1.held.length c1) (.slice b1 t1.wait.length d1)) 25 HUT.out ?_ ?_ ?_ ?_ ?_); (exact rfl); (exact (((HS1.out).put 25 (tbCells (.slice none 0 0) (.slice none 0 0))).row 2 rfl (tbCells (.slice a1 t1.held.length c1) (.slice b1 t1.wait.length d1))).get 2 rfl); (exact rfl); (exact info_tb); simp only [Act.put, List.setIfInBounds_toArray, List.set_cons_zero, List.set_cons_succ]) | ((with_reducible refine wpList_load_ob 27 (.tmp 1) (w.heap.size) (lkCells (⟨1, 0⟩ : Lok)) 27 HUK.out ?_ ?_ ?_ ?_ ?_); (exact rfl); (exact (((HS1.out).put 25 (tbCells (.slice none 0 0) (.slice none 0 0))).row 2 rfl (tbCells (.slice a1 t1.held.length c1) (.slice b1 t1.wait.length d1))).get 0 rfl); (exact rfl); (exact info_lk); simp only [Act.put, List.setIfInBounds_toArray, List.set_cons_zero, List.set_cons_succ]) | ((with_reducible refine wpList_build_v (d := some 21) 29 (.agg (grCells (kx 2 1)).toArray) ?_ ?_); (intro W; simp only [List.map_toArray, List.map_cons, List.map_nil]; exact build_kx _ _ W); simp only [Act.put, List.setIfInBounds_toArray, List.set_cons_zero, List.set_cons_succ]))
  refine (tb3_as HE2.out (prequest_any (kx 2 1) _ Hrd1.out ((((HS1.out).put 25 (tbCells (.slice none 0 0) (.slice none 0 0))).row 2 rfl (tbCells (.slice a1 t1.held.length c1) (.slice b1 t1.wait.length d1))).reads 1 rfl) HO1.out (HK.out _ _ (by decide) (by decide)))).mono ?_
  rintro e w2 ⟨h9, v9, R2, rfl, hrd2, hin2, hnew2, hb⟩
  obtain ⟨a2, c2, rfl, _, _⟩ := hrd2.1.shape
  obtain ⟨b2, d2, rfl, _, _⟩ := hrd2.2.shape
  have Hrd2 := Lib.hid hrd2
  have HS2 : Hid (Hp w [.ob (w.heap.size) 27 (lkCells (⟨1, 0⟩ : Lok)), .rd R1, .ob (w1.heap.size) 25 (tbCells (.slice a1 t1.held.length c1) (.slice b1 t1.wait.length d1)), .rd R2] w2) := (((HS1.out).put 25 (tbCells (.slice none 0 0) (.slice none 0 0))).row 2 rfl (tbCells (.slice a1 t1.held.length c1) (.slice b1 t1.wait.length d1))).addrd hb R2 hin2 (fun r hr => (hnew2 r hr).elim .inl (fun h => .inr ⟨.rd R1, List.mem_of_getElem? (i := 1) rfl, h⟩))
  clear hb hin2 hrd2 hnew2
  clear HS1
  generalize w1.heap.size = B1 at *
  go_wp2_with (first | ((with_reducible refine wpList_store_ob 25 (.tmp 2) B1 (tbCells (.slice a2 t2.held.length c2) (.slice b2 t2.wait.length d2)) (tbCells (.slice a1 t1.held.length c1) (.slice b1 t1.wait.length d1)) 25 ?_ ?_ ?_ ?_ ?_ ?_ ?_); (exact rfl); (exact rfl); (exact (HS2.out).get 2 rfl); (exact info_tb); (exact rfl); (exact (oneCell_tb _ _ _ _ _ _)); skip) | ((with_reducible refine wpList_load_ob 25 (.tmp 2) B1 (tbCells (.slice a2 t2.held.length c2) (.slice b2 t2.wait.length d2)) 25 HUT.out ?_ ?_ ?_ ?_ ?_); (exact rfl); (exact ((HS2.out).row 2 rfl (tbCells (.slice a2 t2.held.length c2) (.slice b2 t2.wait.length d2))).get 2 rfl); (exact rfl); (exact info_tb); simp only [Act.put, List.setIfInBounds_toArray, List.set_cons_zero, List.set_cons_succ]) | ((with_reducible refine wpList_load_ob 27 (.tmp 1) (w.heap.size) (lkCells (⟨1, 0⟩ : Lok)) 27 HUK.out ?_ ?_ ?_ ?_ ?_); (exact rfl); (exact ((HS2.out).row 2 rfl (tbCells (.slice a2 t2.held.length c2) (.slice b2 t2.wait.length d2))).get 0 rfl); (exact rfl); (exact info_lk); simp only [Act.put, List.setIfInBounds_toArray, List.set_cons_zero, List.set_cons_succ]) | ((with_reducible refine wpList_build_v (d := some 29) 29 (.agg (grCells (kx 1 2)).toArray) ?_ ?_); (intro W; simp only [List.map_toArray, List.map_cons, List.map_nil]; exact build_kx _ _ W); simp only [Act.put, List.setIfInBounds_toArray, List.set_cons_zero, List.set_cons_succ]))
  refine (tb3_as HE3.out (prequest_any (kx 1 2) _ Hrd2.out (((HS2.out).row 2 rfl (tbCells (.slice a2 t2.held.length c2) (.slice b2 t2.wait.length d2))).reads 3 rfl) HO2.out (HK.out _ _ (by decide) (by decide)))).mono ?_
  rintro e w3 ⟨h9, v9, R3, rfl, hrd2, hin2, hnew2, hb⟩
  obtain ⟨a3, c3, rfl, _, _⟩ := hrd2.1.shape
  obtain ⟨b3, d3, rfl, _, _⟩ := hrd2.2.shape
  have Hrd3 := Lib.hid hrd2
  have HS3 : Hid (Hp w [.ob (w.heap.size) 27 (lkCells (⟨1, 0⟩ : Lok)), .rd R1, .ob B1 25 (tbCells (.slice a2 t2.held.length c2) (.slice b2 t2.wait.length d2)), .rd R2, .rd R3] w3) := ((HS2.out).row 2 rfl (tbCells (.slice a2 t2.held.length c2) (.slice b2 t2.wait.length d2))).addrd hb R3 hin2 (fun r hr => (hnew2 r hr).elim .inl (fun h => .inr ⟨.rd R2, List.mem_of_getElem? (i := 3) rfl, h⟩))
  clear hb hin2 hrd2 hnew2
  clear HS2
  go_wp2_with (first | ((with_reducible refine wpList_store_ob 25 (.tmp 2) B1 (tbCells (.slice a3 t3.held.length c3) (.slice b3 t3.wait.length d3)) (tbCells (.slice a2 t2.held.length c2) (.slice b2 t2.wait.length d2)) 25 ?_ ?_ ?_ ?_ ?_ ?_ ?_); (exact rfl); (exact rfl); (exact (HS3.out).get 2 rfl); (exact info_tb); (exact rfl); (exact (oneCell_tb _ _ _ _ _ _)); skip) | ((with_reducible refine wpList_load_ob 25 (.tmp 2) B1 (tbCells (.slice a3 t3.held.length c3) (.slice b3 t3.wait.length d3)) 25 HUT.out ?_ ?_ ?_ ?_ ?_); (exact rfl); (exact ((HS3.out).row 2 rfl (tbCells (.slice a3 t3.held.length c3) (.slice b3 t3.wait.length d3))).get 2 rfl); (exact rfl); (exact info_tb); simp only [Act.put, List.setIfInBounds_toArray, List.set_cons_zero, List.set_cons_succ]))
  refine (tb_as HE4.out (prelease_any 2 _ Hrd3.out (((HS3.out).row 2 rfl (tbCells (.slice a3 t3.held.length c3) (.slice b3 t3.wait.length d3))).reads 4 rfl) HO3.out)).mono ?_
  rintro e w4 ⟨h9, v9, R4, rfl, hrd2, hin2, hnew2, hb⟩
  obtain ⟨a4, c4, rfl, _, _⟩ := hrd2.1.shape
  obtain ⟨b4, d4, rfl, _, _⟩ := hrd2.2.shape
  have Hrd4 := Lib.hid hrd2
  have HS4 : Hid (Hp w [.ob (w.heap.size) 27 (lkCells (⟨1, 0⟩ : Lok)), .rd R1, .ob B1 25 (tbCells (.slice a3 t3.held.length c3) (.slice b3 t3.wait.length d3)), .rd R2, .rd R3, .rd R4] w4) := ((HS3.out).row 2 rfl (tbCells (.slice a3 t3.held.length c3) (.slice b3 t3.wait.length d3))).addrd hb R4 hin2 (fun r hr => (hnew2 r hr).elim .inl (fun h => .inr ⟨.rd R3, List.mem_of_getElem? (i := 4) rfl, h⟩))
  clear hb hin2 hrd2 hnew2
  clear HS3
  go_wp2_with (first | ((with_reducible refine wpList_store_ob 25 (.tmp 2) B1 (tbCells (.slice a4 t4.held.length c4) (.slice b4 t4.wait.length d4)) (tbCells (.slice a3 t3.held.length c3) (.slice b3 t3.wait.length d3)) 25 ?_ ?_ ?_ ?_ ?_ ?_ ?_); (exact rfl); (exact rfl); (exact (HS4.out).get 2 rfl); (exact info_tb); (exact rfl); (exact (oneCell_tb _ _ _ _ _ _)); skip) | ((with_reducible refine wpList_load_ob_w 25 (.tmp 2) B1 (tbCells (.slice a4 t4.held.length c4) (.slice b4 t4.wait.length d4)) 25 HUT.out ?_ ?_ ?_ ?_ ?_ ?_); (exact rfl); (exact rfl); (exact ((HS4.out).row 2 rfl (tbCells (.slice a4 t4.held.length c4) (.slice b4 t4.wait.length d4))).get 2 rfl); (exact rfl); (exact info_tb); simp only [Act.put, List.setIfInBounds_toArray, List.set_cons_zero, List.set_cons_succ]) | ((with_reducible refine wpList_load_ob_w 27 (.tmp 1) (w.heap.size) (lkCells (⟨1, 0⟩ : Lok)) 27 HUK.out ?_ ?_ ?_ ?_ ?_ ?_); (exact rfl); (exact rfl); (exact ((HS4.out).row 2 rfl (tbCells (.slice a4 t4.held.length c4) (.slice b4 t4.wait.length d4))).get 0 rfl); (exact rfl); (exact info_lk); simp only [Act.put, List.setIfInBounds_toArray, List.set_cons_zero, List.set_cons_succ]))
  refine ((pMode_any 1 ⟨1, 0⟩ _ Hrd4.out (((HS4.out).row 2 rfl (tbCells (.slice a4 t4.held.length c4) (.slice b4 t4.wait.length d4))).reads 5 rfl) HO4.out ⟨(by decide : (Lit.int .i64 1).wf = true), (by decide : (Lit.int .i64 0).wf = true)⟩)).mono ?_
  rintro e w5 ⟨rfl, hb⟩
  have HS5 : Hid (Hp w [.ob (w.heap.size) 27 (lkCells (⟨1, 0⟩ : Lok)), .rd R1, .ob B1 25 (tbCells (.slice a4 t4.held.length c4) (.slice b4 t4.wait.length d4)), .rd R2, .rd R3, .rd R4] w5) := ((HS4.out).row 2 rfl (tbCells (.slice a4 t4.held.length c4) (.slice b4 t4.wait.length d4))).calls hb
  clear hb
  clear HS4
  go_wp2_with fail
  have HS6 : Hid (Hp w [.ob (w.heap.size) 27 (lkCells (⟨1, 0⟩ : Lok)), .rd R1, .ob B1 25 (tbCells (.slice a4 t4.held.length c4) (.slice b4 t4.wait.length d4)), .rd R2, .rd R3, .rd R4] w5) := HS5.out
  clear HS5
  have h5 := HE5.out
  simp only [h5]
  go_wp2_with fail
  go_ret
  exact ⟨rfl, HS6.out.old⟩
end Go.Proofs.Ytcnaalbpbalgdaa
/- transactions that ask for one lock get it in the order in which they asked; a table that is nearly full -/
namespace Go.Proofs.Ytcnaalbpbalgdaa
set_option maxRecDepth 20000

/-- the grants of the transactions k + 1, k + 2 .., in these modes -/
def ordL (k : Nat) : List Int → List Gr
  | [] => []
  | m :: l => ⟨(k : Int) + 1, 3, 3, m⟩ :: ordL (k + 1) l
def runN : List Int → Nat
  | [] => 0
  | m :: l => if m = 2 then 1 else 1 + (l.takeWhile (fun x => decide (x = 1))).length
theorem runN_shared (l : List Int) : runN ((1 : Int) :: l) = (l.takeWhile (fun x => decide (x = 1))).length + 1 := by
  show (if (1 : Int) = 2 then 1 else 1 + (l.takeWhile (fun x => decide (x = 1))).length) = _
  rw [if_neg (by decide)]; omega
theorem ordL_len : ∀ (k : Nat) (l : List Int), (ordL k l).length = l.length
  | _, [] => rfl
  | k, m :: l => by rw [ordL, List.length_cons, List.length_cons, ordL_len (k + 1) l]
theorem ordL_append : ∀ (k : Nat) (a b : List Int), ordL k (a ++ b) = ordL k a ++ ordL (k + a.length) b
  | k, [], b => by simp [ordL]
  | k, m :: a, b => by
    rw [List.cons_append, ordL, ordL_append (k + 1) a b, ordL, List.cons_append, List.length_cons, show k + 1 + a.length = k + (a.length + 1) from by omega]
theorem mem_ordL : ∀ {k : Nat} {l : List Int} {x : Gr}, x ∈ ordL k l → ∃ j : Nat, k ≤ j ∧ j < k + l.length ∧ x.tx = (j : Int) + 1 ∧ x.page = 3 ∧ x.slot = 3 ∧ l[j - k]? = some x.mode
  | k, [], x, h => by cases h
  | k, m :: l, x, h => by
    rcases List.mem_cons.1 h with rfl | h
    · exact ⟨k, Nat.le_refl _, by rw [List.length_cons]; omega, rfl, rfl, rfl, by rw [Nat.sub_self]; rfl⟩
    · obtain ⟨j, h1, h2, h3, h4, h5, h6⟩ := mem_ordL h
      refine ⟨j, by omega, by rw [List.length_cons]; omega, h3, h4, h5, ?_⟩
      rw [show j - k = (j - (k + 1)) + 1 from by omega, List.getElem?_cons_succ]
      exact h6
theorem ordL_at : ∀ {k : Nat} {l : List Int} {i : Nat} {m : Int}, l[i]? = some m → (⟨((k + i : Nat) : Int) + 1, 3, 3, m⟩ : Gr) ∈ ordL k l
  | k, [], i, m, h => by simp at h
  | k, x :: l, 0, m, h => by
    obtain rfl : x = m := by simpa using h
    simp [ordL]
  | k, x :: l, i + 1, m, h => by
    have := ordL_at (k := k + 1) (l := l) (i := i) (m := m) (by simpa using h)
    rw [show k + 1 + i = k + (i + 1) from by omega] at this
    exact List.mem_cons_of_mem _ this
def M12 (l : List Int) : Prop := ∀ m ∈ l, m = 1 ∨ m = 2
theorem ordL_one : ∀ (k : Nat) (l : List Int), (ordL k l).Pairwise (fun a b => a.tx ≠ b.tx)
  | _, [] => List.Pairwise.nil
  | k, m :: l => List.pairwise_cons.2 ⟨fun x hx => by
      obtain ⟨j, h1, _, h2, _⟩ := mem_ordL hx
      show ((k : Int) + 1) ≠ x.tx
      omega, ordL_one (k + 1) l⟩
theorem ordL_in {k : Nat} {l : List Int} (hl : M12 l) (hk : k + l.length ≤ 1024) : TbIn ⟨[], ordL k l⟩ := by
  refine ⟨⟨fun g hg => (by cases hg), List.Pairwise.nil, List.Pairwise.nil⟩, ⟨fun g hg => ?_, ordL_one k l⟩⟩
  obtain ⟨j, h1, h2, h3, h4, h5, h6⟩ := mem_ordL hg
  have hm := hl g.mode (List.mem_of_getElem? h6)
  refine ⟨⟨by omega, by omega, by omega, hm⟩, ?_⟩
  show (0 : Int) < g.mode
  omega
theorem hold_end {h : List Gr} {g : Gr} (hh : ∀ x ∈ h, GLt x g) : holdR h g = h ++ [g] := by
  unfold holdR
  rw [List.filter_eq_self.2 (fun x hx => ltB_iff.2 (hh x hx)), List.filter_eq_nil_iff.2 (fun x hx hl => (hh x hx).asymm (ltB_iff.1 hl))]
theorem fold_shared : ∀ (s : List Int) (k : Nat) (h : List Gr), (∀ x ∈ s, x = 1) → (∀ x ∈ h, x.page = 3 ∧ x.slot = 3 ∧ x.mode = 1 ∧ x.tx ≤ (k : Int)) → (ordL k s).foldl stepS ⟨h, []⟩ = ⟨h ++ ordL k s, []⟩
  | [], k, h, _, _ => by simp [ordL]
  | m :: s, k, h, hs, hh => by
    obtain rfl : m = 1 := hs m (by simp)
    rw [ordL, List.foldl_cons]
    rw [stepS_pos ⟨fun x hx hc => by have := (hh x hx).2.2.1; have := hc.2.2.2; simp only at this; omega, fun x hx => by cases hx⟩]
    rw [hold_end (fun x hx => by obtain ⟨h1, h2, _, h3⟩ := hh x hx; unfold GLt; simp only; omega)]
    show (ordL (k + 1) s).foldl stepS ⟨h ++ [⟨(k : Int) + 1, 3, 3, 1⟩], []⟩ = _
    rw [fold_shared s (k + 1) _ (fun x hx => hs x (List.mem_cons_of_mem _ hx)) (fun x hx => by
      rcases List.mem_append.1 hx with hx | hx
      · obtain ⟨h1, h2, h3, h4⟩ := hh x hx
        exact ⟨h1, h2, h3, by omega⟩
      · rw [List.mem_singleton.1 hx]; exact ⟨rfl, rfl, rfl, by simp only; omega⟩)]
    rw [List.append_assoc]; rfl
theorem fold_blocked : ∀ (r : List Int) (k : Nat) (h a : List Gr), (∃ x, (x ∈ h ∨ x ∈ a) ∧ x.page = 3 ∧ x.slot = 3 ∧ x.mode = 2 ∧ x.tx ≤ (k : Int)) → (ordL k r).foldl stepS ⟨h, a⟩ = ⟨h, a ++ ordL k r⟩
  | [], k, h, a, _ => by simp [ordL]
  | m :: r, k, h, a, hx => by
    obtain ⟨x, hin, h1, h2, h3, h4⟩ := hx
    have hc : Conf x ⟨(k : Int) + 1, 3, 3, m⟩ := ⟨by simp only; omega, h1, h2, .inl h3⟩
    rw [ordL, List.foldl_cons]
    rw [stepS_neg (fun hab => hin.elim (fun hin => hab.1 x hin hc) (fun hin => hab.2 x hin hc))]
    rw [fold_blocked r (k + 1) h _ ⟨x, hin.imp id (fun h => List.mem_append.2 (.inl h)), h1, h2, h3, by omega⟩]
    rw [List.append_assoc]; rfl
def ordT (k : Nat) (l : List Int) : Tb := ⟨ordL k (l.take (runN l)), ordL (k + runN l) (l.drop (runN l))⟩
theorem takeWhile_spec (l : List Int) : (∀ x ∈ l.take (l.takeWhile (fun x => decide (x = 1))).length, x = 1) ∧ (∀ m r, l.drop (l.takeWhile (fun x => decide (x = 1))).length = m :: r → m ≠ 1) ∧ (l.takeWhile (fun x => decide (x = 1))).length ≤ l.length := by
  induction l with
  | nil => simp
  | cons x l ih =>
    rw [List.takeWhile_cons]
    by_cases h : x = 1
    · rw [decide_eq_true h]
      simp only [if_true, List.length_cons, List.take_succ_cons, List.drop_succ_cons]
      refine ⟨fun y hy => ?_, ih.2.1, by omega⟩
      rcases List.mem_cons.1 hy with rfl | hy
      · exact h
      · exact ih.1 y hy
    · rw [decide_eq_false h]
      simp only [Bool.false_eq_true, if_false, List.length_nil, List.take_zero, List.drop_zero]
      refine ⟨fun y hy => ?_, ?_, Nat.zero_le _⟩
      · cases hy
      · intro m r e
        rw [← (List.cons.inj e).1]; exact h
theorem settle_shared {k : Nat} {h : List Gr} {l : List Int} (hl : M12 l) (hh : ∀ x ∈ h, x.page = 3 ∧ x.slot = 3 ∧ x.mode = 1 ∧ x.tx ≤ (k : Int)) (hne : h ≠ []) :
    (ordL k l).foldl stepS ⟨h, []⟩ = ⟨h ++ ordL k (l.take (l.takeWhile (fun x => decide (x = 1))).length), ordL (k + (l.takeWhile (fun x => decide (x = 1))).length) (l.drop (l.takeWhile (fun x => decide (x = 1))).length)⟩ := by
  obtain ⟨h1, h2, h3⟩ := takeWhile_spec l
  generalize (l.takeWhile (fun x => decide (x = 1))).length = s at *
  have e : ordL k l = ordL k (l.take s) ++ ordL (k + s) (l.drop s) := by
    have := ordL_append k (l.take s) (l.drop s)
    rw [List.take_append_drop, List.length_take, Nat.min_eq_left h3] at this
    exact this
  rw [e, List.foldl_append, fold_shared _ k h h1 hh]
  cases hd : l.drop s with
  | nil => simp [ordL]
  | cons m r =>
    have hm : m = 2 := by
      have := hl m (List.mem_of_mem_drop (by rw [hd]; simp))
      have := h2 m r hd
      omega
    subst hm
    rw [ordL, List.foldl_cons]
    obtain ⟨y, hy⟩ : ∃ y, y ∈ h := by cases h with | nil => exact absurd rfl hne | cons y _ => exact ⟨y, by simp⟩
    obtain ⟨y1, y2, y3, y4⟩ := hh y hy
    rw [stepS_neg (fun hab => hab.1 y (List.mem_append.2 (.inl hy)) ⟨by simp only; omega, y1, y2, .inr rfl⟩)]
    show (ordL (k + s + 1) r).foldl stepS ⟨_, [] ++ [_]⟩ = _
    rw [fold_blocked r _ _ _ ⟨⟨((k + s : Nat) : Int) + 1, 3, 3, 2⟩, .inr (by simp), rfl, rfl, rfl, by simp only; omega⟩]
    rfl
theorem ordT_settle {k : Nat} {l : List Int} (hl : M12 l) : settleR ⟨[], ordL k l⟩ = ordT k l := by
  unfold settleR ordT
  cases l with
  | nil => rfl
  | cons m l =>
    show (ordL k (m :: l)).foldl stepS ⟨[], []⟩ = _
    rw [ordL, List.foldl_cons]
    have h0 : stepS ⟨[], []⟩ ⟨(k : Int) + 1, 3, 3, m⟩ = ⟨[⟨(k : Int) + 1, 3, 3, m⟩], []⟩ := stepS_pos ⟨fun x hx => (by cases hx), fun x hx => (by cases hx)⟩
    rw [h0]
    by_cases hm : m = 2
    · subst hm
      rw [fold_blocked l (k + 1) _ _ ⟨⟨(k : Int) + 1, 3, 3, 2⟩, .inl (by simp), rfl, rfl, rfl, by simp only; omega⟩]
      simp [runN, ordL]
    · have hm1 : m = 1 := by have := hl m (by simp); omega
      subst hm1
      have := settle_shared (k := k + 1) (h := [⟨(k : Int) + 1, 3, 3, 1⟩]) (l := l) (fun x hx => hl x (List.mem_cons_of_mem _ hx)) (fun x hx => by rw [List.mem_singleton.1 hx]; exact ⟨rfl, rfl, rfl, by simp only; omega⟩) (by simp)
      rw [this]
      have hr : runN ((1 : Int) :: l) = (l.takeWhile (fun x => decide (x = 1))).length + 1 := runN_shared l
      rw [hr, List.take_succ_cons, List.drop_succ_cons, ordL, List.cons_append, List.nil_append, show k + 1 + (l.takeWhile (fun x => decide (x = 1))).length = k + ((l.takeWhile (fun x => decide (x = 1))).length + 1) from by omega]
theorem runN_le (l : List Int) : runN l ≤ l.length := by
  cases l with
  | nil => exact Nat.le_refl _
  | cons m l =>
    have := (takeWhile_spec l).2.2
    show (if m = 2 then 1 else 1 + (l.takeWhile (fun x => decide (x = 1))).length) ≤ _
    rw [List.length_cons]
    split <;> omega
theorem ordT_ok {k : Nat} {l : List Int} (hl : M12 l) (hk : k + l.length ≤ 1024) : Settled (ordT k l) := by
  rw [← ordT_settle hl]
  exact settled_of (ordL_in hl hk) (by simp only [List.length_nil, ordL_len]; omega)
theorem ordT_mem {k : Nat} {l : List Int} {x : Gr} (h : x ∈ (ordT k l).held ∨ x ∈ (ordT k l).wait) : (k : Int) < x.tx ∧ x.tx ≤ ((k + l.length : Nat) : Int) := by
  unfold ordT at h
  have hr := runN_le l
  rcases h with h | h
  · obtain ⟨j, h1, h2, h3, _⟩ := mem_ordL h
    rw [List.length_take] at h2
    omega
  · obtain ⟨j, h1, h2, h3, _⟩ := mem_ordL h
    rw [List.length_drop] at h2
    omega
theorem M12.take {l : List Int} (h : M12 l) (i : Nat) : M12 (l.take i) := fun m hm => h m (List.mem_of_mem_take hm)
theorem M12.drop {l : List Int} (h : M12 l) (i : Nat) : M12 (l.drop i) := fun m hm => h m (List.mem_of_mem_drop hm)
theorem ord_request {l : List Int} (hl : M12 l) (hf : l.length ≤ 1000) {i : Nat} (hi : i < l.length) :
    (requestR (ordT 0 (l.take i)) ⟨(i : Int) + 1, 3, 3, l[i]⟩).1 = ordT 0 (l.take (i + 1)) ∧ (requestR (ordT 0 (l.take i)) ⟨(i : Int) + 1, 3, 3, l[i]⟩).2.2 = 0 := by
  have hlen : (l.take i).length = i := by rw [List.length_take]; omega
  have hs := ordT_ok (k := 0) (hl.take i) (by rw [hlen]; omega)
  have hm := hl l[i] (List.getElem_mem hi)
  have hg : GrOk ⟨(i : Int) + 1, 3, 3, l[i]⟩ := ⟨by simp only; omega, by simp only; omega, by simp only; omega, hm⟩
  have hno : ∀ x ∈ (ordT 0 (l.take i)).wait, x.tx ≠ (i : Int) + 1 := fun x hx => by
    have := ordT_mem (.inr hx); rw [hlen] at this; omega
  have hz : modeG (ordT 0 (l.take i)).held ⟨(i : Int) + 1, 3, 3, l[i]⟩ = 0 := by
    show modeR _ _ _ _ = 0
    unfold modeR
    cases hq : findK (ordT 0 (l.take i)).held ((i : Int) + 1) 3 3 with
    | none => rfl
    | some x =>
      obtain ⟨h1, h2, _⟩ := findK_some hq
      have := ordT_mem (k := 0) (.inl h1); rw [hlen] at this; omega
  have hcount : (ordT 0 (l.take i)).held.length + (ordT 0 (l.take i)).wait.length ≤ i := by
    have := runN_le (l.take i)
    unfold ordT; rw [ordL_len, ordL_len, List.length_drop, List.length_take]; omega
  rw [request_of hs.ok hg, waitR_of hs.ok, wfind_none_of hno]
  simp only [Option.isSome_none, Bool.false_eq_true, if_false]
  rw [if_neg (by rw [hz]; omega), if_neg (by omega)]
  refine ⟨?_, rfl⟩
  show settleR (addedR _ _) = _
  have hadd : addedR (ordT 0 (l.take i)) ⟨(i : Int) + 1, 3, 3, l[i]⟩ = ⟨(ordT 0 (l.take i)).held, (ordT 0 (l.take i)).wait ++ [⟨(i : Int) + 1, 3, 3, l[i]⟩]⟩ := by
    unfold addedR wplaceR
    rw [if_pos hz, List.take_length, List.drop_length]
  rw [hadd]
  have e1 : settleR ⟨(ordT 0 (l.take i)).held, (ordT 0 (l.take i)).wait ++ [⟨(i : Int) + 1, 3, 3, l[i]⟩]⟩ = stepS (ordT 0 (l.take i)) ⟨(i : Int) + 1, 3, 3, l[i]⟩ := by
    unfold settleR
    rw [List.foldl_append]
    have := fold_stuck (h := (ordT 0 (l.take i)).held) (a := []) (ordT 0 (l.take i)).wait hs.stuck
    simp only at this ⊢
    rw [this]; rfl
  rw [e1, ← ordT_settle (hl.take (i + 1)), ← ordT_settle (hl.take i)]
  have e2 : ordL 0 (l.take (i + 1)) = ordL 0 (l.take i) ++ [⟨(i : Int) + 1, 3, 3, l[i]⟩] := by
    rw [List.take_succ_eq_append_getElem hi, ordL_append, hlen, Nat.zero_add]; rfl
  rw [e2]
  unfold settleR
  rw [List.foldl_append]; rfl
theorem ordL_left {k : Nat} {l : List Int} {tx : Int} (h : tx ≤ (k : Int)) : leftTx (ordL k l) tx = ordL k l := leftTx_id (fun x hx => by obtain ⟨j, h1, _, h2, _⟩ := mem_ordL hx; omega)
theorem leftTx_head {k : Nat} {l : List Int} {m : Int} : leftTx (ordL k (m :: l)) ((k : Int) + 1) = ordL (k + 1) l := by
  rw [ordL]
  unfold leftTx
  rw [List.filter_cons, if_neg (by simp)]
  exact ordL_left (by omega)
theorem ord_release {k : Nat} {m : Int} {l : List Int} (hl : M12 (m :: l)) (hf : k + l.length + 1 ≤ 1024) : releaseR (ordT k (m :: l)) ((k : Int) + 1) = ordT (k + 1) l := by
  have hs := ordT_ok (k := k) hl (by rw [List.length_cons]; omega)
  have hl' : M12 l := fun x hx => hl x (List.mem_cons_of_mem _ hx)
  unfold releaseR
  rw [if_pos (tbOkB_iff.2 hs.ok), ← ordT_settle hl']
  by_cases hm : m = 2
  · subst hm
    have hr : runN ((2 : Int) :: l) = 1 := rfl
    have e1 : (ordT k ((2 : Int) :: l)).held = ordL k [2] := by unfold ordT; rw [hr]; rfl
    have e2 : (ordT k ((2 : Int) :: l)).wait = ordL (k + 1) l := by unfold ordT; rw [hr]; rfl
    rw [e1, e2, leftTx_head, ordL_left (by omega)]
    rfl
  · have hm1 : m = 1 := by have := hl m (by simp); omega
    subst hm1
    have hr : runN ((1 : Int) :: l) = (l.takeWhile (fun x => decide (x = 1))).length + 1 := runN_shared l
    obtain ⟨h1, h2, h3⟩ := takeWhile_spec l
    unfold ordT
    rw [hr]
    generalize (l.takeWhile (fun x => decide (x = 1))).length = s at *
    rw [List.take_succ_cons, List.drop_succ_cons]
    show settleR ⟨leftTx (ordL k (1 :: l.take s)) _, leftTx (ordL (k + (s + 1)) (l.drop s)) _⟩ = _
    rw [leftTx_head, ordL_left (by omega)]
    have e : ordL (k + 1) l = ordL (k + 1) (l.take s) ++ ordL (k + (s + 1)) (l.drop s) := by
      have := ordL_append (k + 1) (l.take s) (l.drop s)
      rw [List.take_append_drop, List.length_take, Nat.min_eq_left h3] at this
      rw [this, show k + 1 + s = k + (s + 1) from by omega]
    rw [e]
    unfold settleR
    rw [List.foldl_append, fold_shared _ (k + 1) [] h1 (fun x hx => by cases hx)]
    rfl
/-- who holds: those of the first run -/
theorem ord_mode {k : Nat} {l : List Int} (hl : M12 l) (hf : k + l.length ≤ 1024) (j : Nat) : 0 < modeT (ordT k l) ((j : Int) + 1) 3 3 ↔ k ≤ j ∧ j < k + runN l := by
  have hs := ordT_ok (k := k) hl hf
  have hr := runN_le l
  unfold modeT
  rw [if_pos (tbOkB_iff.2 hs.ok)]
  unfold modeR
  constructor
  · intro h
    cases hq : findK (ordT k l).held ((j : Int) + 1) 3 3 with
    | none => rw [hq] at h; simp at h
    | some x =>
      obtain ⟨h1, h2, _⟩ := findK_some hq
      obtain ⟨i, h3, h4, h5, _⟩ := mem_ordL (show x ∈ ordL k (l.take (runN l)) from h1)
      rw [List.length_take] at h4
      omega
  · rintro ⟨h1, h2⟩
    obtain ⟨i, rfl⟩ : ∃ i, j = k + i := ⟨j - k, by omega⟩
    have hi : i < (l.take (runN l)).length := by rw [List.length_take]; omega
    have hmem := ordL_at (k := k) (List.getElem?_eq_getElem hi)
    have hf2 := findK_mem (l := (ordT k l).held) hs.ok.tin.held.up (x := ⟨((k + i : Nat) : Int) + 1, 3, 3, (l.take (runN l))[i]⟩) hmem
    simp only at hf2
    rw [hf2]
    have := hl _ (List.mem_of_mem_take (List.getElem_mem hi))
    simp only [Option.elim_some]
    omega
theorem runN_spec {l : List Int} {k : Nat} (hk : k < l.length) (h1 : l[0]? = some 1) (h2 : ∀ q, q ≤ k → l[q]? = some 1) (h3 : k + 1 = l.length ∨ l[k + 1]? = some 2) : runN l = k + 1 := by
  cases l with
  | nil => simp at hk
  | cons m l =>
    obtain rfl : m = 1 := by simpa using h1
    rw [runN_shared]
    have : (l.takeWhile (fun x => decide (x = 1))).length = k := by
      obtain ⟨a1, a2, a3⟩ := takeWhile_spec l
      generalize (l.takeWhile (fun x => decide (x = 1))).length = s at *
      rcases Nat.lt_trichotomy s k with hlt | rfl | hgt
      · have hsl : s < l.length := by rw [List.length_cons] at hk; omega
        have h4 := h2 (s + 1) (by omega)
        rw [List.getElem?_cons_succ, List.getElem?_eq_getElem hsl] at h4
        exact absurd (Option.some.inj h4) (a2 l[s] (l.drop (s + 1)) (by rw [List.getElem_cons_drop]))
      · rfl
      · rcases h3 with h3 | h3
        · rw [List.length_cons] at h3; omega
        · rw [List.getElem?_cons_succ] at h3
          have hkl : k < l.length := by omega
          rw [List.getElem?_eq_getElem hkl] at h3
          have h5 := a1 l[k] (by rw [← List.getElem_take (h := by rw [List.length_take]; omega) (j := s)]; exact List.getElem_mem _)
          have h6 := Option.some.inj h3
          omega
    omega
end Go.Proofs.Ytcnaalbpbalgdaa
/- the law LocksLimits: for every input the call returns true -/
namespace Go.Proofs.Ytcnaalbpbalgdaa
open Go.RowKit
set_option maxRecDepth 20000
set_option linter.unusedSimpArgs false
set_option linter.unusedVariables false

theorem build_gr4 (t p s m : Int) (W : World) : Sem.run Try.prog (Instr.build 29 #[(0, .int .i64 t), (1, .agg (lkCells ⟨p, s⟩).toArray), (2, .int .i64 m)]) W = .ok (.agg (grCells ⟨t, p, s, m⟩).toArray) W := by kernel_rfl
theorem build_lk3 (p s : Int) (W : World) : Sem.run Try.prog (Instr.build 27 #[(0, .int .i64 p), (1, .int .i64 s)]) W = .ok (.agg (lkCells ⟨p, s⟩).toArray) W := by kernel_rfl
end Go.Proofs.Ytcnaalbpbalgdaa
/- the order of transactions that ask for one lock, said in functions of their place -/
namespace Go.Proofs.Ytcnaalbpbalgdaa
set_option maxRecDepth 20000

theorem order_facts (n : Nat) (m : Nat → Int) (hm : ∀ i, m i = 1 ∨ m i = 2) (hn : n ≤ 12) :
    ∃ (T U : Nat → Tb) (hb : Nat → Bool) (run : Nat → Nat), T 0 = tbNil ∧ U 0 = T n ∧ U n = tbNil ∧ (∀ i, i ≤ n → TbOk (T i)) ∧ (∀ i, i ≤ n → TbOk (U i)) ∧
      (∀ i : Nat, i < n → requestR (T i) ⟨(i : Int) + 1, 3, 3, m i⟩ = (T (i + 1), hb i, 0)) ∧ (∀ i : Nat, i < n → releaseR (U i) ((i : Int) + 1) = U (i + 1)) ∧
      (∀ i j : Nat, i ≤ n → (0 < modeT (U i) ((j : Int) + 1) 3 3 ↔ i ≤ j ∧ j < i + run i)) ∧ (∀ i, i < n → m i = 2 → run i = 1) ∧
      (∀ i k, i ≤ k → k < n → (∀ q, i ≤ q → q ≤ k → m q = 1) → (k + 1 = n ∨ m (k + 1) = 2) → run i = k + 1 - i) := by
  obtain ⟨l, hl⟩ : ∃ l, (List.range n).map m = l := ⟨_, rfl⟩
  have hlen : l.length = n := by rw [← hl, List.length_map, List.length_range]
  have hat : ∀ i, i < n → l[i]? = some (m i) := fun i hi => by rw [← hl, List.getElem?_map, List.getElem?_range hi]; rfl
  have hM : M12 l := fun x hx => by rw [← hl] at hx; obtain ⟨i, _, rfl⟩ := List.mem_map.1 hx; exact hm i
  refine ⟨fun i => ordT 0 (l.take i), fun i => ordT i (l.drop i), fun i => (requestR (ordT 0 (l.take i)) ⟨(i : Int) + 1, 3, 3, m i⟩).2.1, fun i => runN (l.drop i), ?_, ?_, ?_, ?_, ?_, ?_, ?_, ?_, ?_, ?_⟩
  · rfl
  · show ordT 0 (l.drop 0) = ordT 0 (l.take n)
    rw [List.drop_zero, ← hlen, List.take_length]
  · show ordT n (l.drop n) = tbNil
    rw [← hlen, List.drop_length]; rfl
  · intro i hi
    exact (ordT_ok (hM.take i) (by rw [List.length_take]; omega)).ok
  · intro i hi
    exact (ordT_ok (hM.drop i) (by rw [List.length_drop]; omega)).ok
  · intro i hi
    have hil : i < l.length := by omega
    have e : m i = l[i] := by have := hat i hi; rw [List.getElem?_eq_getElem hil] at this; exact (Option.some.inj this).symm
    have := ord_request hM (by omega) hil
    simp only [e]
    exact Prod.ext this.1 (Prod.ext rfl this.2)
  · intro i hi
    have hil : i < l.length := by omega
    show releaseR (ordT i (l.drop i)) _ = ordT (i + 1) (l.drop (i + 1))
    rw [List.drop_eq_getElem_cons hil]
    refine ord_release (fun x hx => hM x ?_) (by rw [List.length_drop]; omega)
    rw [← List.drop_eq_getElem_cons hil] at hx
    exact List.mem_of_mem_drop hx
  · intro i j hi
    exact ord_mode (hM.drop i) (by rw [List.length_drop]; omega) j
  · intro i hi h2
    have hil : i < l.length := by omega
    show runN (l.drop i) = 1
    rw [List.drop_eq_getElem_cons hil]
    have e : l[i] = 2 := by have := hat i hi; rw [List.getElem?_eq_getElem hil] at this; rw [Option.some.inj this]; exact h2
    rw [e]; rfl
  · intro i k hik hk hq hx
    show runN (l.drop i) = k + 1 - i
    have := runN_spec (l := l.drop i) (k := k - i) (by rw [List.length_drop]; omega) (by rw [List.getElem?_drop, Nat.add_zero, hat i (by omega), hq i (Nat.le_refl _) hik]) (fun q hqk => by rw [List.getElem?_drop, hat (i + q) (by omega), hq (i + q) (by omega) (by omega)]) (by
      rcases hx with hx | hx
      · exact .inl (by rw [List.length_drop]; omega)
      · rcases Nat.lt_or_ge (k + 1) n with h | h
        · exact .inr (by rw [List.getElem?_drop, show i + (k - i + 1) = k + 1 from by omega, hat (k + 1) h, hx])
        · exact .inl (by rw [List.length_drop]; omega))
    rw [this]; omega
end Go.Proofs.Ytcnaalbpbalgdaa
/- the bytes of a slice that came in -/
namespace Go.Proofs.Ytcnaalbpbalgdaa
open Go.RowKit
set_option maxRecDepth 20000

theorem row_bytes {w : World} {a : Option Addr} {len cap : Nat} {zs : List Int} (h : IsRow .u8 w a len cap zs) :
    len ≤ cap ∧ cap ≤ maxLen ∧ (0 < len → ∃ b off, a = some ⟨b, off, none⟩ ∧ ∀ W, Below w.heap.size w W → ∀ j, j < len → W.cell? ⟨b, off + j, none⟩ = some (.int .u8 (zs.getD j 0))) ∧ ∀ j, 0 ≤ zs.getD j 0 ∧ zs.getD j 0 ≤ 255 := by
  rcases h with ⟨rfl, rfl, rfl, rfl⟩ | ⟨x, rfl, hlc, hcm, hz, hcell, hwf⟩
  · exact ⟨Nat.le_refl _, Nat.zero_le _, fun h => absurd h (by omega), fun j => by simp⟩
  · refine ⟨hlc, hcm, fun h0 => ?_, fun j => ?_⟩
    · obtain ⟨b, off, spot⟩ := x
      have hc := hcell 0 (by omega)
      have hspot : spot = none := by simpa [Addr.add] using World.cell?_spot hc
      subst hspot
      refine ⟨b, off, rfl, fun W hb j hj => ?_⟩
      have e : (⟨b, off, none⟩ : Addr).add j = ⟨b, off + j, none⟩ := by
        simp only [Addr.add]; split
        · next h => rw [h]; rfl
        · rfl
      have := hcell j (by omega)
      rw [e] at this
      rw [hb.cell (World.block_lt_of_cell? w _ this)]
      exact this
    · rcases Nat.lt_or_ge j zs.length with hj | hj
      · have hm : zs.getD j 0 ∈ zs := by
          rw [List.getD_eq_getElem?_getD, List.getElem?_eq_getElem hj, Option.getD_some]; exact List.getElem_mem _
        obtain ⟨u, hu⟩ := byte_of_wf (hwf _ hm)
        have := u.toNat_lt
        rw [hu]
        omega
      · rw [List.getD_eq_getElem?_getD, List.getElem?_eq_none hj]; simp
end Go.Proofs.Ytcnaalbpbalgdaa
/- the law LocksOrder: for every input the call returns true -/
namespace Go.Proofs.Ytcnaalbpbalgdaa
open Go.RowKit
set_option maxRecDepth 20000
set_option linter.unusedSimpArgs false
set_option linter.unusedVariables false

theorem alloc_lk0 (w : World) : True := trivial
set_option maxHeartbeats 16000000 in
theorem order8_any (x : Option Addr) (len cap : Nat) (zs : List Int) (w : World) (hr : IsRow .u8 w x len cap zs) :
    Calls Try.prog 5 #[.slice x len cap] w fun e w' => e = .returned (.bool true) ∧ Below w.heap.size w w' := by
  obtain ⟨hlc, hcm, hby, hz⟩ := row_bytes hr
  have HBy := Lib.hid hby
  have HZ := Lib.hid hz
  obtain ⟨n, hn⟩ : ∃ n : Nat, n = min len 12 := ⟨_, rfl⟩
  obtain ⟨T, U, hb, run, fT0, fU0, fUn, fTok, fUok, fReq, fRel, fMode, fR1, fR2⟩ := order_facts n (fun i => 1 + zs.getD i 0 % 2) (fun i => by have := hz i; show 1 + zs.getD i 0 % 2 = 1 ∨ 1 + zs.getD i 0 % 2 = 2; omega) (by omega)
  have HT0 := Lib.hid fT0
  have HU0 := Lib.hid fU0
  have HUn := Lib.hid fUn
  have HTok := Lib.hid fTok
  have HUok := Lib.hid fUok
  have HReq := Lib.hid fReq
  have HRel := Lib.hid fRel
  have HMode := Lib.hid fMode
  have HR1 := Lib.hid fR1
  have HR2 := Lib.hid fR2
  have HNm := Lib.hid hn
  have HN : Hid (n ≤ 12 ∧ n ≤ len ∧ len ≤ cap) := Lib.hid (by omega)
  have hlm : (len : Int) ≤ 9223372036854775807 := by unfold maxLen at hcm; omega
  have hnm : (n : Int) ≤ 12 := by omega
  have hnl : (n : Int) ≤ (len : Int) := by omega
  clear hr hby hz hn fT0 fU0 fUn fTok fUok fReq fRel fMode fR1 fR2 hlc hcm
  obtain ⟨fsHUG, huHUG⟩ := under_gr
  have HUG := Lib.hid huHUG
  clear huHUG
  obtain ⟨fsHUK, huHUK⟩ := under_lk
  have HUK := Lib.hid huHUK
  clear huHUK
  obtain ⟨fsHUT, huHUT⟩ := under_tb
  have HUT := Lib.hid huHUT
  clear huHUT
  have HS0 := Lib.hid (Hp.start w)
  go_enter Try.func5, Try.ntmps5
  go_wp2_with fail
  refine (awake8 _).mono ?_
  rintro e w1 ⟨rfl, hbb⟩
  have HS1 : Hid (Hp w [] w1) := (HS0.out).calls hbb
  clear hbb
  clear HS0
  go_upto_region 4 with (first | ((with_reducible refine wpList_alloc_ob 25 (tbCells (.slice none 0 0) (.slice none 0 0)) ?_ ?_); (exact alloc_tb); simp only [Act.put, List.setIfInBounds_toArray, List.set_cons_zero, List.set_cons_succ]))
  have HS2 : Hid (Hp w [.ob (w1.heap.size) 25 (tbCells (.slice none 0 0) (.slice none 0 0))] (w1.alloc (.cells (tbCells (.slice none 0 0) (.slice none 0 0)).toArray 25))) := (HS1.out).put 25 (tbCells (.slice none 0 0) (.slice none 0 0))
  clear HS1
  generalize (w1.alloc (.cells (tbCells (.slice none 0 0) (.slice none 0 0)).toArray 25)) = w2 at *
  generalize w1.heap.size = B1 at *
  go_cut [4] (fun v wz => v = .int .i64 (n : Int) ∧ Hp w [.ob B1 25 (tbCells (.slice none 0 0) (.slice none 0 0))] wz)
  case first =>
    go_wp2_with fail
    all_goals go_meet
    all_goals exact ⟨by congr 1; have := HNm.out; omega, HS2.out⟩
  case rest =>
    obtain ⟨rfl, hs⟩ := hcut
    have HS4 : Hid (Hp w [.ob B1 25 (tbCells (.slice none 0 0) (.slice none 0 0))] wc) := hs
    clear hs HS2
    generalize wc = w5 at *
    go_upto_region 6 with (first | ((with_reducible refine wpList_build_v (d := some 18) 27 (.agg (lkCells (⟨3, 3⟩ : Lok)).toArray) ?_ ?_); (intro W; simp only [List.map_toArray, List.map_cons, List.map_nil]; exact build_lk3 _ _ W); simp only [Act.put, List.setIfInBounds_toArray, List.set_cons_zero, List.set_cons_succ]) | ((with_reducible refine wpList_alloc_ob 27 (lkCells lkNil) ?_ ?_); (exact alloc_lk); simp only [Act.put, List.setIfInBounds_toArray, List.set_cons_zero, List.set_cons_succ]) | ((with_reducible refine wpList_store_ob 27 (.tmp 5) (w5.heap.size) (lkCells (⟨3, 3⟩ : Lok)) (lkCells lkNil) 27 ?_ ?_ ?_ ?_ ?_ ?_ ?_); (exact rfl); (exact rfl); (exact ((HS4.out).put 27 (lkCells lkNil)).get 1 rfl); (exact info_lk); (exact rfl); (exact (oneCell_lk _)); skip))
    have HS3 : Hid (Hp w [.ob B1 25 (tbCells (.slice none 0 0) (.slice none 0 0)), .ob (w5.heap.size) 27 (lkCells (⟨3, 3⟩ : Lok))] ((w5.alloc (.cells (lkCells lkNil).toArray 27)).setRow (w5.heap.size) (lkCells (⟨3, 3⟩ : Lok)).toArray)) := ((HS4.out).put 27 (lkCells lkNil)).row 1 rfl (lkCells (⟨3, 3⟩ : Lok))
    clear HS4
    generalize ((w5.alloc (.cells (lkCells lkNil).toArray 27)).setRow (w5.heap.size) (lkCells (⟨3, 3⟩ : Lok)).toArray) = w3 at *
    generalize w5.heap.size = B2 at *
    go_wp2_with fail
    go_loopw [6] (fun iv wr => ∃ (i : Nat) (a b : Option Addr) (c d : Nat) (R : List Rng), iv = .int .i64 i ∧ i ≤ n ∧ TbRd (.slice a (T i).held.length c) (.slice b (T i).wait.length d) (T i) R ∧ Hp w [.ob B1 25 (tbCells (.slice a (T i).held.length c) (.slice b (T i).wait.length d)), .ob B2 27 (lkCells ⟨3, 3⟩), .rd R] wr) (fun iv _ => n - (intOf iv).toNat)
    case atStart =>
      refine ⟨0, none, none, 0, 0, [], rfl, Nat.zero_le _, ?_, ?_⟩
      · rw [HT0.out]; exact TbRd.nil _
      · rw [HT0.out]; exact HS3.out.addrd (Below.refl _ _) [] (RdIn.nil _) (by simp)
    case round =>
      clear HS3
      obtain ⟨i, a, b, c, d, R, rfl, hi, hrd, hs⟩ := hrel
      have HY := Lib.hid hs
      have HRd := Lib.hid hrd
      clear hs hrd
      by_cases hlt : i < n
      · obtain ⟨b0, off0, rfl, hcell⟩ := HBy.out (by have := HN.out; omega)
        have HCe := Lib.hid hcell
        have HLt := Lib.hid hlt
        have HZi := Lib.hid (HZ.out i)
        have hii : (i : Int) < (len : Int) := by have := HN.out; omega
        have hin : (i : Int) < (n : Int) := by omega
        have hi0 : (0 : Int) ≤ (i : Int) := by omega
        have HRq := Lib.hid (HReq.out i hlt)
        have HTg := Lib.hid (HTok.out i (Nat.le_of_lt hlt)).good
        obtain ⟨z, hz⟩ : ∃ z, zs.getD i 0 = z := ⟨_, rfl⟩
        rw [hz] at HRq HZi
        obtain ⟨E1, hE⟩ : ∃ E1, z % 2 = E1 := ⟨_, rfl⟩
        obtain ⟨m1, hm⟩ : ∃ m1, 1 + E1 = m1 := ⟨_, rfl⟩
        rw [hE, hm] at HRq
        have q1 : z.tmod 2 = E1 := by rw [← hE]; exact Int.tmod_eq_emod_of_nonneg HZi.out.1
        have q2 : IntKind.i64.wrap z = z := IntWalk.i64_in _ (by have := HZi.out; omega)
        have q3 : IntKind.i64.wrap m1 = m1 := IntWalk.i64_in _ (by omega)
        have q4 : IntKind.i64.wrap ((i : Int) + 1) = (i : Int) + 1 := IntWalk.i64_in _ (by omega)
        have HG : Hid (GoodGr ⟨(i : Int) + 1, 3, 3, m1⟩) := Lib.hid ⟨lk_wf ⟨by show _ ≤ (i : Int) + 1; omega, by show (i : Int) + 1 ≤ _; omega⟩, by show (Lit.int .i64 3).wf = true; decide, by show (Lit.int .i64 3).wf = true; decide, lk_wf ⟨by show _ ≤ m1; omega, by show m1 ≤ _; omega⟩⟩
        have HCi : Hid (∀ W, Below w.heap.size w W → W.cell? ⟨b0, off0 + i, none⟩ = some (.int .u8 z)) := Lib.hid (fun W h => by rw [← hz]; exact HCe.out W h i (by have := HN.out; omega))
        clear hcell hlt hi hz hE
        go_upto_region 9 with (fail)
        refine wp_region_held_drew (S := fun w' => w'.rangeAt B1 0 (tbCells (.slice a (T i).held.length c) (.slice b (T i).wait.length d)) ∧ w'.rangeAt B2 0 (lkCells (⟨3, 3⟩ : Lok)) ∧ w'.cell? ⟨b0, off0 + i, none⟩ = some (.int .u8 z)) (by kernel_rfl) (⟨(fun j v hv => by rw [Nat.zero_add]; exact ((HY.out).drew).at 0 rfl j hv), (fun j v hv => by rw [Nat.zero_add]; exact ((HY.out).drew).at 1 rfl j hv), (HCi.out _ ((HY.out).drew).old)⟩) (fun hHeld => ?_)
        refine wpAnyH_take (i := 0) (oi := { dst := some 25, op := Op.load 25 (Operand.tmp 3), type := 25, pos := "law.go:125", after := #[], guard := none }) rfl (by kernel_rfl) (by kernel_rfl) (by kernel_rfl) (fun _ _ _ h => h) (yieldsIf_load_mid (by rfl) 25 (.tmp 3) rfl B1 (0) rfl (tbCells (.slice a (T i).held.length c) (.slice b (T i).wait.length d)) _ (fun _ h => h.1) HUT.out rfl (info_tb)) hHeld ?_
        try simp only [Act.put, List.setIfInBounds_toArray, List.set_cons_zero, List.set_cons_succ]
        refine wpAnyH_take (i := 1) (oi := { dst := some 26, op := Op.move (Operand.tmp 6), type := 3, pos := "law.go:125", after := #[], guard := none }) (v := ?q2v) rfl (by kernel_rfl) (by kernel_rfl) (by kernel_rfl) (fun _ _ _ h => h) (Or.inl ⟨by rfl, ?q2h⟩) hHeld ?q2r
        case q2h => (intro wq hSw; clear hSw; go_simp; try with_reducible rfl)
        try simp only [Act.put, List.setIfInBounds_toArray, List.set_cons_zero, List.set_cons_succ]
        refine wpAnyH_take (i := 2) (oi := { dst := some 27, op := Op.binOp BinOp.add 3 (Operand.tmp 26) (Operand.const (Value.int IntKind.i64 1)) 3, type := 3, pos := "law.go:125", after := #[{ on := 1, ground := Ground.data }], guard := none }) (v := ?q3v) rfl (by kernel_rfl) (by kernel_rfl) (by kernel_rfl) (fun _ _ _ h => h) (Or.inl ⟨by rfl, ?q3h⟩) hHeld ?q3r
        case q3h => (intro wq hSw; clear hSw; go_simp; try with_reducible rfl)
        try simp only [Act.put, List.setIfInBounds_toArray, List.set_cons_zero, List.set_cons_succ]
        refine wpAnyH_take (i := 3) (oi := { dst := some 28, op := Op.load 27 (Operand.tmp 5), type := 27, pos := "law.go:125", after := #[], guard := none }) rfl (by kernel_rfl) (by kernel_rfl) (by kernel_rfl) (fun _ _ _ h => h) (yieldsIf_load_mid (by rfl) 27 (.tmp 5) rfl B2 (0) rfl (lkCells (⟨3, 3⟩ : Lok)) _ (fun _ h => h.2.1) HUK.out rfl (info_lk)) hHeld ?_
        try simp only [Act.put, List.setIfInBounds_toArray, List.set_cons_zero, List.set_cons_succ]
        refine wpAnyH_take (i := 4) (oi := { dst := some 29, op := Op.move (Operand.tmp 0), type := 22, pos := "law.go:125", after := #[], guard := none }) (v := ?q5v) rfl (by kernel_rfl) (by kernel_rfl) (by kernel_rfl) (fun _ _ _ h => h) (Or.inl ⟨by rfl, ?q5h⟩) hHeld ?q5r
        case q5h => (intro wq hSw; clear hSw; go_simp; try with_reducible rfl)
        try simp only [Act.put, List.setIfInBounds_toArray, List.set_cons_zero, List.set_cons_succ]
        refine wpAnyH_take (i := 5) (oi := { dst := some 30, op := Op.move (Operand.tmp 6), type := 3, pos := "law.go:125", after := #[], guard := none }) (v := ?q6v) rfl (by kernel_rfl) (by kernel_rfl) (by kernel_rfl) (fun _ _ _ h => h) (Or.inl ⟨by rfl, ?q6h⟩) hHeld ?q6r
        case q6h => (intro wq hSw; clear hSw; go_simp; try with_reducible rfl)
        try simp only [Act.put, List.setIfInBounds_toArray, List.set_cons_zero, List.set_cons_succ]
        refine wpAnyH_take (i := 6) (oi := { dst := some 31, op := Op.indexAddr 22 (Operand.tmp 29) (Operand.tmp 30), type := 0, pos := "law.go:125", after := #[{ on := 4, ground := Ground.data }, { on := 5, ground := Ground.data }], guard := none }) (v := ?q7v) rfl (by kernel_rfl) (by kernel_rfl) (by kernel_rfl) (fun _ _ _ h => h) (Or.inl ⟨by rfl, ?q7h⟩) hHeld ?q7r
        case q7h => (intro wq hSw; clear hSw; go_simp; try with_reducible rfl)
        try simp only [Act.put, List.setIfInBounds_toArray, List.set_cons_zero, List.set_cons_succ]
        refine wpAnyH_take (i := 7) (oi := { dst := some 32, op := Op.load 5 (Operand.tmp 31), type := 5, pos := "law.go:125", after := #[{ on := 6, ground := Ground.data }], guard := none }) (v := .int .u8 z) rfl (by kernel_rfl) (by kernel_rfl) (by kernel_rfl) (fun _ _ _ h => h) (Or.inl ⟨by rfl, ?q8h⟩) hHeld ?q8r
        case q8h => (intro wq hSw; have lq := hSw.2.2; clear hSw; go_simp; try with_reducible rfl)
        try simp only [Act.put, List.setIfInBounds_toArray, List.set_cons_zero, List.set_cons_succ]
        refine wpAnyH_take (i := 8) (oi := { dst := some 33, op := Op.convert 5 3 (Operand.tmp 32), type := 3, pos := "law.go:125", after := #[{ on := 7, ground := Ground.data }], guard := none }) (v := ?q9v) rfl (by kernel_rfl) (by kernel_rfl) (by kernel_rfl) (fun _ _ _ h => h) (Or.inl ⟨by rfl, ?q9h⟩) hHeld ?q9r
        case q9h => (intro wq hSw; clear hSw; go_simp; try with_reducible rfl)
        try simp only [Act.put, List.setIfInBounds_toArray, List.set_cons_zero, List.set_cons_succ]
        refine wpAnyH_take (i := 9) (oi := { dst := some 34, op := Op.binOp BinOp.rem 3 (Operand.tmp 33) (Operand.const (Value.int IntKind.i64 2)) 3, type := 3, pos := "law.go:125", after := #[{ on := 8, ground := Ground.data }], guard := none }) (v := ?q10v) rfl (by kernel_rfl) (by kernel_rfl) (by kernel_rfl) (fun _ _ _ h => h) (Or.inl ⟨by rfl, ?q10h⟩) hHeld ?q10r
        case q10h => (intro wq hSw; clear hSw; go_simp; try with_reducible rfl)
        try simp only [Act.put, List.setIfInBounds_toArray, List.set_cons_zero, List.set_cons_succ]
        refine wpAnyH_take (i := 10) (oi := { dst := some 35, op := Op.binOp BinOp.add 3 (Operand.const (Value.int IntKind.i64 1)) (Operand.tmp 34) 3, type := 3, pos := "law.go:125", after := #[{ on := 9, ground := Ground.data }], guard := none }) (v := ?q11v) rfl (by kernel_rfl) (by kernel_rfl) (by kernel_rfl) (fun _ _ _ h => h) (Or.inl ⟨by rfl, ?q11h⟩) hHeld ?q11r
        case q11h => (intro wq hSw; clear hSw; go_simp; try with_reducible rfl)
        try simp only [Act.put, List.setIfInBounds_toArray, List.set_cons_zero, List.set_cons_succ]
        refine wpAnyH_take (i := 11) (oi := { dst := some 36, op := Op.build 29 #[(0, Operand.tmp 27), (1, Operand.tmp 28), (2, Operand.tmp 35)], type := 29, pos := "law.go:125", after := #[{ on := 2, ground := Ground.data }, { on := 3, ground := Ground.data }, { on := 10, ground := Ground.data }], guard := none }) rfl (by kernel_rfl) (by kernel_rfl) (by kernel_rfl) (fun _ _ _ h => h) (yieldsIf_build_v (by rfl) 29 (.agg (grCells (⟨(i : Int) + 1, 3, 3, m1⟩ : Gr)).toArray) rfl (fun W => by simp only [List.map_toArray, List.map_cons, List.map_nil]; exact build_gr4 _ _ _ _ W)) hHeld ?_
        try simp only [Act.put, List.setIfInBounds_toArray, List.set_cons_zero, List.set_cons_succ]
        refine wpAnyH_ready (rs := [12, 17]) (by kernel_rfl) (by simp) ?_
        refine AllReadyH.cons (o := { dst := some 37, op := Op.call { callee := Callee.value (Operand.func 17), args := #[Operand.tmp 25, Operand.tmp 36], argTypes := #[25, 29] }, type := 41, pos := "law.go:125", after := #[{ on := 0, ground := Ground.data }, { on := 11, ground := Ground.data }], guard := none }) rfl (fun K hK => ?_) (AllReadyH.cons (o := { dst := some 7, op := Op.alloc 25, type := 0, pos := "law.go:125", after := #[], guard := none }) rfl (fun K hK => ?_) (AllReadyH.nil))
        · go_simp
          go_wp2_with (go_at_call 17; refine (tb3_as HRq.out (prequest_any ⟨(i : Int) + 1, 3, 3, m1⟩ _ HRd.out (((HY.out).drew).reads 2 rfl) HTg.out HG.out)).mono ?_; rintro e w41 ⟨h9, v9, R9, rfl, hrd2, hin2, hnew2, hbb⟩)
          obtain ⟨a9, c9, rfl, _, _⟩ := hrd2.1.shape
          obtain ⟨b9, d9, rfl, _, _⟩ := hrd2.2.shape
          have Hrd9 := Lib.hid hrd2
          have HS41 : Hid (Hp w [.ob B1 25 (tbCells (.slice a (T i).held.length c) (.slice b (T i).wait.length d)), .ob B2 27 (lkCells (⟨3, 3⟩ : Lok)), .rd R, .rd R9] w41) := ((HY.out).drew).addrd hbb R9 hin2 (fun r hr => (hnew2 r hr).elim .inl (fun h => .inr ⟨.rd R, List.mem_of_getElem? (i := 2) rfl, h⟩))
          refine hK.out _ _ (⟨(fun j v hv => by rw [Nat.zero_add]; exact (HS41.out).at 0 rfl j hv), (fun j v hv => by rw [Nat.zero_add]; exact (HS41.out).at 1 rfl j hv), (HCi.out _ (HS41.out).old)⟩) (fun hHeld => ?_)
          clear hK K hbb hin2 hrd2 hnew2
          try simp only [Act.put, List.setIfInBounds_toArray, List.set_cons_zero, List.set_cons_succ]
          refine wpAnyH_take (i := 13) (oi := { dst := some 24, op := Op.move (Operand.tmp 37), type := 41, pos := "law.go:125", after := #[{ on := 12, ground := Ground.data }], guard := none }) (v := ?q13v) rfl (by kernel_rfl) (by kernel_rfl) (by kernel_rfl) (fun _ _ _ h => h) (Or.inl ⟨by rfl, ?q13h⟩) hHeld ?q13r
          case q13h => (intro wq hSw; clear hSw; go_simp; try with_reducible rfl)
          try simp only [Act.put, List.setIfInBounds_toArray, List.set_cons_zero, List.set_cons_succ]
          refine wpAnyH_take (i := 14) (oi := { dst := some 38, op := Op.extract (Operand.tmp 24) 0, type := 25, pos := "law.go:125", after := #[{ on := 13, ground := Ground.data }], guard := none }) (v := .agg (tbCells (.slice a9 (T (i + 1)).held.length c9) (.slice b9 (T (i + 1)).wait.length d9)).toArray) rfl (by kernel_rfl) (by kernel_rfl) (by kernel_rfl) (fun _ _ _ h => h) (Or.inl ⟨by rfl, ?q14h⟩) hHeld ?q14r
          case q14h => (intro wq hSw; clear hSw; go_simp; try with_reducible rfl)
          try simp only [Act.put, List.setIfInBounds_toArray, List.set_cons_zero, List.set_cons_succ]
          refine wpAnyH_take (i := 15) (oi := { dst := some 39, op := Op.extract (Operand.tmp 24) 1, type := 4, pos := "law.go:125", after := #[{ on := 13, ground := Ground.data }, { on := 18, ground := Ground.gcOnly Departure.lateStores }], guard := none }) (v := .bool (hb i)) rfl (by kernel_rfl) (by kernel_rfl) (by kernel_rfl) (fun _ _ _ h => h) (Or.inl ⟨by rfl, ?q15h⟩) hHeld ?q15r
          case q15h => (intro wq hSw; clear hSw; go_simp; try with_reducible rfl)
          try simp only [Act.put, List.setIfInBounds_toArray, List.set_cons_zero, List.set_cons_succ]
          refine wpAnyH_take (i := 16) (oi := { dst := some 40, op := Op.extract (Operand.tmp 24) 2, type := 40, pos := "law.go:125", after := #[{ on := 13, ground := Ground.data }, { on := 19, ground := Ground.gcOnly Departure.lateStores }], guard := none }) (v := .int .i64 0) rfl (by kernel_rfl) (by kernel_rfl) (by kernel_rfl) (fun _ _ _ h => h) (Or.inl ⟨by rfl, ?q16h⟩) hHeld ?q16r
          case q16h => (intro wq hSw; clear hSw; go_simp; try with_reducible rfl)
          try simp only [Act.put, List.setIfInBounds_toArray, List.set_cons_zero, List.set_cons_succ]
          refine wpAnyH_ready (rs := [17]) (by kernel_rfl) (by simp) ?_
          refine AllReadyH.cons (o := { dst := some 7, op := Op.alloc 25, type := 0, pos := "law.go:125", after := #[], guard := none }) rfl (fun K hK => ?_) (AllReadyH.nil)
          rw [if_pos (by rfl)]
          refine wp_alloc_ob 25 (tbCells (.slice none 0 0) (.slice none 0 0)) rfl alloc_tb ?_
          have HS42 : Hid (Hp w [.ob B1 25 (tbCells (.slice a (T i).held.length c) (.slice b (T i).wait.length d)), .ob B2 27 (lkCells (⟨3, 3⟩ : Lok)), .rd R, .rd R9, .ob (w41.heap.size) 25 (tbCells (.slice none 0 0) (.slice none 0 0))] (w41.alloc (.cells (tbCells (.slice none 0 0) (.slice none 0 0)).toArray 25))) := (HS41.out).put 25 (tbCells (.slice none 0 0) (.slice none 0 0))
          refine hK.out _ _ (⟨(fun j v hv => by rw [Nat.zero_add]; exact (HS42.out).at 0 rfl j hv), (fun j v hv => by rw [Nat.zero_add]; exact (HS42.out).at 1 rfl j hv), (HCi.out _ (HS42.out).old)⟩) (fun hHeld => ?_)
          clear hK K
          generalize (w41.alloc (.cells (tbCells (.slice none 0 0) (.slice none 0 0)).toArray 25)) = w42 at *
          generalize w41.heap.size = B41 at *
          try simp only [Act.put, List.setIfInBounds_toArray, List.set_cons_zero, List.set_cons_succ]
          refine wpAnyH_ready (rs := [18]) (by kernel_rfl) (by simp) ?_
          refine AllReadyH.cons (o := { dst := none, op := Op.store 25 (Operand.tmp 7) (Operand.tmp 38), type := 0, pos := "law.go:125", after := #[{ on := 17, ground := Ground.data }, { on := 14, ground := Ground.data }, { on := 12, ground := Ground.chain }, { on := 0, ground := Ground.phase }, { on := 1, ground := Ground.phase }, { on := 2, ground := Ground.phase }, { on := 3, ground := Ground.phase }, { on := 4, ground := Ground.phase }, { on := 5, ground := Ground.phase }, { on := 6, ground := Ground.phase }, { on := 7, ground := Ground.phase }, { on := 8, ground := Ground.phase }, { on := 9, ground := Ground.phase }, { on := 10, ground := Ground.phase }, { on := 11, ground := Ground.phase }, { on := 12, ground := Ground.phase }, { on := 13, ground := Ground.phase }, { on := 14, ground := Ground.phase }, { on := 15, ground := Ground.textOnly Departure.lateStores }, { on := 16, ground := Ground.textOnly Departure.lateStores }, { on := 17, ground := Ground.phase }], guard := none }) rfl (fun K hK => ?_) (AllReadyH.nil)
          rw [if_pos (by rfl)]
          refine wp_store_ob 25 (.tmp 7) (.tmp 38) B41 (tbCells (.slice a9 (T (i + 1)).held.length c9) (.slice b9 (T (i + 1)).wait.length d9)) (tbCells (.slice none 0 0) (.slice none 0 0)) 25 rfl rfl rfl rfl ((HS42.out).get 4 rfl) (info_tb) (rfl) ((oneCell_tb _ _ _ _ _ _)) ?_
          have HS43 : Hid (Hp w [.ob B1 25 (tbCells (.slice a (T i).held.length c) (.slice b (T i).wait.length d)), .ob B2 27 (lkCells (⟨3, 3⟩ : Lok)), .rd R, .rd R9, .ob B41 25 (tbCells (.slice a9 (T (i + 1)).held.length c9) (.slice b9 (T (i + 1)).wait.length d9))] (w42.setRow B41 (tbCells (.slice a9 (T (i + 1)).held.length c9) (.slice b9 (T (i + 1)).wait.length d9)).toArray)) := (HS42.out).row 4 rfl (tbCells (.slice a9 (T (i + 1)).held.length c9) (.slice b9 (T (i + 1)).wait.length d9))
          refine hK.out _ _ (⟨(fun j v hv => by rw [Nat.zero_add]; exact (HS43.out).at 0 rfl j hv), (fun j v hv => by rw [Nat.zero_add]; exact (HS43.out).at 1 rfl j hv), (HCi.out _ (HS43.out).old)⟩) (fun hHeld => ?_)
          clear hK K
          generalize (w42.setRow B41 (tbCells (.slice a9 (T (i + 1)).held.length c9) (.slice b9 (T (i + 1)).wait.length d9)).toArray) = w43 at *
          try simp only [Act.put, List.setIfInBounds_toArray, List.set_cons_zero, List.set_cons_succ]
          refine wpAnyH_take (i := 19) (oi := { dst := some 8, op := Op.assign (Operand.tmp 39), type := 4, pos := "law.go:125", after := #[{ on := 15, ground := Ground.data }, { on := 18, ground := Ground.chain }, { on := 0, ground := Ground.phase }, { on := 1, ground := Ground.phase }, { on := 2, ground := Ground.phase }, { on := 3, ground := Ground.phase }, { on := 4, ground := Ground.phase }, { on := 5, ground := Ground.phase }, { on := 6, ground := Ground.phase }, { on := 7, ground := Ground.phase }, { on := 8, ground := Ground.phase }, { on := 9, ground := Ground.phase }, { on := 10, ground := Ground.phase }, { on := 11, ground := Ground.phase }, { on := 12, ground := Ground.phase }, { on := 13, ground := Ground.phase }, { on := 14, ground := Ground.phase }, { on := 15, ground := Ground.phase }, { on := 16, ground := Ground.textOnly Departure.lateStores }, { on := 17, ground := Ground.phase }, { on := 18, ground := Ground.phase }], guard := none }) (v := ?q17v) rfl (by kernel_rfl) (by kernel_rfl) (by kernel_rfl) (fun _ _ _ h => h) (Or.inl ⟨by rfl, ?q17h⟩) hHeld ?q17r
          case q17h => (intro wq hSw; clear hSw; go_simp; try with_reducible rfl)
          try simp only [Act.put, List.setIfInBounds_toArray, List.set_cons_zero, List.set_cons_succ]
          refine wpAnyH_take (i := 20) (oi := { dst := some 9, op := Op.assign (Operand.tmp 40), type := 40, pos := "law.go:125", after := #[{ on := 16, ground := Ground.data }, { on := 19, ground := Ground.chain }, { on := 0, ground := Ground.phase }, { on := 1, ground := Ground.phase }, { on := 2, ground := Ground.phase }, { on := 3, ground := Ground.phase }, { on := 4, ground := Ground.phase }, { on := 5, ground := Ground.phase }, { on := 6, ground := Ground.phase }, { on := 7, ground := Ground.phase }, { on := 8, ground := Ground.phase }, { on := 9, ground := Ground.phase }, { on := 10, ground := Ground.phase }, { on := 11, ground := Ground.phase }, { on := 12, ground := Ground.phase }, { on := 13, ground := Ground.phase }, { on := 14, ground := Ground.phase }, { on := 15, ground := Ground.phase }, { on := 16, ground := Ground.phase }, { on := 17, ground := Ground.phase }, { on := 18, ground := Ground.phase }, { on := 19, ground := Ground.phase }], guard := none }) (v := ?q18v) rfl (by kernel_rfl) (by kernel_rfl) (by kernel_rfl) (fun _ _ _ h => h) (Or.inl ⟨by rfl, ?q18h⟩) hHeld ?q18r
          case q18h => (intro wq hSw; clear hSw; go_simp; try with_reducible rfl)
          try simp only [Act.put, List.setIfInBounds_toArray, List.set_cons_zero, List.set_cons_succ]
          refine wpAnyH_done (by kernel_rfl) ?_ _
          clear hHeld
          go_upto_region 12 with (fail)
          go_wp2_with (first | ((with_reducible refine wpList_load_ob 25 (.tmp 7) B41 (tbCells (.slice a9 (T (i + 1)).held.length c9) (.slice b9 (T (i + 1)).wait.length d9)) 25 HUT.out ?_ ?_ ?_ ?_ ?_); (exact rfl); (exact (HS43.out).get 4 rfl); (exact rfl); (exact info_tb); simp only [Act.put, List.setIfInBounds_toArray, List.set_cons_zero, List.set_cons_succ]) | ((with_reducible refine wpList_store_ob 25 (.tmp 3) B1 (tbCells (.slice a9 (T (i + 1)).held.length c9) (.slice b9 (T (i + 1)).wait.length d9)) (tbCells (.slice a (T i).held.length c) (.slice b (T i).wait.length d)) 25 ?_ ?_ ?_ ?_ ?_ ?_ ?_); (exact rfl); (exact rfl); (exact (HS43.out).get 0 rfl); (exact info_tb); (exact rfl); (exact (oneCell_tb _ _ _ _ _ _)); skip))
          have HS44 : Hid (Hp w [.ob B1 25 (tbCells (.slice a9 (T (i + 1)).held.length c9) (.slice b9 (T (i + 1)).wait.length d9)), .ob B2 27 (lkCells (⟨3, 3⟩ : Lok)), .rd R, .rd R9, .ob B41 25 (tbCells (.slice a9 (T (i + 1)).held.length c9) (.slice b9 (T (i + 1)).wait.length d9))] (w43.setRow B1 (tbCells (.slice a9 (T (i + 1)).held.length c9) (.slice b9 (T (i + 1)).wait.length d9)).toArray)) := (HS43.out).row 0 rfl (tbCells (.slice a9 (T (i + 1)).held.length c9) (.slice b9 (T (i + 1)).wait.length d9))
          clear HS43
          generalize (w43.setRow B1 (tbCells (.slice a9 (T (i + 1)).held.length c9) (.slice b9 (T (i + 1)).wait.length d9)).toArray) = w44 at *
          have HS45 : Hid (Hp w [.ob B1 25 (tbCells (.slice a9 (T (i + 1)).held.length c9) (.slice b9 (T (i + 1)).wait.length d9)), .ob B2 27 (lkCells (⟨3, 3⟩ : Lok)), .rd R9] w44) := HS44.out.pull [0, 1, 3] rfl (pull_nd HS44.out.nd [0, 1, 3] rfl (by decide))
          clear HS44
          go_wp2_with fail
          go_roundw
          case rel => exact ⟨i + 1, _, _, _, _, R9, by go_num, HLt.out, Hrd9.out, HS45.out⟩
          case measure => simp [intOf]; try (have := HLt.out; omega)
        · rw [if_pos (by rfl)]
          refine wp_alloc_ob 25 (tbCells (.slice none 0 0) (.slice none 0 0)) rfl alloc_tb ?_
          have HS41 : Hid (Hp w [.ob B1 25 (tbCells (.slice a (T i).held.length c) (.slice b (T i).wait.length d)), .ob B2 27 (lkCells (⟨3, 3⟩ : Lok)), .rd R, .ob (wr.drew.heap.size) 25 (tbCells (.slice none 0 0) (.slice none 0 0))] (wr.drew.alloc (.cells (tbCells (.slice none 0 0) (.slice none 0 0)).toArray 25))) := ((HY.out).drew).put 25 (tbCells (.slice none 0 0) (.slice none 0 0))
          refine hK.out _ _ (⟨(fun j v hv => by rw [Nat.zero_add]; exact (HS41.out).at 0 rfl j hv), (fun j v hv => by rw [Nat.zero_add]; exact (HS41.out).at 1 rfl j hv), (HCi.out _ (HS41.out).old)⟩) (fun hHeld => ?_)
          clear hK K
          generalize (wr.drew.alloc (.cells (tbCells (.slice none 0 0) (.slice none 0 0)).toArray 25)) = w41 at *
          generalize wr.drew.heap.size = B41 at *
          try simp only [Act.put, List.setIfInBounds_toArray, List.set_cons_zero, List.set_cons_succ]
          refine wpAnyH_ready (rs := [12]) (by kernel_rfl) (by simp) ?_
          refine AllReadyH.cons (o := { dst := some 37, op := Op.call { callee := Callee.value (Operand.func 17), args := #[Operand.tmp 25, Operand.tmp 36], argTypes := #[25, 29] }, type := 41, pos := "law.go:125", after := #[{ on := 0, ground := Ground.data }, { on := 11, ground := Ground.data }], guard := none }) rfl (fun K hK => ?_) (AllReadyH.nil)
          go_simp
          go_wp2_with (go_at_call 17; refine (tb3_as HRq.out (prequest_any ⟨(i : Int) + 1, 3, 3, m1⟩ _ HRd.out ((HS41.out).reads 2 rfl) HTg.out HG.out)).mono ?_; rintro e w42 ⟨h9, v9, R9, rfl, hrd2, hin2, hnew2, hbb⟩)
          obtain ⟨a9, c9, rfl, _, _⟩ := hrd2.1.shape
          obtain ⟨b9, d9, rfl, _, _⟩ := hrd2.2.shape
          have Hrd9 := Lib.hid hrd2
          have HS42 : Hid (Hp w [.ob B1 25 (tbCells (.slice a (T i).held.length c) (.slice b (T i).wait.length d)), .ob B2 27 (lkCells (⟨3, 3⟩ : Lok)), .rd R, .ob B41 25 (tbCells (.slice none 0 0) (.slice none 0 0)), .rd R9] w42) := (HS41.out).addrd hbb R9 hin2 (fun r hr => (hnew2 r hr).elim .inl (fun h => .inr ⟨.rd R, List.mem_of_getElem? (i := 2) rfl, h⟩))
          refine hK.out _ _ (⟨(fun j v hv => by rw [Nat.zero_add]; exact (HS42.out).at 0 rfl j hv), (fun j v hv => by rw [Nat.zero_add]; exact (HS42.out).at 1 rfl j hv), (HCi.out _ (HS42.out).old)⟩) (fun hHeld => ?_)
          clear hK K hbb hin2 hrd2 hnew2
          try simp only [Act.put, List.setIfInBounds_toArray, List.set_cons_zero, List.set_cons_succ]
          refine wpAnyH_take (i := 13) (oi := { dst := some 24, op := Op.move (Operand.tmp 37), type := 41, pos := "law.go:125", after := #[{ on := 12, ground := Ground.data }], guard := none }) (v := ?q19v) rfl (by kernel_rfl) (by kernel_rfl) (by kernel_rfl) (fun _ _ _ h => h) (Or.inl ⟨by rfl, ?q19h⟩) hHeld ?q19r
          case q19h => (intro wq hSw; clear hSw; go_simp; try with_reducible rfl)
          try simp only [Act.put, List.setIfInBounds_toArray, List.set_cons_zero, List.set_cons_succ]
          refine wpAnyH_take (i := 14) (oi := { dst := some 38, op := Op.extract (Operand.tmp 24) 0, type := 25, pos := "law.go:125", after := #[{ on := 13, ground := Ground.data }], guard := none }) (v := .agg (tbCells (.slice a9 (T (i + 1)).held.length c9) (.slice b9 (T (i + 1)).wait.length d9)).toArray) rfl (by kernel_rfl) (by kernel_rfl) (by kernel_rfl) (fun _ _ _ h => h) (Or.inl ⟨by rfl, ?q20h⟩) hHeld ?q20r
          case q20h => (intro wq hSw; clear hSw; go_simp; try with_reducible rfl)
          try simp only [Act.put, List.setIfInBounds_toArray, List.set_cons_zero, List.set_cons_succ]
          refine wpAnyH_take (i := 15) (oi := { dst := some 39, op := Op.extract (Operand.tmp 24) 1, type := 4, pos := "law.go:125", after := #[{ on := 13, ground := Ground.data }, { on := 18, ground := Ground.gcOnly Departure.lateStores }], guard := none }) (v := .bool (hb i)) rfl (by kernel_rfl) (by kernel_rfl) (by kernel_rfl) (fun _ _ _ h => h) (Or.inl ⟨by rfl, ?q21h⟩) hHeld ?q21r
          case q21h => (intro wq hSw; clear hSw; go_simp; try with_reducible rfl)
          try simp only [Act.put, List.setIfInBounds_toArray, List.set_cons_zero, List.set_cons_succ]
          refine wpAnyH_take (i := 16) (oi := { dst := some 40, op := Op.extract (Operand.tmp 24) 2, type := 40, pos := "law.go:125", after := #[{ on := 13, ground := Ground.data }, { on := 19, ground := Ground.gcOnly Departure.lateStores }], guard := none }) (v := .int .i64 0) rfl (by kernel_rfl) (by kernel_rfl) (by kernel_rfl) (fun _ _ _ h => h) (Or.inl ⟨by rfl, ?q22h⟩) hHeld ?q22r
          case q22h => (intro wq hSw; clear hSw; go_simp; try with_reducible rfl)
          try simp only [Act.put, List.setIfInBounds_toArray, List.set_cons_zero, List.set_cons_succ]
          refine wpAnyH_ready (rs := [18]) (by kernel_rfl) (by simp) ?_
          refine AllReadyH.cons (o := { dst := none, op := Op.store 25 (Operand.tmp 7) (Operand.tmp 38), type := 0, pos := "law.go:125", after := #[{ on := 17, ground := Ground.data }, { on := 14, ground := Ground.data }, { on := 12, ground := Ground.chain }, { on := 0, ground := Ground.phase }, { on := 1, ground := Ground.phase }, { on := 2, ground := Ground.phase }, { on := 3, ground := Ground.phase }, { on := 4, ground := Ground.phase }, { on := 5, ground := Ground.phase }, { on := 6, ground := Ground.phase }, { on := 7, ground := Ground.phase }, { on := 8, ground := Ground.phase }, { on := 9, ground := Ground.phase }, { on := 10, ground := Ground.phase }, { on := 11, ground := Ground.phase }, { on := 12, ground := Ground.phase }, { on := 13, ground := Ground.phase }, { on := 14, ground := Ground.phase }, { on := 15, ground := Ground.textOnly Departure.lateStores }, { on := 16, ground := Ground.textOnly Departure.lateStores }, { on := 17, ground := Ground.phase }], guard := none }) rfl (fun K hK => ?_) (AllReadyH.nil)
          rw [if_pos (by rfl)]
          refine wp_store_ob 25 (.tmp 7) (.tmp 38) B41 (tbCells (.slice a9 (T (i + 1)).held.length c9) (.slice b9 (T (i + 1)).wait.length d9)) (tbCells (.slice none 0 0) (.slice none 0 0)) 25 rfl rfl rfl rfl ((HS42.out).get 3 rfl) (info_tb) (rfl) ((oneCell_tb _ _ _ _ _ _)) ?_
          have HS43 : Hid (Hp w [.ob B1 25 (tbCells (.slice a (T i).held.length c) (.slice b (T i).wait.length d)), .ob B2 27 (lkCells (⟨3, 3⟩ : Lok)), .rd R, .ob B41 25 (tbCells (.slice a9 (T (i + 1)).held.length c9) (.slice b9 (T (i + 1)).wait.length d9)), .rd R9] (w42.setRow B41 (tbCells (.slice a9 (T (i + 1)).held.length c9) (.slice b9 (T (i + 1)).wait.length d9)).toArray)) := (HS42.out).row 3 rfl (tbCells (.slice a9 (T (i + 1)).held.length c9) (.slice b9 (T (i + 1)).wait.length d9))
          refine hK.out _ _ (⟨(fun j v hv => by rw [Nat.zero_add]; exact (HS43.out).at 0 rfl j hv), (fun j v hv => by rw [Nat.zero_add]; exact (HS43.out).at 1 rfl j hv), (HCi.out _ (HS43.out).old)⟩) (fun hHeld => ?_)
          clear hK K
          generalize (w42.setRow B41 (tbCells (.slice a9 (T (i + 1)).held.length c9) (.slice b9 (T (i + 1)).wait.length d9)).toArray) = w43 at *
          try simp only [Act.put, List.setIfInBounds_toArray, List.set_cons_zero, List.set_cons_succ]
          refine wpAnyH_take (i := 19) (oi := { dst := some 8, op := Op.assign (Operand.tmp 39), type := 4, pos := "law.go:125", after := #[{ on := 15, ground := Ground.data }, { on := 18, ground := Ground.chain }, { on := 0, ground := Ground.phase }, { on := 1, ground := Ground.phase }, { on := 2, ground := Ground.phase }, { on := 3, ground := Ground.phase }, { on := 4, ground := Ground.phase }, { on := 5, ground := Ground.phase }, { on := 6, ground := Ground.phase }, { on := 7, ground := Ground.phase }, { on := 8, ground := Ground.phase }, { on := 9, ground := Ground.phase }, { on := 10, ground := Ground.phase }, { on := 11, ground := Ground.phase }, { on := 12, ground := Ground.phase }, { on := 13, ground := Ground.phase }, { on := 14, ground := Ground.phase }, { on := 15, ground := Ground.phase }, { on := 16, ground := Ground.textOnly Departure.lateStores }, { on := 17, ground := Ground.phase }, { on := 18, ground := Ground.phase }], guard := none }) (v := ?q23v) rfl (by kernel_rfl) (by kernel_rfl) (by kernel_rfl) (fun _ _ _ h => h) (Or.inl ⟨by rfl, ?q23h⟩) hHeld ?q23r
          case q23h => (intro wq hSw; clear hSw; go_simp; try with_reducible rfl)
          try simp only [Act.put, List.setIfInBounds_toArray, List.set_cons_zero, List.set_cons_succ]
          refine wpAnyH_take (i := 20) (oi := { dst := some 9, op := Op.assign (Operand.tmp 40), type := 40, pos := "law.go:125", after := #[{ on := 16, ground := Ground.data }, { on := 19, ground := Ground.chain }, { on := 0, ground := Ground.phase }, { on := 1, ground := Ground.phase }, { on := 2, ground := Ground.phase }, { on := 3, ground := Ground.phase }, { on := 4, ground := Ground.phase }, { on := 5, ground := Ground.phase }, { on := 6, ground := Ground.phase }, { on := 7, ground := Ground.phase }, { on := 8, ground := Ground.phase }, { on := 9, ground := Ground.phase }, { on := 10, ground := Ground.phase }, { on := 11, ground := Ground.phase }, { on := 12, ground := Ground.phase }, { on := 13, ground := Ground.phase }, { on := 14, ground := Ground.phase }, { on := 15, ground := Ground.phase }, { on := 16, ground := Ground.phase }, { on := 17, ground := Ground.phase }, { on := 18, ground := Ground.phase }, { on := 19, ground := Ground.phase }], guard := none }) (v := ?q24v) rfl (by kernel_rfl) (by kernel_rfl) (by kernel_rfl) (fun _ _ _ h => h) (Or.inl ⟨by rfl, ?q24h⟩) hHeld ?q24r
          case q24h => (intro wq hSw; clear hSw; go_simp; try with_reducible rfl)
          try simp only [Act.put, List.setIfInBounds_toArray, List.set_cons_zero, List.set_cons_succ]
          refine wpAnyH_done (by kernel_rfl) ?_ _
          clear hHeld
          go_upto_region 12 with (fail)
          go_wp2_with (first | ((with_reducible refine wpList_load_ob 25 (.tmp 7) B41 (tbCells (.slice a9 (T (i + 1)).held.length c9) (.slice b9 (T (i + 1)).wait.length d9)) 25 HUT.out ?_ ?_ ?_ ?_ ?_); (exact rfl); (exact (HS43.out).get 3 rfl); (exact rfl); (exact info_tb); simp only [Act.put, List.setIfInBounds_toArray, List.set_cons_zero, List.set_cons_succ]) | ((with_reducible refine wpList_store_ob 25 (.tmp 3) B1 (tbCells (.slice a9 (T (i + 1)).held.length c9) (.slice b9 (T (i + 1)).wait.length d9)) (tbCells (.slice a (T i).held.length c) (.slice b (T i).wait.length d)) 25 ?_ ?_ ?_ ?_ ?_ ?_ ?_); (exact rfl); (exact rfl); (exact (HS43.out).get 0 rfl); (exact info_tb); (exact rfl); (exact (oneCell_tb _ _ _ _ _ _)); skip))
          have HS44 : Hid (Hp w [.ob B1 25 (tbCells (.slice a9 (T (i + 1)).held.length c9) (.slice b9 (T (i + 1)).wait.length d9)), .ob B2 27 (lkCells (⟨3, 3⟩ : Lok)), .rd R, .ob B41 25 (tbCells (.slice a9 (T (i + 1)).held.length c9) (.slice b9 (T (i + 1)).wait.length d9)), .rd R9] (w43.setRow B1 (tbCells (.slice a9 (T (i + 1)).held.length c9) (.slice b9 (T (i + 1)).wait.length d9)).toArray)) := (HS43.out).row 0 rfl (tbCells (.slice a9 (T (i + 1)).held.length c9) (.slice b9 (T (i + 1)).wait.length d9))
          clear HS43
          generalize (w43.setRow B1 (tbCells (.slice a9 (T (i + 1)).held.length c9) (.slice b9 (T (i + 1)).wait.length d9)).toArray) = w44 at *
          have HS45 : Hid (Hp w [.ob B1 25 (tbCells (.slice a9 (T (i + 1)).held.length c9) (.slice b9 (T (i + 1)).wait.length d9)), .ob B2 27 (lkCells (⟨3, 3⟩ : Lok)), .rd R9] w44) := HS44.out.pull [0, 1, 4] rfl (pull_nd HS44.out.nd [0, 1, 4] rfl (by decide))
          clear HS44
          go_wp2_with fail
          go_roundw
          case rel => exact ⟨i + 1, _, _, _, _, R9, by go_num, HLt.out, Hrd9.out, HS45.out⟩
          case measure => simp [intOf]; try (have := HLt.out; omega)
      · obtain rfl : n = i := by omega
        clear hlt hi
        go_wp2_with fail
        go_loopw [10] (fun iv wr => ∃ (i : Nat) (a b : Option Addr) (c d : Nat) (R : List Rng), iv = .int .i64 i ∧ i ≤ n ∧ TbRd (.slice a (U i).held.length c) (.slice b (U i).wait.length d) (U i) R ∧ Hp w [.ob B1 25 (tbCells (.slice a (U i).held.length c) (.slice b (U i).wait.length d)), .ob B2 27 (lkCells ⟨3, 3⟩), .rd R] wr) (fun iv _ => n - (intOf iv).toNat)
        case atStart =>
          refine ⟨0, a, b, c, d, R, rfl, Nat.zero_le _, ?_, ?_⟩
          · rw [HU0.out]; exact HRd.out
          · rw [HU0.out]; exact HY.out
        case round =>
          clear HY HRd
          obtain ⟨i, a, b, c, d, R, rfl, hi, hrd, hs⟩ := hrel
          have HY := Lib.hid hs
          have HRd := Lib.hid hrd
          clear hs hrd
          by_cases hlt : i < n
          · obtain ⟨b0, off0, rfl, hcell⟩ := HBy.out (by have := HN.out; omega)
            have HCe := Lib.hid hcell
            have HLt := Lib.hid hlt
            have hii : (i : Int) < (len : Int) := by have := HN.out; omega
            have hin : (i : Int) < (n : Int) := by omega
            have hi0 : (0 : Int) ≤ (i : Int) := by omega
            have HRl := Lib.hid (HRel.out i hlt)
            have HMd := Lib.hid (fun j => HMode.out i j (Nat.le_of_lt hlt))
            have HUg := Lib.hid (HUok.out i (Nat.le_of_lt hlt)).good
            have hr1 := HR1.out i hlt
            have hr2 := fun k h => HR2.out i k h
            obtain ⟨z, hz⟩ : ∃ z, zs.getD i 0 = z := ⟨_, rfl⟩
            have HZi := Lib.hid (HZ.out i)
            rw [hz] at hr1 HZi
            have HR1i := Lib.hid hr1
            have HR2i := Lib.hid hr2
            have HZe := Lib.hid hz
            have ci : wr.cell? ⟨b0, off0 + i, none⟩ = some (.int .u8 z) := by rw [← hz]; exact HCe.out wr HY.out.old i (by have := HN.out; omega)
            clear hcell hlt hi hz hr1 hr2
            obtain ⟨E1, hE⟩ : ∃ E1, z % 2 = E1 := ⟨_, rfl⟩
            have q1 : z.tmod 2 = E1 := by rw [← hE]; exact Int.tmod_eq_emod_of_nonneg HZi.out.1
            have q2 : IntKind.u8.wrap E1 = E1 := by have h1 : 0 ≤ E1 ∧ E1 ≤ 1 := by omega
                                                    obtain h2 | h2 : E1 = 0 ∨ E1 = 1 := by omega
                                                    all_goals (rw [h2]; rfl)
            have HE := Lib.hid hE
            clear hE
            go_upto_if 55 with (fail)
            go_cut [11] (fun v wz => ∃ k : Nat, v = .int .i64 (k : Int) ∧ i ≤ k ∧ k < n ∧ run i = k + 1 - i ∧ Hp w [.ob B1 25 (tbCells (.slice a (U i).held.length c) (.slice b (U i).wait.length d)), .ob B2 27 (lkCells ⟨3, 3⟩), .rd R] wz)
            case first =>
              by_cases hE0 : E1 = 0
              · obtain ⟨e1, n1⟩ := eq_facts hE0
                have hm1 : 1 + z % 2 = 1 := by rw [HE.out, hE0]; rfl
                have HM1 := Lib.hid hm1
                clear hE0 hm1
                go_wp2_with fail
                go_loopw [11] (fun lv wq => ∃ k : Nat, lv = .int .i64 k ∧ i ≤ k ∧ k < n ∧ (∀ q, i ≤ q → q ≤ k → 1 + zs.getD q 0 % 2 = 1) ∧ Hp w [.ob B1 25 (tbCells (.slice a (U i).held.length c) (.slice b (U i).wait.length d)), .ob B2 27 (lkCells ⟨3, 3⟩), .rd R] wq) (fun lv _ => n - (intOf lv).toNat)
                case atStart => exact ⟨i, rfl, Nat.le_refl _, HLt.out, fun q h1 h2 => by obtain rfl : q = i := by omega
                                                                                         rw [HZe.out]; exact HM1.out, HY.out⟩
                case round =>
                  clear HY ci
                  obtain ⟨k, rfl, hik, hkn, hq, hs⟩ := hrel
                  have HY := Lib.hid hs
                  have HQ := Lib.hid hq
                  have HKn := Lib.hid (And.intro hik hkn)
                  have hk4 : IntKind.i64.wrap ((k : Int) + 1) = ((k + 1 : Nat) : Int) := IntWalk.i64_in _ (by omega)
                  have hk5 : wrap64 ((k : Int) + 1) = ((k + 1 : Nat) : Int) := IntWalk.wrap64_in _ (by omega)
                  clear hs hq hik
                  by_cases hk1 : k + 1 < n
                  · have hki : ((k + 1 : Nat) : Int) < (n : Int) := by omega
                    have hki' : (k : Int) + 1 < (n : Int) := by omega
                    have hkl : ((k + 1 : Nat) : Int) < (len : Int) := by have := HN.out; omega
                    have hkl' : (k : Int) + 1 < (len : Int) := by have := HN.out; omega
                    have hk0 : (0 : Int) ≤ ((k + 1 : Nat) : Int) := by omega
                    have hk0' : (0 : Int) ≤ (k : Int) + 1 := by omega
                    have HK1 := Lib.hid hk1
                    have HZk := Lib.hid (HZ.out (k + 1))
                    have ck : wr.cell? ⟨b0, off0 + (k + 1), none⟩ = some (.int .u8 (zs.getD (k + 1) 0)) := HCe.out wr HY.out.old (k + 1) (by have := HN.out; omega)
                    obtain ⟨y, hy⟩ : ∃ y, zs.getD (k + 1) 0 = y := ⟨_, rfl⟩
                    rw [hy] at ck HZk
                    have HYe := Lib.hid hy
                    obtain ⟨E2, hE2⟩ : ∃ E2, y % 2 = E2 := ⟨_, rfl⟩
                    have q5 : y.tmod 2 = E2 := by rw [← hE2]; exact Int.tmod_eq_emod_of_nonneg HZk.out.1
                    have q6 : IntKind.u8.wrap E2 = E2 := by obtain h2 | h2 : E2 = 0 ∨ E2 = 1 := by omega
                                                            all_goals (rw [h2]; rfl)
                    have HE2 := Lib.hid hE2
                    clear hk1 hkn hy hE2
                    by_cases hE0 : E2 = 0
                    · obtain ⟨e2, n2⟩ := eq_facts hE0
                      have hm2 : 1 + zs.getD (k + 1) 0 % 2 = 1 := by rw [HYe.out, HE2.out, hE0]; rfl
                      have HM2 := Lib.hid hm2
                      clear hE0 hm2
                      go_wp2_with fail
                      go_roundw
                      case rel =>
                        refine ⟨k + 1, by go_num, by have := HKn.out; omega, HK1.out, fun q h1 h2 => ?_, HY.out⟩
                        rcases Nat.lt_or_ge k q with h3 | h3
                        · obtain rfl : q = k + 1 := by omega
                          exact HM2.out
                        · exact HQ.out q h1 h3
                      case measure => simp [intOf]; try (have := HK1.out; omega)
                    · obtain ⟨e2, n2⟩ := ne_facts hE0
                      have hm2 : 1 + zs.getD (k + 1) 0 % 2 = 2 := by rw [HYe.out, HE2.out]; have := HE2.out; omega
                      have HRn := Lib.hid (HR2i.out k HKn.out.1 HKn.out.2 HQ.out (.inr hm2))
                      clear hE0 hm2
                      go_wp2_with fail
                      go_meet
                      exact ⟨k, rfl, HKn.out.1, HKn.out.2, HRn.out, HY.out⟩
                  · have hki : decide (((k + 1 : Nat) : Int) < (n : Int)) = false := decide_eq_false (by omega)
                    have hki' : decide ((k : Int) + 1 < (n : Int)) = false := decide_eq_false (by omega)
                    have HRn := Lib.hid (HR2i.out k HKn.out.1 HKn.out.2 HQ.out (.inl (by omega)))
                    clear hk1 hkn
                    go_wp2_with fail
                    go_meet
                    exact ⟨k, rfl, HKn.out.1, HKn.out.2, HRn.out, HY.out⟩
              · obtain ⟨e1, n1⟩ := ne_facts hE0
                have HRn := Lib.hid (HR1i.out (by have := HE.out; omega))
                clear hE0
                go_wp2_with fail
                go_meet
                exact ⟨i, rfl, Nat.le_refl _, HLt.out, by rw [HRn.out]; omega, HY.out⟩
            case rest =>
              obtain ⟨k, rfl, hik, hkn, hrun, hs⟩ := hcut
              have HYc : Hid (Hp w [.ob B1 25 (tbCells (.slice a (U i).held.length c) (.slice b (U i).wait.length d)), .ob B2 27 (lkCells ⟨3, 3⟩), .rd R] wc) := hs
              have HRun := Lib.hid hrun
              have HKn := Lib.hid (And.intro hik hkn)
              clear hs HY ci hik hkn hrun q1 q2 HE HR1i HR2i
              generalize wc = w300 at *
              go_wp2_with fail
              go_loopw [12] (fun jv wq => ∃ j : Nat, jv = .int .i64 j ∧ j ≤ n ∧ Hp w [.ob B1 25 (tbCells (.slice a (U i).held.length c) (.slice b (U i).wait.length d)), .ob B2 27 (lkCells ⟨3, 3⟩), .rd R] wq) (fun jv _ => n - (intOf jv).toNat)
              case atStart => exact ⟨0, rfl, Nat.zero_le _, HYc.out⟩
              case round =>
                clear HYc
                obtain ⟨j, rfl, hj, hs⟩ := hrel
                have HY := Lib.hid hs
                clear hs
                by_cases hjn : j < n
                · have HJn := Lib.hid hjn
                  have hjj : (j : Int) < (n : Int) := by omega
                  have hj0 : (0 : Int) ≤ (j : Int) := by omega
                  have hj4 : IntKind.i64.wrap ((j : Int) + 1) = (j : Int) + 1 := IntWalk.i64_in _ (by omega)
                  have hj5 : wrap64 ((j : Int) + 1) = (j : Int) + 1 := IntWalk.wrap64_in _ (by omega)
                  have HMo : Hid (∀ W, RdIn W R → Calls Try.prog 20 #[.agg (tbCells (.slice a (U i).held.length c) (.slice b (U i).wait.length d)).toArray, .int .i64 ((j : Int) + 1), .agg (lkCells ⟨3, 3⟩).toArray] W fun e w' => e = .returned (.int .i64 (modeT (U i) ((j : Int) + 1) 3 3)) ∧ Below W.heap.size W w') := Lib.hid (fun W h => pMode_any ((j : Int) + 1) ⟨3, 3⟩ W HRd.out h HUg.out ⟨by decide, by decide⟩)
                  have hmd := HMd.out j
                  rw [HRun.out] at hmd
                  generalize modeT (U i) ((j : Int) + 1) 3 3 = md at *
                  have a0 := HY.out.at 0 rfl 0 rfl
                  have a1 := HY.out.at 0 rfl 1 rfl
                  have k0 := HY.out.at 1 rfl 0 rfl
                  have k1 := HY.out.at 1 rfl 1 rfl
                  have hdm : decide (0 < md) = (decide ((i : Int) ≤ (j : Int)) && decide ((j : Int) ≤ (k : Int))) := by
                    rw [Bool.eq_iff_iff, Bool.and_eq_true, decide_eq_true_eq, decide_eq_true_eq, decide_eq_true_eq, hmd]
                    have := HKn.out
                    omega
                  clear hjn hj hmd
                  go_wp2_with fail
                  refine (HMo.out _ (HY.out.reads 2 rfl)).mono ?_
                  rintro e w310 ⟨rfl, hbb⟩
                  have HY2 := Lib.hid (HY.out.calls hbb)
                  clear hbb a0 a1 k0 k1 HMo HY
                  obtain ⟨d1, hd1⟩ : ∃ d1, decide ((i : Int) ≤ (j : Int)) = d1 := ⟨_, rfl⟩
                  obtain ⟨d2, hd2⟩ : ∃ d2, decide ((j : Int) ≤ (k : Int)) = d2 := ⟨_, rfl⟩
                  rw [hd1, hd2] at hdm
                  have hd3 : decide (i ≤ j) = d1 := by rw [← hd1, Bool.eq_iff_iff, decide_eq_true_eq, decide_eq_true_eq]; omega
                  have hd4 : decide (j ≤ k) = d2 := by rw [← hd2, Bool.eq_iff_iff, decide_eq_true_eq, decide_eq_true_eq]; omega
                  cases d1 <;> cases d2
                  all_goals
                    simp only [Bool.and_self, Bool.false_and, Bool.and_false, Bool.true_and] at hdm
                    go_wp2_with fail
                    go_roundw
                    case rel => exact ⟨j + 1, by go_num, HJn.out, HY2.out⟩
                    case measure => simp [intOf]; try (have := HJn.out; omega)
                · obtain rfl : n = j := by omega
                  clear hjn hj
                  have hi4 : IntKind.i64.wrap ((i : Int) + 1) = (i : Int) + 1 := IntWalk.i64_in _ (by omega)
                  have hi5 : wrap64 ((i : Int) + 1) = (i : Int) + 1 := IntWalk.wrap64_in _ (by omega)
                  go_wp2_with (first | ((with_reducible refine wpList_load_ob 25 (.tmp 3) B1 (tbCells (.slice a (U i).held.length c) (.slice b (U i).wait.length d)) 25 HUT.out ?_ ?_ ?_ ?_ ?_); (exact rfl); (exact (HY.out).get 0 rfl); (exact rfl); (exact info_tb); simp only [Act.put, List.setIfInBounds_toArray, List.set_cons_zero, List.set_cons_succ]))
                  refine (tb_as HRl.out (prelease_any ((i : Int) + 1) _ HRd.out ((HY.out).reads 2 rfl) HUg.out)).mono ?_
                  rintro e w401 ⟨h9, v9, R9, rfl, hrd2, hin2, hnew2, hb⟩
                  obtain ⟨a9, c9, rfl, _, _⟩ := hrd2.1.shape
                  obtain ⟨b9, d9, rfl, _, _⟩ := hrd2.2.shape
                  have Hrd9 := Lib.hid hrd2
                  have HS401 : Hid (Hp w [.ob B1 25 (tbCells (.slice a (U i).held.length c) (.slice b (U i).wait.length d)), .ob B2 27 (lkCells (⟨3, 3⟩ : Lok)), .rd R, .rd R9] w401) := (HY.out).addrd hb R9 hin2 (fun r hr => (hnew2 r hr).elim .inl (fun h => .inr ⟨.rd R, List.mem_of_getElem? (i := 2) rfl, h⟩))
                  clear hb hin2 hrd2 hnew2
                  clear HY
                  go_wp2_with (first | ((with_reducible refine wpList_store_ob 25 (.tmp 3) B1 (tbCells (.slice a9 (U (i + 1)).held.length c9) (.slice b9 (U (i + 1)).wait.length d9)) (tbCells (.slice a (U i).held.length c) (.slice b (U i).wait.length d)) 25 ?_ ?_ ?_ ?_ ?_ ?_ ?_); (exact rfl); (exact rfl); (exact (HS401.out).get 0 rfl); (exact info_tb); (exact rfl); (exact (oneCell_tb _ _ _ _ _ _)); skip))
                  have HS402 : Hid (Hp w [.ob B1 25 (tbCells (.slice a9 (U (i + 1)).held.length c9) (.slice b9 (U (i + 1)).wait.length d9)), .ob B2 27 (lkCells (⟨3, 3⟩ : Lok)), .rd R, .rd R9] (w401.setRow B1 (tbCells (.slice a9 (U (i + 1)).held.length c9) (.slice b9 (U (i + 1)).wait.length d9)).toArray)) := (HS401.out).row 0 rfl (tbCells (.slice a9 (U (i + 1)).held.length c9) (.slice b9 (U (i + 1)).wait.length d9))
                  clear HS401
                  generalize (w401.setRow B1 (tbCells (.slice a9 (U (i + 1)).held.length c9) (.slice b9 (U (i + 1)).wait.length d9)).toArray) = w402 at *
                  have HS403 : Hid (Hp w [.ob B1 25 (tbCells (.slice a9 (U (i + 1)).held.length c9) (.slice b9 (U (i + 1)).wait.length d9)), .ob B2 27 (lkCells (⟨3, 3⟩ : Lok)), .rd R9] w402) := HS402.out.pull [0, 1, 3] rfl (pull_nd HS402.out.nd [0, 1, 3] rfl (by decide))
                  clear HS402
                  go_wp2_with fail
                  go_roundw
                  case rel => exact ⟨i + 1, _, _, _, _, R9, by go_num, HLt.out, Hrd9.out, HS403.out⟩
                  case measure => simp [intOf]; try (have := HLt.out; omega)
          · obtain rfl : n = i := by omega
            have hl1 : (U n).held.length = 0 := by rw [HUn.out]; rfl
            have hl2 : (U n).wait.length = 0 := by rw [HUn.out]; rfl
            have a0 := HY.out.at 0 rfl 0 rfl
            have a1 := HY.out.at 0 rfl 1 rfl
            rw [hl1] at a0
            rw [hl2] at a1
            clear hlt hi hl1 hl2
            go_wp2_with fail
            go_ret
            exact ⟨rfl, HY.out.old⟩
end Go.Proofs.Ytcnaalbpbalgdaa
