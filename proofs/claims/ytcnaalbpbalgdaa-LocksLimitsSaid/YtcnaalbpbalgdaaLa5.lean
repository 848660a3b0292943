/- texts of a claim, one after the other: the sanity check of the laws of chapter 8, transactions that ask for one lock get it in the order in which they asked; a table that is nearly full, the law LocksLimits: for every input the call returns true -/
import Derived.Test.YtcnaalbpbalgdaaLa4
import Derived.Test.YtcnaalbpbalgdaaLa1
/- the sanity check of the laws of chapter 8 -/
namespace Go.Proofs.Ytcnaalbpbalgdaa
open Go.RowKit
set_option maxRecDepth 20000
set_option linter.unusedSimpArgs false
set_option linter.unusedVariables false

theorem build_lk1 (p : Int) (W : World) : Sem.run Try.prog (Instr.build 27 #[(0, .int .i64 p)]) W = .ok (.agg (lkCells ⟨p, 0⟩).toArray) W := by kernel_rfl
theorem build_kx (tx m : Int) (W : World) : Sem.run Try.prog (Instr.build 29 #[(0, .int .i64 tx), (1, .agg (lkCells ⟨1, 0⟩).toArray), (2, .int .i64 m)]) W = .ok (.agg (grCells (kx tx m)).toArray) W := by kernel_rfl
set_option maxHeartbeats 8000000 in
theorem awake8 (w : World) : Calls Try.prog 8 #[] w fun e w' => e = .returned (.bool true) ∧ Below w.heap.size w w' := by
  obtain ⟨t1, t2, t3, t4, ⟨e1, o1⟩, ⟨e2, o2⟩, ⟨e3, o3⟩, ⟨e4, o4⟩, e5⟩ := awake_facts
  have HE1 := Lib.hid e1
  have HE2 := Lib.hid e2
  have HE3 := Lib.hid e3
  have HE4 := Lib.hid e4
  have HE5 := Lib.hid e5
  have HO1 := Lib.hid o1.good
  have HO2 := Lib.hid o2.good
  have HO3 := Lib.hid o3.good
  have HO4 := Lib.hid o4.good
  have HK : Hid (∀ tx m, (tx = 1 ∨ tx = 2) → (m = 1 ∨ m = 2) → GoodGr (kx tx m)) := Lib.hid (fun tx m h1 h2 => (kx_ok h1 h2).good)
  have HN : Hid (GoodTb tbNil) := Lib.hid tbNil_ok.good
  clear e1 e2 e3 e4 e5 o1 o2 o3 o4
  obtain ⟨fsHUG, huHUG⟩ := under_gr
  have HUG := Lib.hid huHUG
  clear huHUG
  obtain ⟨fsHUK, huHUK⟩ := under_lk
  have HUK := Lib.hid huHUK
  clear huHUK
  obtain ⟨fsHUT, huHUT⟩ := under_tb
  have HUT := Lib.hid huHUT
  clear huHUT
  have HS0 := Lib.hid (Hp.start w)
  go_enter Try.func8, Try.ntmps8
  go_wp2_with (first | ((with_reducible refine wpList_build_v (d := some 9) 27 (.agg (lkCells (⟨1, 0⟩ : Lok)).toArray) ?_ ?_); (intro W; simp only [List.map_toArray, List.map_cons, List.map_nil]; exact build_lk1 _ W); simp only [Act.put, List.setIfInBounds_toArray, List.set_cons_zero, List.set_cons_succ]) | ((with_reducible refine wpList_alloc_ob 27 (lkCells lkNil) ?_ ?_); (exact alloc_lk); simp only [Act.put, List.setIfInBounds_toArray, List.set_cons_zero, List.set_cons_succ]) | ((with_reducible refine wpList_store_ob 27 (.tmp 1) (w.heap.size) (lkCells (⟨1, 0⟩ : Lok)) (lkCells lkNil) 27 ?_ ?_ ?_ ?_ ?_ ?_ ?_); (exact rfl); (exact rfl); (exact ((HS0.out).put 27 (lkCells lkNil)).get 0 rfl); (exact info_lk); (exact rfl); (exact (oneCell_lk _)); skip) | ((with_reducible refine wpList_build_v (d := some 11) 25 (.agg (tbCells (.slice none 0 0) (.slice none 0 0)).toArray) ?_ ?_); (intro W; simp only [List.map_toArray, List.map_cons, List.map_nil]; exact build_tb0 W); simp only [Act.put, List.setIfInBounds_toArray, List.set_cons_zero, List.set_cons_succ]) | ((with_reducible refine wpList_load_ob 27 (.tmp 1) (w.heap.size) (lkCells (⟨1, 0⟩ : Lok)) 27 HUK.out ?_ ?_ ?_ ?_ ?_); (exact rfl); (exact (((HS0.out).put 27 (lkCells lkNil)).row 0 rfl (lkCells (⟨1, 0⟩ : Lok))).get 0 rfl); (exact rfl); (exact info_lk); simp only [Act.put, List.setIfInBounds_toArray, List.set_cons_zero, List.set_cons_succ]) | ((with_reducible refine wpList_build_v (d := some 13) 29 (.agg (grCells (kx 1 1)).toArray) ?_ ?_); (intro W; simp only [List.map_toArray, List.map_cons, List.map_nil]; exact build_kx _ _ W); simp only [Act.put, List.setIfInBounds_toArray, List.set_cons_zero, List.set_cons_succ]))
  refine (tb3_as HE1.out (prequest_any (kx 1 1) _ (TbRd.nil []) (RdIn.nil _) HN.out (HK.out _ _ (by decide) (by decide)))).mono ?_
  rintro e w1 ⟨h9, v9, R1, rfl, hrd2, hin2, hnew2, hb⟩
  obtain ⟨a1, c1, rfl, _, _⟩ := hrd2.1.shape
  obtain ⟨b1, d1, rfl, _, _⟩ := hrd2.2.shape
  have Hrd1 := Lib.hid hrd2
  have HS1 : Hid (Hp w [.ob (w.heap.size) 27 (lkCells (⟨1, 0⟩ : Lok)), .rd R1] w1) := (((HS0.out).put 27 (lkCells lkNil)).row 0 rfl (lkCells (⟨1, 0⟩ : Lok))).addrd hb R1 hin2 (fun r hr => (hnew2 r hr).elim .inl (fun h => .inr (absurd h (by simp))))
  clear hb hin2 hrd2 hnew2
  clear HS0
  go_wp2_with (first | ((with_reducible refine wpList_alloc_ob 25 (tbCells (.slice none 0 0) (.slice none 0 0)) ?_ ?_); (exact alloc_tb); simp only [Act.put, List.setIfInBounds_toArray, List.set_cons_zero, List.set_cons_succ]) | ((with_reducible refine wpList_store_ob 25 (.tmp 2) (w1.heap.size) (tbCells (.slice a1 t1.held.length c1) (.slice b1 t1.wait.length d1)) (tbCells (.slice none 0 0) (.slice none 0 0)) 25 ?_ ?_ ?_ ?_ ?_ ?_ ?_); (exact rfl); (exact rfl); (exact ((HS1.out).put 25 (tbCells (.slice none 0 0) (.slice none 0 0))).get 2 rfl); (exact info_tb); (exact rfl); (exact (oneCell_tb _ _ _ _ _ _)); skip) | ((with_reducible refine wpList_load_ob 25 (.tmp 2) (w1.heap.size) (tbCells (.slice a1 t1.held.length c1) (.slice b1 t1.wait.length d1)) 25 HUT.out ?_ ?_ ?_ ?_ ?_); (exact rfl); (exact (((HS1.out).put 25 (tbCells (.slice none 0 0) (.slice none 0 0))).row 2 rfl (tbCells (.slice a1 t1.held.length c1) (.slice b1 t1.wait.length d1))).get 2 rfl); (exact rfl); (exact info_tb); simp only [Act.put, List.setIfInBounds_toArray, List.set_cons_zero, List.set_cons_succ]) | ((with_reducible refine wpList_load_ob 27 (.tmp 1) (w.heap.size) (lkCells (⟨1, 0⟩ : Lok)) 27 HUK.out ?_ ?_ ?_ ?_ ?_); (exact rfl); (exact (((HS1.out).put 25 (tbCells (.slice none 0 0) (.slice none 0 0))).row 2 rfl (tbCells (.slice a1 t1.held.length c1) (.slice b1 t1.wait.length d1))).get 0 rfl); (exact rfl); (exact info_lk); simp only [Act.put, List.setIfInBounds_toArray, List.set_cons_zero, List.set_cons_succ]) | ((with_reducible refine wpList_build_v (d := some 21) 29 (.agg (grCells (kx 2 1)).toArray) ?_ ?_); (intro W; simp only [List.map_toArray, List.map_cons, List.map_nil]; exact build_kx _ _ W); simp only [Act.put, List.setIfInBounds_toArray, List.set_cons_zero, List.set_cons_succ]))
  refine (tb3_as HE2.out (prequest_any (kx 2 1) _ Hrd1.out ((((HS1.out).put 25 (tbCells (.slice none 0 0) (.slice none 0 0))).row 2 rfl (tbCells (.slice a1 t1.held.length c1) (.slice b1 t1.wait.length d1))).reads 1 rfl) HO1.out (HK.out _ _ (by decide) (by decide)))).mono ?_
  rintro e w2 ⟨h9, v9, R2, rfl, hrd2, hin2, hnew2, hb⟩
  obtain ⟨a2, c2, rfl, _, _⟩ := hrd2.1.shape
  obtain ⟨b2, d2, rfl, _, _⟩ := hrd2.2.shape
  have Hrd2 := Lib.hid hrd2
  have HS2 : Hid (Hp w [.ob (w.heap.size) 27 (lkCells (⟨1, 0⟩ : Lok)), .rd R1, .ob (w1.heap.size) 25 (tbCells (.slice a1 t1.held.length c1) (.slice b1 t1.wait.length d1)), .rd R2] w2) := (((HS1.out).put 25 (tbCells (.slice none 0 0) (.slice none 0 0))).row 2 rfl (tbCells (.slice a1 t1.held.length c1) (.slice b1 t1.wait.length d1))).addrd hb R2 hin2 (fun r hr => (hnew2 r hr).elim .inl (fun h => .inr ⟨.rd R1, List.mem_of_getElem? (i := 1) rfl, h⟩))
  clear hb hin2 hrd2 hnew2
  clear HS1
  generalize w1.heap.size = B1 at *
  go_wp2_with (first | ((with_reducible refine wpList_store_ob 25 (.tmp 2) B1 (tbCells (.slice a2 t2.held.length c2) (.slice b2 t2.wait.length d2)) (tbCells (.slice a1 t1.held.length c1) (.slice b1 t1.wait.length d1)) 25 ?_ ?_ ?_ ?_ ?_ ?_ ?_); (exact rfl); (exact rfl); (exact (HS2.out).get 2 rfl); (exact info_tb); (exact rfl); (exact (oneCell_tb _ _ _ _ _ _)); skip) | ((with_reducible refine wpList_load_ob 25 (.tmp 2) B1 (tbCells (.slice a2 t2.held.length c2) (.slice b2 t2.wait.length d2)) 25 HUT.out ?_ ?_ ?_ ?_ ?_); (exact rfl); (exact ((HS2.out).row 2 rfl (tbCells (.slice a2 t2.held.length c2) (.slice b2 t2.wait.length d2))).get 2 rfl); (exact rfl); (exact info_tb); simp only [Act.put, List.setIfInBounds_toArray, List.set_cons_zero, List.set_cons_succ]) | ((with_reducible refine wpList_load_ob 27 (.tmp 1) (w.heap.size) (lkCells (⟨1, 0⟩ : Lok)) 27 HUK.out ?_ ?_ ?_ ?_ ?_); (exact rfl); (exact ((HS2.out).row 2 rfl (tbCells (.slice a2 t2.held.length c2) (.slice b2 t2.wait.length d2))).get 0 rfl); (exact rfl); (exact info_lk); simp only [Act.put, List.setIfInBounds_toArray, List.set_cons_zero, List.set_cons_succ]) | ((with_reducible refine wpList_build_v (d := some 29) 29 (.agg (grCells (kx 1 2)).toArray) ?_ ?_); (intro W; simp only [List.map_toArray, List.map_cons, List.map_nil]; exact build_kx _ _ W); simp only [Act.put, List.setIfInBounds_toArray, List.set_cons_zero, List.set_cons_succ]))
  refine (tb3_as HE3.out (prequest_any (kx 1 2) _ Hrd2.out (((HS2.out).row 2 rfl (tbCells (.slice a2 t2.held.length c2) (.slice b2 t2.wait.length d2))).reads 3 rfl) HO2.out (HK.out _ _ (by decide) (by decide)))).mono ?_
  rintro e w3 ⟨h9, v9, R3, rfl, hrd2, hin2, hnew2, hb⟩
  obtain ⟨a3, c3, rfl, _, _⟩ := hrd2.1.shape
  obtain ⟨b3, d3, rfl, _, _⟩ := hrd2.2.shape
  have Hrd3 := Lib.hid hrd2
  have HS3 : Hid (Hp w [.ob (w.heap.size) 27 (lkCells (⟨1, 0⟩ : Lok)), .rd R1, .ob B1 25 (tbCells (.slice a2 t2.held.length c2) (.slice b2 t2.wait.length d2)), .rd R2, .rd R3] w3) := ((HS2.out).row 2 rfl (tbCells (.slice a2 t2.held.length c2) (.slice b2 t2.wait.length d2))).addrd hb R3 hin2 (fun r hr => (hnew2 r hr).elim .inl (fun h => .inr ⟨.rd R2, List.mem_of_getElem? (i := 3) rfl, h⟩))
  clear hb hin2 hrd2 hnew2
  clear HS2
  go_wp2_with (first | ((with_reducible refine wpList_store_ob 25 (.tmp 2) B1 (tbCells (.slice a3 t3.held.length c3) (.slice b3 t3.wait.length d3)) (tbCells (.slice a2 t2.held.length c2) (.slice b2 t2.wait.length d2)) 25 ?_ ?_ ?_ ?_ ?_ ?_ ?_); (exact rfl); (exact rfl); (exact (HS3.out).get 2 rfl); (exact info_tb); (exact rfl); (exact (oneCell_tb _ _ _ _ _ _)); skip) | ((with_reducible refine wpList_load_ob 25 (.tmp 2) B1 (tbCells (.slice a3 t3.held.length c3) (.slice b3 t3.wait.length d3)) 25 HUT.out ?_ ?_ ?_ ?_ ?_); (exact rfl); (exact ((HS3.out).row 2 rfl (tbCells (.slice a3 t3.held.length c3) (.slice b3 t3.wait.length d3))).get 2 rfl); (exact rfl); (exact info_tb); simp only [Act.put, List.setIfInBounds_toArray, List.set_cons_zero, List.set_cons_succ]))
  refine (tb_as HE4.out (prelease_any 2 _ Hrd3.out (((HS3.out).row 2 rfl (tbCells (.slice a3 t3.held.length c3) (.slice b3 t3.wait.length d3))).reads 4 rfl) HO3.out)).mono ?_
  rintro e w4 ⟨h9, v9, R4, rfl, hrd2, hin2, hnew2, hb⟩
  obtain ⟨a4, c4, rfl, _, _⟩ := hrd2.1.shape
  obtain ⟨b4, d4, rfl, _, _⟩ := hrd2.2.shape
  have Hrd4 := Lib.hid hrd2
  have HS4 : Hid (Hp w [.ob (w.heap.size) 27 (lkCells (⟨1, 0⟩ : Lok)), .rd R1, .ob B1 25 (tbCells (.slice a3 t3.held.length c3) (.slice b3 t3.wait.length d3)), .rd R2, .rd R3, .rd R4] w4) := ((HS3.out).row 2 rfl (tbCells (.slice a3 t3.held.length c3) (.slice b3 t3.wait.length d3))).addrd hb R4 hin2 (fun r hr => (hnew2 r hr).elim .inl (fun h => .inr ⟨.rd R3, List.mem_of_getElem? (i := 4) rfl, h⟩))
  clear hb hin2 hrd2 hnew2
  clear HS3
  go_wp2_with (first | ((with_reducible refine wpList_store_ob 25 (.tmp 2) B1 (tbCells (.slice a4 t4.held.length c4) (.slice b4 t4.wait.length d4)) (tbCells (.slice a3 t3.held.length c3) (.slice b3 t3.wait.length d3)) 25 ?_ ?_ ?_ ?_ ?_ ?_ ?_); (exact rfl); (exact rfl); (exact (HS4.out).get 2 rfl); (exact info_tb); (exact rfl); (exact (oneCell_tb _ _ _ _ _ _)); skip) | ((with_reducible refine wpList_load_ob_w 25 (.tmp 2) B1 (tbCells (.slice a4 t4.held.length c4) (.slice b4 t4.wait.length d4)) 25 HUT.out ?_ ?_ ?_ ?_ ?_ ?_); (exact rfl); (exact rfl); (exact ((HS4.out).row 2 rfl (tbCells (.slice a4 t4.held.length c4) (.slice b4 t4.wait.length d4))).get 2 rfl); (exact rfl); (exact info_tb); simp only [Act.put, List.setIfInBounds_toArray, List.set_cons_zero, List.set_cons_succ]) | ((with_reducible refine wpList_load_ob_w 27 (.tmp 1) (w.heap.size) (lkCells (⟨1, 0⟩ : Lok)) 27 HUK.out ?_ ?_ ?_ ?_ ?_ ?_); (exact rfl); (exact rfl); (exact ((HS4.out).row 2 rfl (tbCells (.slice a4 t4.held.length c4) (.slice b4 t4.wait.length d4))).get 0 rfl); (exact rfl); (exact info_lk); simp only [Act.put, List.setIfInBounds_toArray, List.set_cons_zero, List.set_cons_succ]))
  refine ((pMode_any 1 ⟨1, 0⟩ _ Hrd4.out (((HS4.out).row 2 rfl (tbCells (.slice a4 t4.held.length c4) (.slice b4 t4.wait.length d4))).reads 5 rfl) HO4.out ⟨(by decide : (Lit.int .i64 1).wf = true), (by decide : (Lit.int .i64 0).wf = true)⟩)).mono ?_
  rintro e w5 ⟨rfl, hb⟩
  have HS5 : Hid (Hp w [.ob (w.heap.size) 27 (lkCells (⟨1, 0⟩ : Lok)), .rd R1, .ob B1 25 (tbCells (.slice a4 t4.held.length c4) (.slice b4 t4.wait.length d4)), .rd R2, .rd R3, .rd R4] w5) := ((HS4.out).row 2 rfl (tbCells (.slice a4 t4.held.length c4) (.slice b4 t4.wait.length d4))).calls hb
  clear hb
  clear HS4
  go_wp2_with fail
  have HS6 : Hid (Hp w [.ob (w.heap.size) 27 (lkCells (⟨1, 0⟩ : Lok)), .rd R1, .ob B1 25 (tbCells (.slice a4 t4.held.length c4) (.slice b4 t4.wait.length d4)), .rd R2, .rd R3, .rd R4] w5) := HS5.out
  clear HS5
  have h5 := HE5.out
  simp only [h5]
  go_wp2_with fail
  go_ret
  exact ⟨rfl, HS6.out.old⟩
end Go.Proofs.Ytcnaalbpbalgdaa
/- transactions that ask for one lock get it in the order in which they asked; a table that is nearly full -/
namespace Go.Proofs.Ytcnaalbpbalgdaa
set_option maxRecDepth 20000

def M12 (l : List Int) : Prop := ∀ m ∈ l, m = 1 ∨ m = 2
theorem M12.take {l : List Int} (h : M12 l) (i : Nat) : M12 (l.take i) := fun m hm => h m (List.mem_of_mem_take hm)
theorem M12.drop {l : List Int} (h : M12 l) (i : Nat) : M12 (l.drop i) := fun m hm => h m (List.mem_of_mem_drop hm)
def lkLimG (i : Nat) : Gr := ⟨1 + (i : Int) % 2, (i : Int) / 2 / 16, (i : Int) / 2 % 16, 1⟩
def lkLimL (n : Nat) : List Gr := (List.range n).map lkLimG
theorem lkLimL_len (n : Nat) : (lkLimL n).length = n := by unfold lkLimL; rw [List.length_map, List.length_range]
theorem lkLimL_succ (n : Nat) : lkLimL (n + 1) = lkLimL n ++ [lkLimG n] := by unfold lkLimL; rw [List.range_succ, List.map_append]; rfl
theorem mem_lkLimL {n : Nat} {x : Gr} (h : x ∈ lkLimL n) : ∃ i, i < n ∧ x = lkLimG i := by
  obtain ⟨i, h1, rfl⟩ := List.mem_map.1 h
  exact ⟨i, List.mem_range.1 h1, rfl⟩
theorem lim_up {i j : Nat} (h : i < j) : GLt (lkLimG i) (lkLimG j) := by unfold GLt lkLimG; simp only; omega
theorem lkLimL_in {n : Nat} (hn : n ≤ 1024) : TbIn ⟨lkLimL n, []⟩ := by
  refine ⟨⟨fun g hg => ?_, ?_, ?_⟩, ⟨fun g hg => (by cases hg), List.Pairwise.nil⟩⟩
  · obtain ⟨i, hi, rfl⟩ := mem_lkLimL hg
    exact ⟨by unfold lkLimG; simp only; omega, by unfold lkLimG; simp only; omega, by unfold lkLimG; simp only; omega, .inl rfl⟩
  · unfold lkLimL
    rw [List.pairwise_map]
    exact List.pairwise_lt_range.imp (fun h => lim_up h)
  · unfold lkLimL
    rw [List.pairwise_map]
    exact List.pairwise_lt_range.imp (fun _ hc => by have := hc.2.2.2; unfold lkLimG at this; simp only at this; omega)
theorem lkLimL_ok {n : Nat} (hn : n ≤ 1024) : TbOk ⟨lkLimL n, []⟩ := ⟨by show (lkLimL n).length + 0 ≤ 1024; rw [lkLimL_len]; omega, lkLimL_in hn⟩
theorem lim_find {n : Nat} (hn : n ≤ 1024) (i : Nat) (hi : i < n) : modeR (lkLimL n) (lkLimG i).tx (lkLimG i).page (lkLimG i).slot = 1 := by
  have := modeG_mem (lkLimL_in hn).held.up (x := lkLimG i) (List.mem_map.2 ⟨i, List.mem_range.2 hi, rfl⟩)
  exact this
theorem lim_full (up : Bool) : requestR ⟨lkLimL 1024, []⟩ (if up = true then ⟨1, 0, 0, 2⟩ else ⟨3, 0, 0, 1⟩) = (tbNil, false, 21) := by
  have hok := lkLimL_ok (n := 1024) (Nat.le_refl _)
  have hz : modeR (lkLimL 1024) 3 0 0 = 0 := by
    unfold modeR
    cases hq : findK (lkLimL 1024) 3 0 0 with
    | none => rfl
    | some x =>
      obtain ⟨h1, h2, _⟩ := findK_some hq
      obtain ⟨i, _, rfl⟩ := mem_lkLimL h1
      unfold lkLimG at h2; simp only at h2; omega
  have h1 : modeR (lkLimL 1024) 1 0 0 = 1 := lim_find (Nat.le_refl _) 0 (by decide)
  have hl : (lkLimL 1024).length + ([] : List Gr).length = 1024 := by rw [lkLimL_len]; rfl
  cases up
  · rw [if_neg (by decide), request_of hok ⟨by decide, by decide, by decide, .inl rfl⟩, waitR_of hok]
    rw [show wfind ([] : List Gr) 3 = none from rfl]
    simp only [Option.isSome_none, Bool.false_eq_true, if_false]
    rw [if_neg (by show ¬ (1 : Int) ≤ modeR (lkLimL 1024) 3 0 0; rw [hz]; decide), if_pos hl]
  · rw [if_pos rfl, request_of hok ⟨by decide, by decide, by decide, .inr rfl⟩, waitR_of hok]
    rw [show wfind ([] : List Gr) 1 = none from rfl]
    simp only [Option.isSome_none, Bool.false_eq_true, if_false]
    rw [if_neg (by show ¬ (2 : Int) ≤ modeR (lkLimL 1024) 1 0 0; rw [h1]; decide), if_pos hl]
theorem lim_room {n : Nat} (hn : n < 1024) (h2 : 2 ≤ n) (up : Bool) :
    (requestR ⟨lkLimL n, []⟩ (if up = true then ⟨1, 0, 0, 2⟩ else ⟨3, 0, 0, 1⟩)).2 = (!up, 0) ∧ TbOk (requestR ⟨lkLimL n, []⟩ (if up = true then ⟨1, 0, 0, 2⟩ else ⟨3, 0, 0, 1⟩)).1 := by
  have hok := lkLimL_ok (n := n) (by omega)
  have hz : modeR (lkLimL n) 3 0 0 = 0 := by
    unfold modeR
    cases hq : findK (lkLimL n) 3 0 0 with
    | none => rfl
    | some x =>
      obtain ⟨h1, h2, _⟩ := findK_some hq
      obtain ⟨i, _, rfl⟩ := mem_lkLimL h1
      unfold lkLimG at h2; simp only at h2; omega
  have h1 : modeR (lkLimL n) 1 0 0 = 1 := lim_find (by omega) 0 (by omega)
  have hl : ¬ (lkLimL n).length + ([] : List Gr).length = 1024 := by rw [lkLimL_len, List.length_nil]; omega
  cases up
  · have e : requestR ⟨lkLimL n, []⟩ ⟨3, 0, 0, 1⟩ = (settleR (addedR ⟨lkLimL n, []⟩ ⟨3, 0, 0, 1⟩), decide ((1 : Int) ≤ modeR (settleR (addedR ⟨lkLimL n, []⟩ ⟨3, 0, 0, 1⟩)).held 3 0 0), 0) := by
      rw [request_of hok ⟨by decide, by decide, by decide, .inl rfl⟩, waitR_of hok]
      rw [show wfind ([] : List Gr) 3 = none from rfl]
      simp only [Option.isSome_none, Bool.false_eq_true, if_false]
      rw [if_neg (by show ¬ (1 : Int) ≤ modeR (lkLimL n) 3 0 0; rw [hz]; decide), if_neg hl]
    have ea : addedR ⟨lkLimL n, []⟩ ⟨3, 0, 0, 1⟩ = ⟨lkLimL n, [⟨3, 0, 0, 1⟩]⟩ := by unfold addedR; rw [List.take_nil, List.drop_nil]; rfl
    have es : settleR ⟨lkLimL n, [⟨3, 0, 0, 1⟩]⟩ = ⟨holdR (lkLimL n) ⟨3, 0, 0, 1⟩, []⟩ := by
      show stepS ⟨lkLimL n, []⟩ ⟨3, 0, 0, 1⟩ = _
      refine stepS_pos ⟨fun x hx hc => ?_, fun x hx => by cases hx⟩
      obtain ⟨i, _, rfl⟩ := mem_lkLimL hx
      have := hc.2.2.2
      unfold lkLimG at this; simp only at this; omega
    have hr : (requestR ⟨lkLimL n, []⟩ ⟨3, 0, 0, 1⟩).2.2 = 0 := by rw [e]
    rw [if_neg (by decide)]
    refine ⟨?_, (request_ok hok hr).1⟩
    rw [e, ea, es, modeR_hold, if_pos ⟨rfl, rfl, rfl⟩]; rfl
  · have e : requestR ⟨lkLimL n, []⟩ ⟨1, 0, 0, 2⟩ = (settleR (addedR ⟨lkLimL n, []⟩ ⟨1, 0, 0, 2⟩), decide ((2 : Int) ≤ modeR (settleR (addedR ⟨lkLimL n, []⟩ ⟨1, 0, 0, 2⟩)).held 1 0 0), 0) := by
      rw [request_of hok ⟨by decide, by decide, by decide, .inr rfl⟩, waitR_of hok]
      rw [show wfind ([] : List Gr) 1 = none from rfl]
      simp only [Option.isSome_none, Bool.false_eq_true, if_false]
      rw [if_neg (by show ¬ (2 : Int) ≤ modeR (lkLimL n) 1 0 0; rw [h1]; decide), if_neg hl]
    have ea : addedR ⟨lkLimL n, []⟩ ⟨1, 0, 0, 2⟩ = ⟨lkLimL n, [⟨1, 0, 0, 2⟩]⟩ := by unfold addedR; rw [List.take_nil, List.drop_nil]; rfl
    have es : settleR ⟨lkLimL n, [⟨1, 0, 0, 2⟩]⟩ = ⟨lkLimL n, [⟨1, 0, 0, 2⟩]⟩ := by
      show stepS ⟨lkLimL n, []⟩ ⟨1, 0, 0, 2⟩ = _
      refine stepS_neg (fun hab => ?_)
      exact hab.1 (lkLimG 1) (List.mem_map.2 ⟨1, List.mem_range.2 (by omega), rfl⟩) ⟨by decide, by decide, by decide, .inr rfl⟩
    have hr : (requestR ⟨lkLimL n, []⟩ ⟨1, 0, 0, 2⟩).2.2 = 0 := by rw [e]
    rw [if_pos rfl]
    refine ⟨?_, (request_ok hok hr).1⟩
    rw [e, ea, es, h1]; rfl
end Go.Proofs.Ytcnaalbpbalgdaa
/- the law LocksLimits: for every input the call returns true -/
namespace Go.Proofs.Ytcnaalbpbalgdaa
open Go.RowKit
set_option maxRecDepth 20000
set_option linter.unusedSimpArgs false
set_option linter.unusedVariables false

theorem build_gr4 (t p s m : Int) (W : World) : Sem.run Try.prog (Instr.build 29 #[(0, .int .i64 t), (1, .agg (lkCells ⟨p, s⟩).toArray), (2, .int .i64 m)]) W = .ok (.agg (grCells ⟨t, p, s, m⟩).toArray) W := by kernel_rfl
theorem build_lk3 (p s : Int) (W : World) : Sem.run Try.prog (Instr.build 27 #[(0, .int .i64 p), (1, .int .i64 s)]) W = .ok (.agg (lkCells ⟨p, s⟩).toArray) W := by kernel_rfl
set_option maxHeartbeats 8000000 in
theorem limits8_any (x : Int) (up : Bool) (w : World) (h0 : 0 ≤ x ∧ x ≤ 255) :
    Calls Try.prog 6 #[.int .u8 x, .bool up] w fun e w' => e = .returned (.bool true) ∧ Below w.heap.size w w' := by
  obtain ⟨m, hm⟩ : ∃ m : Nat, x % 3 = (m : Int) := ⟨(x % 3).toNat, by omega⟩
  have hm3 : m < 3 := by omega
  have hxr : x.tmod 3 = (m : Int) := by rw [← hm]; exact Int.tmod_eq_emod_of_nonneg h0.1
  have hcv : IntKind.i64.wrap x = x := IntWalk.i64_in _ (by omega)
  obtain ⟨n, hn⟩ : ∃ n : Nat, n = 1022 + m := ⟨_, rfl⟩
  have hnw : IntKind.i64.wrap (1022 + (m : Int)) = (n : Int) := by rw [show (1022 : Int) + (m : Int) = (n : Int) by omega]; exact IntWalk.i64_in _ (by omega)
  have hnw2 : wrap64 (1022 + (m : Int)) = (n : Int) := by rw [show (1022 : Int) + (m : Int) = (n : Int) by omega]; exact IntWalk.wrap64_in _ (by omega)
  have HN : Hid (1022 ≤ n ∧ n ≤ 1024) := Lib.hid (by omega)
  have hnn : (n : Int) ≤ 1024 := by omega
  have HUX := Lib.hid under_grs
  have HX := Lib.hid h0
  clear hm hm3 hn h0
  obtain ⟨fsHUG, huHUG⟩ := under_gr
  have HUG := Lib.hid huHUG
  clear huHUG
  obtain ⟨fsHUK, huHUK⟩ := under_lk
  have HUK := Lib.hid huHUK
  clear huHUK
  obtain ⟨fsHUT, huHUT⟩ := under_tb
  have HUT := Lib.hid huHUT
  clear huHUT
  have HS0 := Lib.hid (Hp.start w)
  go_enter Try.func6, Try.ntmps6
  go_wp2_with fail
  refine (awake8 _).mono ?_
  rintro e w1 ⟨rfl, hb⟩
  have HS1 : Hid (Hp w [] w1) := (HS0.out).calls hb
  clear hb
  clear HS0
  go_wp2_with (first | ((with_reducible refine wpList_alloc_ob 25 (tbCells (.slice none 0 0) (.slice none 0 0)) ?_ ?_); (exact alloc_tb); simp only [Act.put, List.setIfInBounds_toArray, List.set_cons_zero, List.set_cons_succ]))
  have HS2 : Hid (Hp w [.ob (w1.heap.size) 25 (tbCells (.slice none 0 0) (.slice none 0 0))] (w1.alloc (.cells (tbCells (.slice none 0 0) (.slice none 0 0)).toArray 25))) := (HS1.out).put 25 (tbCells (.slice none 0 0) (.slice none 0 0))
  clear HS1
  generalize (w1.alloc (.cells (tbCells (.slice none 0 0) (.slice none 0 0)).toArray 25)) = w2 at *
  generalize w1.heap.size = B1 at *
  have HN0 := Lib.hid (HS2.nil 29 4)
  go_loopw [7] (fun iv wr => ∃ (i : Nat) (a : Option Addr) (c : Nat), iv = .int .i64 i ∧ i ≤ n ∧ Hp w [.ob B1 25 (tbCells (.slice a i c) (.slice none 0 0)), .sl (.slice a i c) 29 4 (lkLimL i).length (grRow (lkLimL i))] wr) (fun iv _ => n - (intOf iv).toNat)
  case atStart => exact ⟨0, none, 0, rfl, Nat.zero_le _, HN0.out⟩
  case round =>
    clear HN0 HS2 hnw hnw2 hcv hxr
    obtain ⟨i, a, c, rfl, hi, hs⟩ := hrel
    have HY := Lib.hid hs
    clear hs
    by_cases hlt : i < n
    · have HLt := Lib.hid hlt
      have hii : (i : Int) < (n : Int) := by omega
      have hi0 : (0 : Int) ≤ (i : Int) := by omega
      have hi1 : (i : Int) ≤ 1024 := by omega
      obtain ⟨D, hD⟩ : ∃ D, (i : Int) / 2 = D := ⟨_, rfl⟩
      obtain ⟨P, hP⟩ : ∃ P, D / 16 = P := ⟨_, rfl⟩
      obtain ⟨S, hS⟩ : ∃ S, D % 16 = S := ⟨_, rfl⟩
      obtain ⟨E, hE⟩ : ∃ E, (i : Int) % 2 = E := ⟨_, rfl⟩
      obtain ⟨T1, hT⟩ : ∃ T1, 1 + E = T1 := ⟨_, rfl⟩
      have hgo : lkLimG i = ⟨T1, P, S, 1⟩ := by rw [← hT, ← hE, ← hP, ← hS, ← hD]; rfl
      have HGo := Lib.hid hgo
      have q1 : (i : Int).tmod 2 = E := by rw [← hE]; exact Int.tmod_eq_emod_of_nonneg (by omega)
      have q2 : (i : Int).tdiv 2 = D := by rw [← hD]; exact Int.tdiv_eq_ediv_of_nonneg (by omega)
      have q3 : D.tdiv 16 = P := by rw [← hP]; exact Int.tdiv_eq_ediv_of_nonneg (by omega)
      have q4 : D.tmod 16 = S := by rw [← hS]; exact Int.tmod_eq_emod_of_nonneg (by omega)
      have b1 : 0 ≤ D ∧ D ≤ 1024 := by omega
      have b2 : 0 ≤ P ∧ P ≤ 1024 := by omega
      have b3 : 1 ≤ T1 ∧ T1 ≤ 2 := by omega
      have r1 : IntKind.i64.wrap D = D := IntWalk.i64_in _ (by omega)
      have r2 : IntKind.i64.wrap P = P := IntWalk.i64_in _ (by omega)
      have r3 : IntKind.i64.wrap T1 = T1 := IntWalk.i64_in _ (by omega)
      have s1 : wrap64 D = D := IntWalk.wrap64_in _ (by omega)
      have s2 : wrap64 P = P := IntWalk.wrap64_in _ (by omega)
      have s3 : wrap64 T1 = T1 := IntWalk.wrap64_in _ (by omega)
      clear b1 b2 b3 hgo hD hP hS hE
      have b0 : wr.cell? ⟨B1, 0, none⟩ = some (.slice a i c) := HY.out.at 0 rfl 0 rfl
      clear hlt hi
      go_wp2_with (first | ((with_reducible refine wpList_build_v (d := some 34) 27 (.agg (lkCells (⟨P, S⟩ : Lok)).toArray) ?_ ?_); (intro W; simp only [List.map_toArray, List.map_cons, List.map_nil]; exact build_lk3 _ _ W); simp only [Act.put, List.setIfInBounds_toArray, List.set_cons_zero, List.set_cons_succ]) | ((with_reducible refine wpList_build_v (d := some 35) 29 (.agg (grCells (⟨T1, P, S, 1⟩ : Gr)).toArray) ?_ ?_); (intro W; simp only [List.map_toArray, List.map_cons, List.map_nil]; exact build_gr4 _ _ _ _ W); simp only [Act.put, List.setIfInBounds_toArray, List.set_cons_zero, List.set_cons_succ]) | ((with_reducible refine wpList_build_obs 23 1 elem_gr HUX.out [grCells (⟨T1, P, S, 1⟩ : Gr)] ?_ ?_ ?_ ?_ ?_ ?_); (exact (List.forall_mem_cons.2 ⟨rfl, (fun _ h => absurd h List.not_mem_nil)⟩)); (exact Nat.succ_pos _); (simp only [List.length_cons, List.length_nil]; omega); (exact rfl); (simp only [List.map_toArray, List.map_cons, List.map_nil, List.zipIdx_cons, List.zipIdx_nil]; exact rfl); simp only [Act.put, List.setIfInBounds_toArray, List.set_cons_zero, List.set_cons_succ]) | ((with_reducible refine wpList_append_hp ((HY.out).put 29 (([grCells (⟨T1, P, S, 1⟩ : Gr)] : List (List Value)).flatMap id)) (.tmp 24) (.tmp 36) 23 1 (v := (.slice a i c)) (e := 29) (z := 4) (n := (lkLimL i).length) (xs := grRow (lkLimL i)) ?_ 2 (b := (wr.heap.size)) (t' := 29) (ys := ([grCells (⟨T1, P, S, 1⟩ : Gr)] : List (List Value)).flatMap id) ?_ HUX.out elem_gr 1 1 ?_ ?_ ?_ ?_ ?_ ?_); (exact rfl); (exact rfl); (exact rfl); (exact rfl); (exact rfl); (exact (by intro u hu; simp only [List.flatMap_cons, List.flatMap_nil, List.append_nil, id] at hu; exact one_gr _ u hu)); (exact (by rw [lkLimL_len]; omega))))
      intro v41 w41 hs hnil
      have HS42 : Hid (Hp w [.ob B1 25 (tbCells (.slice a i c) (.slice none 0 0)), .sl v41 29 4 ((lkLimL i).length + 1) ((grRow (lkLimL i)) ++ (([grCells (⟨T1, P, S, 1⟩ : Gr)] : List (List Value)).flatMap id)), .ob (wr.heap.size) 29 (([grCells (⟨T1, P, S, 1⟩ : Gr)] : List (List Value)).flatMap id)] w41) := hs
      clear hs
      clear HY
      generalize wr.heap.size = B41 at *
      have HS43 : Hid (Hp w [.ob B1 25 (tbCells (.slice a i c) (.slice none 0 0)), .sl v41 29 4 ((lkLimL i).length + 1) ((grRow (lkLimL i)) ++ (([grCells (⟨T1, P, S, 1⟩ : Gr)] : List (List Value)).flatMap id))] w41) := HS42.out.pull [0, 1] rfl (pull_nd HS42.out.nd [0, 1] rfl (by decide))
      clear HS42
      have hz : Hp w [.ob B1 25 (tbCells (.slice a i c) (.slice none 0 0)), .sl v41 29 4 (lkLimL (i + 1)).length (grRow (lkLimL (i + 1)))] w41 := by
        have h9 := hp_snoc (A := [.ob B1 25 (tbCells (.slice a i c) (.slice none 0 0))]) (l := lkLimL i) (x := ⟨T1, P, S, 1⟩) HS43.out
        rw [← HGo.out, ← lkLimL_succ] at h9
        exact h9
      obtain ⟨a3, c3, hv3⟩ := own_slice (hz.own 1 rfl)
      rw [lkLimL_len] at hv3
      subst hv3
      have HZ := Lib.hid hz
      clear hz b0 HS43
      have q5 := HZ.out.at 0 rfl 0 rfl
      have f5 := HZ.out.frozen 0 rfl 0
      go_wp2_with fail
      clear q5 f5
      have hz2 := HZ.out.set 0 rfl 0 (.slice a3 (i + 1) c3)
      have HZ2 : Hid (Hp w [.ob B1 25 (tbCells (.slice a3 (i + 1) c3) (.slice none 0 0)), .sl (.slice a3 (i + 1) c3) 29 4 (lkLimL (i + 1)).length (grRow (lkLimL (i + 1)))] (w41.setCell ⟨B1, 0, none⟩ (.slice a3 (i + 1) c3))) := hz2
      clear hz2 HZ
      go_roundw
      case rel => exact ⟨i + 1, a3, c3, by go_num, HLt.out, HZ2.out⟩
      case measure => simp [intOf]; try (have := HLt.out; omega)
    · obtain rfl : i = n := by omega
      clear hlt hi
      obtain ⟨R0, h7, hn7, hs7⟩ := Hp.ownrd2 (A := [.ob B1 25 (tbCells (.slice a i c) (.slice none 0 0))]) HY.out
      have HR7 : Hid (TbRd (.slice a i c) (.slice none 0 0) ⟨lkLimL i, []⟩ R0) := Lib.hid ⟨h7, SlRd.nil _ _⟩
      have HS7 := Lib.hid hs7
      clear h7 hn7 hs7 HY
      have HF := Lib.hid (fun h : i = 1024 => lim_full up)
      have hnl : i < 1024 → _ := fun h => lim_room (n := i) h (by have := HN.out; omega) up
      have HRm := Lib.hid hnl
      have HG : Hid (GoodTb ⟨lkLimL i, []⟩) := Lib.hid (lkLimL_ok (by have := HN.out; omega)).good
      obtain ⟨u, b, cd, hu⟩ : ∃ u b cd, requestR ⟨lkLimL i, []⟩ (if up = true then ⟨1, 0, 0, 2⟩ else ⟨3, 0, 0, 1⟩) = (u, b, cd) := ⟨_, _, _, rfl⟩
      have HU := Lib.hid hu
      clear hnl hu
      cases up
      case false =>
        have HU2 : Hid (requestR ⟨lkLimL i, []⟩ ⟨3, 0, 0, 1⟩ = (u, b, cd)) := Lib.hid (by have := HU.out; rwa [if_neg (by decide)] at this)
        go_wp2_with (first | ((with_reducible refine wpList_build_v (d := some 39) 27 (.agg (lkCells (⟨0, 0⟩ : Lok)).toArray) ?_ ?_); (intro W; simp only [List.map_toArray, List.map_cons, List.map_nil]; exact build_lk1 _ W); simp only [Act.put, List.setIfInBounds_toArray, List.set_cons_zero, List.set_cons_succ]) | ((with_reducible refine wpList_build_v (d := some 40) 29 (.agg (grCells (⟨3, 0, 0, 1⟩ : Gr)).toArray) ?_ ?_); (intro W; simp only [List.map_toArray, List.map_cons, List.map_nil]; exact build_gr4 _ _ _ _ W); simp only [Act.put, List.setIfInBounds_toArray, List.set_cons_zero, List.set_cons_succ]) | ((with_reducible refine wpList_alloc_ob 29 (grCells grNil) ?_ ?_); (exact alloc_gr); simp only [Act.put, List.setIfInBounds_toArray, List.set_cons_zero, List.set_cons_succ]) | ((with_reducible refine wpList_store_ob 29 (.tmp 8) (wr.heap.size) (grCells (⟨3, 0, 0, 1⟩ : Gr)) (grCells grNil) 29 ?_ ?_ ?_ ?_ ?_ ?_ ?_); (exact rfl); (exact rfl); (exact ((HS7.out).put 29 (grCells grNil)).get 2 rfl); (exact info_gr); (exact rfl); (exact (oneCell_gr _)); skip) | ((with_reducible refine wpList_load_ob 25 (.tmp 5) B1 (tbCells (.slice a i c) (.slice none 0 0)) 25 HUT.out ?_ ?_ ?_ ?_ ?_); (exact rfl); (exact (((HS7.out).put 29 (grCells grNil)).row 2 rfl (grCells (⟨3, 0, 0, 1⟩ : Gr))).get 0 rfl); (exact rfl); (exact info_tb); simp only [Act.put, List.setIfInBounds_toArray, List.set_cons_zero, List.set_cons_succ]) | ((with_reducible refine wpList_load_ob 29 (.tmp 8) (wr.heap.size) (grCells (⟨3, 0, 0, 1⟩ : Gr)) 29 HUG.out ?_ ?_ ?_ ?_ ?_); (exact rfl); (exact (((HS7.out).put 29 (grCells grNil)).row 2 rfl (grCells (⟨3, 0, 0, 1⟩ : Gr))).get 2 rfl); (exact rfl); (exact info_gr); simp only [Act.put, List.setIfInBounds_toArray, List.set_cons_zero, List.set_cons_succ]))
        refine (tb3_as HU2.out (prequest_any ⟨3, 0, 0, 1⟩ _ HR7.out ((((HS7.out).put 29 (grCells grNil)).row 2 rfl (grCells (⟨3, 0, 0, 1⟩ : Gr))).reads 1 rfl) HG.out ⟨by decide, by decide, by decide, by decide⟩)).mono ?_
        rintro e w201 ⟨h9, v9, R9, rfl, hrd2, hin2, hnew2, hb⟩
        obtain ⟨a9, c9, rfl, _, _⟩ := hrd2.1.shape
        obtain ⟨b9, d9, rfl, _, _⟩ := hrd2.2.shape
        have Hrd9 := Lib.hid hrd2
        have HS201 : Hid (Hp w [.ob B1 25 (tbCells (.slice a i c) (.slice none 0 0)), .rd R0, .ob (wr.heap.size) 29 (grCells (⟨3, 0, 0, 1⟩ : Gr)), .rd R9] w201) := (((HS7.out).put 29 (grCells grNil)).row 2 rfl (grCells (⟨3, 0, 0, 1⟩ : Gr))).addrd hb R9 hin2 (fun r hr => (hnew2 r hr).elim .inl (fun h => .inr ⟨.rd R0, List.mem_of_getElem? (i := 1) rfl, h⟩))
        clear hb hin2 hrd2 hnew2
        clear HS7
        generalize wr.heap.size = B201 at *
        go_upto_region 13 with (first | ((with_reducible refine wpList_alloc_ob 25 (tbCells (.slice none 0 0) (.slice none 0 0)) ?_ ?_); (exact alloc_tb); simp only [Act.put, List.setIfInBounds_toArray, List.set_cons_zero, List.set_cons_succ]) | ((with_reducible refine wpList_store_ob 25 (.tmp 9) (w201.heap.size) (tbCells (.slice a9 u.held.length c9) (.slice b9 u.wait.length d9)) (tbCells (.slice none 0 0) (.slice none 0 0)) 25 ?_ ?_ ?_ ?_ ?_ ?_ ?_); (exact rfl); (exact rfl); (exact ((HS201.out).put 25 (tbCells (.slice none 0 0) (.slice none 0 0))).get 4 rfl); (exact info_tb); (exact rfl); (exact (oneCell_tb _ _ _ _ _ _)); skip))
        have HS202 : Hid (Hp w [.ob B1 25 (tbCells (.slice a i c) (.slice none 0 0)), .rd R0, .ob B201 29 (grCells (⟨3, 0, 0, 1⟩ : Gr)), .rd R9, .ob (w201.heap.size) 25 (tbCells (.slice a9 u.held.length c9) (.slice b9 u.wait.length d9))] ((w201.alloc (.cells (tbCells (.slice none 0 0) (.slice none 0 0)).toArray 25)).setRow (w201.heap.size) (tbCells (.slice a9 u.held.length c9) (.slice b9 u.wait.length d9)).toArray)) := ((HS201.out).put 25 (tbCells (.slice none 0 0) (.slice none 0 0))).row 4 rfl (tbCells (.slice a9 u.held.length c9) (.slice b9 u.wait.length d9))
        clear HS201
        generalize ((w201.alloc (.cells (tbCells (.slice none 0 0) (.slice none 0 0)).toArray 25)).setRow (w201.heap.size) (tbCells (.slice a9 u.held.length c9) (.slice b9 u.wait.length d9)).toArray) = w202 at *
        generalize w201.heap.size = B202 at *
        by_cases hi4 : i = 1024
        · have hfl := HF.out hi4
          have hx := HU.out
          rw [hi4, hfl] at hx
          obtain ⟨rfl, rfl, rfl⟩ : tbNil = u ∧ false = b ∧ 21 = cd := by simpa [Prod.ext_iff] using hx
          have e1 : ((i : Int) == 1024) = true := by simp; omega
          have hul : tbNil.held.length = 0 := rfl
          rw [hul] at HS202
          have q0 := HS202.out.at 4 rfl 0 rfl
          clear hi4 hfl hx hul
          go_wp2_with fail
          go_ret
          exact ⟨rfl, HS202.out.old⟩
        · have hrm := HRm.out (by have := HN.out; omega)
          rw [HU.out] at hrm
          obtain ⟨hr1, hr2⟩ := hrm
          obtain ⟨rfl, rfl⟩ : b = true ∧ cd = 0 := by simpa [Prod.ext_iff] using hr1
          have e1 : ((i : Int) == 1024) = false := by simp; omega
          have HO := Lib.hid hr2
          have HVa : Hid (∀ W, RdIn W R9 → Calls Try.prog 12 #[.agg (tbCells (.slice a9 u.held.length c9) (.slice b9 u.wait.length d9)).toArray] W fun e w' => e = .returned (.bool true) ∧ Below W.heap.size W w') := Lib.hid (fun W h => by have := plkvalid_any W Hrd9.out h HO.out.good; rwa [tbOkB_iff.2 HO.out] at this)
          have q0 := HS202.out.at 4 rfl 0 rfl
          have q1 := HS202.out.at 4 rfl 1 rfl
          clear hi4 hr1 hr2
          go_wp2_with fail
          refine (HVa.out _ (HS202.out.reads 3 rfl)).mono ?_
          rintro e w99 ⟨rfl, hb⟩
          have HSz := Lib.hid (HS202.out.calls hb)
          clear hb q0 q1
          go_wp2_with fail
          go_ret
          exact ⟨rfl, HSz.out.old⟩
      case true =>
        have HU2 : Hid (requestR ⟨lkLimL i, []⟩ ⟨1, 0, 0, 2⟩ = (u, b, cd)) := Lib.hid (by have := HU.out; rwa [if_pos rfl] at this)
        go_wp2_with (first | ((with_reducible refine wpList_build_v (d := some 39) 27 (.agg (lkCells (⟨0, 0⟩ : Lok)).toArray) ?_ ?_); (intro W; simp only [List.map_toArray, List.map_cons, List.map_nil]; exact build_lk1 _ W); simp only [Act.put, List.setIfInBounds_toArray, List.set_cons_zero, List.set_cons_succ]) | ((with_reducible refine wpList_build_v (d := some 40) 29 (.agg (grCells (⟨3, 0, 0, 1⟩ : Gr)).toArray) ?_ ?_); (intro W; simp only [List.map_toArray, List.map_cons, List.map_nil]; exact build_gr4 _ _ _ _ W); simp only [Act.put, List.setIfInBounds_toArray, List.set_cons_zero, List.set_cons_succ]) | ((with_reducible refine wpList_alloc_ob 29 (grCells grNil) ?_ ?_); (exact alloc_gr); simp only [Act.put, List.setIfInBounds_toArray, List.set_cons_zero, List.set_cons_succ]) | ((with_reducible refine wpList_store_ob 29 (.tmp 8) (wr.heap.size) (grCells (⟨3, 0, 0, 1⟩ : Gr)) (grCells grNil) 29 ?_ ?_ ?_ ?_ ?_ ?_ ?_); (exact rfl); (exact rfl); (exact ((HS7.out).put 29 (grCells grNil)).get 2 rfl); (exact info_gr); (exact rfl); (exact (oneCell_gr _)); skip) | ((with_reducible refine wpList_build_v (d := some 42) 27 (.agg (lkCells (⟨0, 0⟩ : Lok)).toArray) ?_ ?_); (intro W; simp only [List.map_toArray, List.map_cons, List.map_nil]; exact build_lk1 _ W); simp only [Act.put, List.setIfInBounds_toArray, List.set_cons_zero, List.set_cons_succ]) | ((with_reducible refine wpList_build_v (d := some 43) 29 (.agg (grCells (⟨1, 0, 0, 2⟩ : Gr)).toArray) ?_ ?_); (intro W; simp only [List.map_toArray, List.map_cons, List.map_nil]; exact build_gr4 _ _ _ _ W); simp only [Act.put, List.setIfInBounds_toArray, List.set_cons_zero, List.set_cons_succ]) | ((with_reducible refine wpList_store_ob 29 (.tmp 8) (wr.heap.size) (grCells (⟨1, 0, 0, 2⟩ : Gr)) (grCells (⟨3, 0, 0, 1⟩ : Gr)) 29 ?_ ?_ ?_ ?_ ?_ ?_ ?_); (exact rfl); (exact rfl); (exact (((HS7.out).put 29 (grCells grNil)).row 2 rfl (grCells (⟨3, 0, 0, 1⟩ : Gr))).get 2 rfl); (exact info_gr); (exact rfl); (exact (oneCell_gr _)); skip) | ((with_reducible refine wpList_load_ob 25 (.tmp 5) B1 (tbCells (.slice a i c) (.slice none 0 0)) 25 HUT.out ?_ ?_ ?_ ?_ ?_); (exact rfl); (exact ((((HS7.out).put 29 (grCells grNil)).row 2 rfl (grCells (⟨3, 0, 0, 1⟩ : Gr))).row 2 rfl (grCells (⟨1, 0, 0, 2⟩ : Gr))).get 0 rfl); (exact rfl); (exact info_tb); simp only [Act.put, List.setIfInBounds_toArray, List.set_cons_zero, List.set_cons_succ]) | ((with_reducible refine wpList_load_ob 29 (.tmp 8) (wr.heap.size) (grCells (⟨1, 0, 0, 2⟩ : Gr)) 29 HUG.out ?_ ?_ ?_ ?_ ?_); (exact rfl); (exact ((((HS7.out).put 29 (grCells grNil)).row 2 rfl (grCells (⟨3, 0, 0, 1⟩ : Gr))).row 2 rfl (grCells (⟨1, 0, 0, 2⟩ : Gr))).get 2 rfl); (exact rfl); (exact info_gr); simp only [Act.put, List.setIfInBounds_toArray, List.set_cons_zero, List.set_cons_succ]))
        refine (tb3_as HU2.out (prequest_any ⟨1, 0, 0, 2⟩ _ HR7.out (((((HS7.out).put 29 (grCells grNil)).row 2 rfl (grCells (⟨3, 0, 0, 1⟩ : Gr))).row 2 rfl (grCells (⟨1, 0, 0, 2⟩ : Gr))).reads 1 rfl) HG.out ⟨by decide, by decide, by decide, by decide⟩)).mono ?_
        rintro e w301 ⟨h9, v9, R9, rfl, hrd2, hin2, hnew2, hb⟩
        obtain ⟨a9, c9, rfl, _, _⟩ := hrd2.1.shape
        obtain ⟨b9, d9, rfl, _, _⟩ := hrd2.2.shape
        have Hrd9 := Lib.hid hrd2
        have HS301 : Hid (Hp w [.ob B1 25 (tbCells (.slice a i c) (.slice none 0 0)), .rd R0, .ob (wr.heap.size) 29 (grCells (⟨1, 0, 0, 2⟩ : Gr)), .rd R9] w301) := ((((HS7.out).put 29 (grCells grNil)).row 2 rfl (grCells (⟨3, 0, 0, 1⟩ : Gr))).row 2 rfl (grCells (⟨1, 0, 0, 2⟩ : Gr))).addrd hb R9 hin2 (fun r hr => (hnew2 r hr).elim .inl (fun h => .inr ⟨.rd R0, List.mem_of_getElem? (i := 1) rfl, h⟩))
        clear hb hin2 hrd2 hnew2
        clear HS7
        generalize wr.heap.size = B301 at *
        go_upto_region 13 with (first | ((with_reducible refine wpList_alloc_ob 25 (tbCells (.slice none 0 0) (.slice none 0 0)) ?_ ?_); (exact alloc_tb); simp only [Act.put, List.setIfInBounds_toArray, List.set_cons_zero, List.set_cons_succ]) | ((with_reducible refine wpList_store_ob 25 (.tmp 9) (w301.heap.size) (tbCells (.slice a9 u.held.length c9) (.slice b9 u.wait.length d9)) (tbCells (.slice none 0 0) (.slice none 0 0)) 25 ?_ ?_ ?_ ?_ ?_ ?_ ?_); (exact rfl); (exact rfl); (exact ((HS301.out).put 25 (tbCells (.slice none 0 0) (.slice none 0 0))).get 4 rfl); (exact info_tb); (exact rfl); (exact (oneCell_tb _ _ _ _ _ _)); skip))
        have HS302 : Hid (Hp w [.ob B1 25 (tbCells (.slice a i c) (.slice none 0 0)), .rd R0, .ob B301 29 (grCells (⟨1, 0, 0, 2⟩ : Gr)), .rd R9, .ob (w301.heap.size) 25 (tbCells (.slice a9 u.held.length c9) (.slice b9 u.wait.length d9))] ((w301.alloc (.cells (tbCells (.slice none 0 0) (.slice none 0 0)).toArray 25)).setRow (w301.heap.size) (tbCells (.slice a9 u.held.length c9) (.slice b9 u.wait.length d9)).toArray)) := ((HS301.out).put 25 (tbCells (.slice none 0 0) (.slice none 0 0))).row 4 rfl (tbCells (.slice a9 u.held.length c9) (.slice b9 u.wait.length d9))
        clear HS301
        generalize ((w301.alloc (.cells (tbCells (.slice none 0 0) (.slice none 0 0)).toArray 25)).setRow (w301.heap.size) (tbCells (.slice a9 u.held.length c9) (.slice b9 u.wait.length d9)).toArray) = w302 at *
        generalize w301.heap.size = B302 at *
        by_cases hi4 : i = 1024
        · have hfl := HF.out hi4
          have hx := HU.out
          rw [hi4, hfl] at hx
          obtain ⟨rfl, rfl, rfl⟩ : tbNil = u ∧ false = b ∧ 21 = cd := by simpa [Prod.ext_iff] using hx
          have e1 : ((i : Int) == 1024) = true := by simp; omega
          have hul : tbNil.held.length = 0 := rfl
          rw [hul] at HS302
          have q0 := HS302.out.at 4 rfl 0 rfl
          clear hi4 hfl hx hul
          go_wp2_with fail
          go_ret
          exact ⟨rfl, HS302.out.old⟩
        · have hrm := HRm.out (by have := HN.out; omega)
          rw [HU.out] at hrm
          obtain ⟨hr1, hr2⟩ := hrm
          obtain ⟨rfl, rfl⟩ : b = false ∧ cd = 0 := by simpa [Prod.ext_iff] using hr1
          have e1 : ((i : Int) == 1024) = false := by simp; omega
          have HO := Lib.hid hr2
          have HVa : Hid (∀ W, RdIn W R9 → Calls Try.prog 12 #[.agg (tbCells (.slice a9 u.held.length c9) (.slice b9 u.wait.length d9)).toArray] W fun e w' => e = .returned (.bool true) ∧ Below W.heap.size W w') := Lib.hid (fun W h => by have := plkvalid_any W Hrd9.out h HO.out.good; rwa [tbOkB_iff.2 HO.out] at this)
          have q0 := HS302.out.at 4 rfl 0 rfl
          have q1 := HS302.out.at 4 rfl 1 rfl
          clear hi4 hr1 hr2
          go_wp2_with fail
          refine (HVa.out _ (HS302.out.reads 3 rfl)).mono ?_
          rintro e w99 ⟨rfl, hb⟩
          have HSz := Lib.hid (HS302.out.calls hb)
          clear hb q0 q1
          go_wp2_with fail
          go_ret
          exact ⟨rfl, HSz.out.old⟩
end Go.Proofs.Ytcnaalbpbalgdaa
