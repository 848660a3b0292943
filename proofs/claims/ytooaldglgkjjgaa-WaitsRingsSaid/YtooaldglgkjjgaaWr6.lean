/- the law WaitsRings: for every input the call returns true -/
import Derived.Test.YtooaldglgkjjgaaWr5
namespace Go.Proofs.Ytooaldglgkjjgaa
open Go.RowKit
set_option maxRecDepth 20000
set_option linter.unusedSimpArgs false
set_option linter.unusedVariables false

theorem build_lkp (p : Int) (W : World) : Sem.run Try.prog (Instr.build 27 #[(0, .int .i64 p)]) W = .ok (.agg (lkCells ⟨p, 0⟩).toArray) W := by kernel_rfl
theorem build_gr4 (t p s m : Int) (W : World) : Sem.run Try.prog (Instr.build 29 #[(0, .int .i64 t), (1, .agg (lkCells ⟨p, s⟩).toArray), (2, .int .i64 m)]) W = .ok (.agg (grCells ⟨t, p, s, m⟩).toArray) W := by kernel_rfl
def hL (i : Nat) : List Gr := (List.range i).map ringH
def wL (m i : Nat) : List Gr := (List.range i).map (ringW m)
theorem hL_len (n : Nat) : (hL n).length = n := by unfold hL; rw [List.length_map, List.length_range]
theorem wL_len (m n : Nat) : (wL m n).length = n := by unfold wL; rw [List.length_map, List.length_range]
theorem hL_succ (n : Nat) : hL (n + 1) = hL n ++ [ringH n] := by unfold hL; rw [List.range_succ, List.map_append]; rfl
theorem wL_succ (m n : Nat) : wL m (n + 1) = wL m n ++ [ringW m n] := by unfold wL; rw [List.range_succ, List.map_append]; rfl
theorem ring_mod2 (k i j : Nat) : ((k : Int) + (i : Int)).tmod (j : Int) = (((k + i) % j : Nat) : Int) := by
  rw [Int.tmod_eq_emod_of_nonneg (by omega), Int.natCast_emod, Int.natCast_add]
theorem ring_mod (i m : Nat) : ((i : Int) + 1).tmod (m : Int) = (((i + 1) % m : Nat) : Int) := ring_mod2 i 1 m
set_option maxHeartbeats 16000000 in
theorem rings9_any (x : Int) (gap : Bool) (y : Int) (w : World) (h0 : 0 ≤ x ∧ x ≤ 255) (h9 : 0 ≤ y ∧ y ≤ 255) :
    Calls Try.prog 4 #[.int .u8 x, .bool gap, .int .u8 y] w fun e w' => e = .returned (.bool true) ∧ Below w.heap.size w w' := by
  obtain ⟨d, hd⟩ : ∃ d : Nat, x % 10 = (d : Int) := ⟨(x % 10).toNat, by omega⟩
  have hd10 : d < 10 := by omega
  have hxr : x.tmod 10 = (d : Int) := by rw [← hd]; exact Int.tmod_eq_emod_of_nonneg h0.1
  have hcv : IntKind.i64.wrap x = x := IntWalk.i64_in _ (by omega)
  obtain ⟨m, hm⟩ : ∃ m : Nat, m = 2 + d := ⟨_, rfl⟩
  obtain ⟨p, hp⟩ : ∃ p : Nat, m = p + 1 := ⟨m - 1, by omega⟩
  have hnw : IntKind.i64.wrap (2 + (d : Int)) = (m : Int) := by rw [show (2 : Int) + (d : Int) = (m : Int) by omega]; exact IntWalk.i64_in _ (by omega)
  have hnw2 : wrap64 (2 + (d : Int)) = (m : Int) := by rw [show (2 : Int) + (d : Int) = (m : Int) by omega]; exact IntWalk.wrap64_in _ (by omega)
  have hpw : IntKind.i64.wrap ((m : Int) - 1) = (p : Int) := by rw [show (m : Int) - 1 = (p : Int) by omega]; exact IntWalk.i64_in _ (by omega)
  have hpw2 : wrap64 ((m : Int) - 1) = (p : Int) := by rw [show (m : Int) - 1 = (p : Int) by omega]; exact IntWalk.wrap64_in _ (by omega)
  have HM : Hid (2 ≤ m ∧ m < 12 ∧ m = p + 1) := Lib.hid (by omega)
  have hmm : (m : Int) ≤ 12 := by omega
  have hm1 : (2 : Int) ≤ (m : Int) := by omega
  obtain ⟨n, hn⟩ : ∃ n : Nat, n = if gap = true then p else m := ⟨_, rfl⟩
  have HNn : Hid (n ≤ m ∧ (gap = true → n = p) ∧ (gap = false → n = m)) := Lib.hid (by subst hn; cases gap <;> simp <;> omega)
  have HY9 := Lib.hid h9
  have HUX := Lib.hid under_grs
  clear hd hd10 h0 hm hp hn h9
  obtain ⟨fsHUG, huHUG⟩ := under_gr
  have HUG := Lib.hid huHUG
  clear huHUG
  obtain ⟨fsHUK, huHUK⟩ := under_lk
  have HUK := Lib.hid huHUK
  clear huHUK
  obtain ⟨fsHUT, huHUT⟩ := under_tb
  have HUT := Lib.hid huHUT
  clear huHUT
  have HS0 := Lib.hid (Hp.start w)
  go_enter Try.func4, Try.ntmps4
  go_wp2_with fail
  refine (awake9 _).mono ?_
  rintro e w1 ⟨rfl, hb⟩
  have HS1 : Hid (Hp w [] w1) := (HS0.out).calls hb
  clear hb
  clear HS0
  go_wp2_with (first | ((with_reducible refine wpList_alloc_ob 25 (tbCells (.slice none 0 0) (.slice none 0 0)) ?_ ?_); (exact alloc_tb); simp only [Act.put, List.setIfInBounds_toArray, List.set_cons_zero, List.set_cons_succ]))
  have HS2 : Hid (Hp w [.ob (w1.heap.size) 25 (tbCells (.slice none 0 0) (.slice none 0 0))] (w1.alloc (.cells (tbCells (.slice none 0 0) (.slice none 0 0)).toArray 25))) := (HS1.out).put 25 (tbCells (.slice none 0 0) (.slice none 0 0))
  clear HS1
  generalize (w1.alloc (.cells (tbCells (.slice none 0 0) (.slice none 0 0)).toArray 25)) = w2 at *
  generalize w1.heap.size = B1 at *
  have HN0 := Lib.hid (HS2.nil 29 4)
  go_loopw [9] (fun iv wr => ∃ (i : Nat) (a : Option Addr) (c : Nat), iv = .int .i64 i ∧ i ≤ m ∧ Hp w [.ob B1 25 (tbCells (.slice a i c) (.slice none 0 0)), .sl (.slice a i c) 29 4 (hL i).length (grRow (hL i))] wr) (fun iv _ => m - (intOf iv).toNat)
  case atStart => exact ⟨0, none, 0, rfl, Nat.zero_le _, HN0.out⟩
  case round =>
    clear HN0 HS2 hnw hnw2 hcv hxr
    obtain ⟨i, a, c, rfl, hi, hs⟩ := hrel
    have HY := Lib.hid hs
    clear hs
    by_cases hlt : i < m
    · have HLt := Lib.hid hlt
      have hii : (i : Int) < (m : Int) := by omega
      have hi0 : (0 : Int) ≤ (i : Int) := by omega
      have hi1 : (i : Int) ≤ 12 := by omega
      have b0 : wr.cell? ⟨B1, 0, none⟩ = some (.slice a i c) := HY.out.at 0 rfl 0 rfl
      clear hlt hi hpw hpw2
      go_wp2_with (first | ((with_reducible refine wpList_build_v (d := some 30) 27 (.agg (lkCells (⟨(i : Int), 0⟩ : Lok)).toArray) ?_ ?_); (intro W; simp only [List.map_toArray, List.map_cons, List.map_nil]; exact build_lkp _ W); simp only [Act.put, List.setIfInBounds_toArray, List.set_cons_zero, List.set_cons_succ]) | ((with_reducible refine wpList_build_v (d := some 31) 29 (.agg (grCells (⟨(i : Int) + 1, (i : Int), 0, 2⟩ : Gr)).toArray) ?_ ?_); (intro W; simp only [List.map_toArray, List.map_cons, List.map_nil]; exact build_gr4 _ _ _ _ W); simp only [Act.put, List.setIfInBounds_toArray, List.set_cons_zero, List.set_cons_succ]) | ((with_reducible refine wpList_build_obs 23 1 elem_gr HUX.out [grCells (⟨(i : Int) + 1, (i : Int), 0, 2⟩ : Gr)] ?_ ?_ ?_ ?_ ?_ ?_); (exact (List.forall_mem_cons.2 ⟨rfl, (fun _ h => absurd h List.not_mem_nil)⟩)); (exact Nat.succ_pos _); (simp only [List.length_cons, List.length_nil]; omega); (exact rfl); (simp only [List.map_toArray, List.map_cons, List.map_nil, List.zipIdx_cons, List.zipIdx_nil]; exact rfl); simp only [Act.put, List.setIfInBounds_toArray, List.set_cons_zero, List.set_cons_succ]) | ((with_reducible refine wpList_append_hp ((HY.out).put 29 (([grCells (⟨(i : Int) + 1, (i : Int), 0, 2⟩ : Gr)] : List (List Value)).flatMap id)) (.tmp 26) (.tmp 32) 23 1 (v := (.slice a i c)) (e := 29) (z := 4) (n := (hL i).length) (xs := grRow (hL i)) ?_ 2 (b := (wr.heap.size)) (t' := 29) (ys := ([grCells (⟨(i : Int) + 1, (i : Int), 0, 2⟩ : Gr)] : List (List Value)).flatMap id) ?_ HUX.out elem_gr 1 1 ?_ ?_ ?_ ?_ ?_ ?_); (exact rfl); (exact rfl); (exact rfl); (exact rfl); (exact rfl); (exact (by intro u hu; simp only [List.flatMap_cons, List.flatMap_nil, List.append_nil, id] at hu; exact one_gr _ u hu)); (exact (by rw [hL_len]; omega))))
      intro v41 w41 hs hnil
      have HS42 : Hid (Hp w [.ob B1 25 (tbCells (.slice a i c) (.slice none 0 0)), .sl v41 29 4 ((hL i).length + 1) ((grRow (hL i)) ++ (([grCells (⟨(i : Int) + 1, (i : Int), 0, 2⟩ : Gr)] : List (List Value)).flatMap id)), .ob (wr.heap.size) 29 (([grCells (⟨(i : Int) + 1, (i : Int), 0, 2⟩ : Gr)] : List (List Value)).flatMap id)] w41) := hs
      clear hs
      clear HY
      generalize wr.heap.size = B41 at *
      have HS43 : Hid (Hp w [.ob B1 25 (tbCells (.slice a i c) (.slice none 0 0)), .sl v41 29 4 ((hL i).length + 1) ((grRow (hL i)) ++ (([grCells (⟨(i : Int) + 1, (i : Int), 0, 2⟩ : Gr)] : List (List Value)).flatMap id))] w41) := HS42.out.pull [0, 1] rfl (pull_nd HS42.out.nd [0, 1] rfl (by decide))
      clear HS42
      have hz : Hp w [.ob B1 25 (tbCells (.slice a i c) (.slice none 0 0)), .sl v41 29 4 (hL (i + 1)).length (grRow (hL (i + 1)))] w41 := by
        have h9 := hp_snoc (A := [.ob B1 25 (tbCells (.slice a i c) (.slice none 0 0))]) (l := hL i) (x := ⟨(i : Int) + 1, (i : Int), 0, 2⟩) HS43.out
        rw [hL_succ]
        exact h9
      obtain ⟨a3, c3, hv3⟩ := own_slice (hz.own 1 rfl)
      rw [hL_len] at hv3
      subst hv3
      have HZ := Lib.hid hz
      clear hz b0 HS43
      have q5 := HZ.out.at 0 rfl 0 rfl
      have f5 := HZ.out.frozen 0 rfl 0
      go_wp2_with fail
      clear q5 f5
      have hz2 := HZ.out.set 0 rfl 0 (.slice a3 (i + 1) c3)
      have HZ2 : Hid (Hp w [.ob B1 25 (tbCells (.slice a3 (i + 1) c3) (.slice none 0 0)), .sl (.slice a3 (i + 1) c3) 29 4 (hL (i + 1)).length (grRow (hL (i + 1)))] (w41.setCell ⟨B1, 0, none⟩ (.slice a3 (i + 1) c3))) := hz2
      clear hz2 HZ
      go_roundw
      case rel => exact ⟨i + 1, a3, c3, by go_num, HLt.out, HZ2.out⟩
      case measure => simp [intOf]; try (have := HLt.out; omega)
    · obtain rfl : i = m := by omega
      clear hlt hi
      have HN1 := Lib.hid (HY.out.nil 29 4)
      go_wp2_with fail
      go_loopw [10] (fun iv wr => ∃ (j q : Nat) (b : Option Addr) (e : Nat), iv = .int .i64 j ∧ j ≤ i ∧ q = min j n ∧ Hp w [.ob B1 25 (tbCells (.slice a i c) (.slice b q e)), .sl (.slice a i c) 29 4 (hL i).length (grRow (hL i)), .sl (.slice b q e) 29 4 (wL i q).length (grRow (wL i q))] wr) (fun iv _ => i - (intOf iv).toNat)
      case atStart => exact ⟨0, 0, none, 0, rfl, Nat.zero_le _, by simp, HN1.out⟩
      case round =>
        clear HN1 HY
        obtain ⟨j, q, b, e, rfl, hj, hq, hs⟩ := hrel
        have HY := Lib.hid hs
        clear hs
        by_cases hlt : j < i
        · have HLt := Lib.hid hlt
          have hii : (j : Int) < (i : Int) := by omega
          have hi0 : (0 : Int) ≤ (j : Int) := by omega
          have hi1 : (j : Int) ≤ 12 := by omega
          by_cases hgp : gap = true ∧ j = p
          · obtain ⟨rfl, hjp⟩ := hgp
            have hqe : q = min (j + 1) n := by have := HNn.out.2.1 rfl; omega
            have HQ := Lib.hid hqe
            obtain ⟨e1, n1⟩ := eq_facts (show (j : Int) = (p : Int) by omega)
            clear hjp hq hqe hlt hj
            go_wp2_with fail
            go_roundw
            case rel => exact ⟨j + 1, q, b, e, by go_num, HLt.out, HQ.out, HY.out⟩
            case measure => simp [intOf]; try (have := HLt.out; omega)
          · have hjn : j < n := by
              have h1 := HNn.out
              have h2 := HM.out
              cases gap
              · have := h1.2.2 rfl; omega
              · have := h1.2.1 rfl
                have : j ≠ p := fun h => hgp ⟨rfl, h⟩
                omega
            obtain rfl : q = j := by omega
            have HQ : Hid (q + 1 = min (q + 1) n) := Lib.hid (by omega)
            have hm0 : (0 : Int) < (i : Int) := by omega
            have hz0 : ¬ i = 0 := by omega
            have hz1 : ¬ (i : Int) = 0 := by omega
            obtain ⟨r, hr⟩ : ∃ r, (q + 1) % i = r := ⟨_, rfl⟩
            have q1 : ((q : Int) + 1).tmod (i : Int) = (r : Int) := by rw [ring_mod, hr]
            have hgo : ringW i q = ⟨(q : Int) + 1, (r : Int), 0, 1⟩ := by rw [← hr]; rfl
            have HGo := Lib.hid hgo
            have hr12 : (r : Int) ≤ 12 := by have := Nat.mod_lt (q + 1) (show 0 < i by omega); omega
            have hr0 : (0 : Int) ≤ (r : Int) := by omega
            have w1 : IntKind.i64.wrap ((q : Int) + 1) = (q : Int) + 1 := IntWalk.i64_in _ (by omega)
            have w2 : IntKind.i64.wrap (r : Int) = (r : Int) := IntWalk.i64_in _ (by omega)
            have hgx : gap = false ∨ (gap = true ∧ ((q : Int) == (p : Int)) = false) := by
              cases gap
              · exact .inl rfl
              · right
                have : q ≠ p := fun h => hgp ⟨rfl, h⟩
                exact ⟨rfl, by simp; omega⟩
            clear hq hlt hj hjn hgo hr hgp
            rcases hgx with rfl | ⟨rfl, hgx⟩
            · go_upto_region 13 with (fail)
              refine wp_region_held_drew (S := fun w' => True) (by kernel_rfl) (trivial) (fun hHeld => ?_)
              refine wpAnyH_take (i := 0) (oi := { dst := some 47, op := Op.fieldAddr 25 (Operand.tmp 8) 1, type := 0, pos := "law.go:67", after := #[], guard := none }) (v := ?q1v) rfl (by kernel_rfl) (by kernel_rfl) (by kernel_rfl) (fun _ _ _ h => h) (Or.inl ⟨by rfl, ?q1h⟩) hHeld ?q1r
              case q1h => (intro wq hSw; clear hSw; go_simp; try with_reducible rfl)
              try simp only [Act.put, List.setIfInBounds_toArray, List.set_cons_zero, List.set_cons_succ]
              refine wpAnyH_take (i := 2) (oi := { dst := some 49, op := Op.move (Operand.tmp 10), type := 3, pos := "law.go:67", after := #[], guard := none }) (v := ?q2v) rfl (by kernel_rfl) (by kernel_rfl) (by kernel_rfl) (fun _ _ _ h => h) (Or.inl ⟨by rfl, ?q2h⟩) hHeld ?q2r
              case q2h => (intro wq hSw; clear hSw; go_simp; try with_reducible rfl)
              try simp only [Act.put, List.setIfInBounds_toArray, List.set_cons_zero, List.set_cons_succ]
              refine wpAnyH_take (i := 3) (oi := { dst := some 50, op := Op.binOp BinOp.add 3 (Operand.tmp 49) (Operand.const (Value.int IntKind.i64 1)) 3, type := 3, pos := "law.go:67", after := #[{ on := 2, ground := Ground.data }], guard := none }) (v := ?q3v) rfl (by kernel_rfl) (by kernel_rfl) (by kernel_rfl) (fun _ _ _ h => h) (Or.inl ⟨by rfl, ?q3h⟩) hHeld ?q3r
              case q3h => (intro wq hSw; clear hSw; go_simp; try with_reducible rfl)
              try simp only [Act.put, List.setIfInBounds_toArray, List.set_cons_zero, List.set_cons_succ]
              refine wpAnyH_take (i := 4) (oi := { dst := some 51, op := Op.move (Operand.tmp 10), type := 3, pos := "law.go:67", after := #[], guard := none }) (v := ?q4v) rfl (by kernel_rfl) (by kernel_rfl) (by kernel_rfl) (fun _ _ _ h => h) (Or.inl ⟨by rfl, ?q4h⟩) hHeld ?q4r
              case q4h => (intro wq hSw; clear hSw; go_simp; try with_reducible rfl)
              try simp only [Act.put, List.setIfInBounds_toArray, List.set_cons_zero, List.set_cons_succ]
              refine wpAnyH_take (i := 5) (oi := { dst := some 52, op := Op.binOp BinOp.add 3 (Operand.tmp 51) (Operand.const (Value.int IntKind.i64 1)) 3, type := 3, pos := "law.go:67", after := #[{ on := 4, ground := Ground.data }], guard := none }) (v := ?q5v) rfl (by kernel_rfl) (by kernel_rfl) (by kernel_rfl) (fun _ _ _ h => h) (Or.inl ⟨by rfl, ?q5h⟩) hHeld ?q5r
              case q5h => (intro wq hSw; clear hSw; go_simp; try with_reducible rfl)
              try simp only [Act.put, List.setIfInBounds_toArray, List.set_cons_zero, List.set_cons_succ]
              refine wpAnyH_take (i := 6) (oi := { dst := some 53, op := Op.move (Operand.tmp 7), type := 3, pos := "law.go:67", after := #[], guard := none }) (v := ?q6v) rfl (by kernel_rfl) (by kernel_rfl) (by kernel_rfl) (fun _ _ _ h => h) (Or.inl ⟨by rfl, ?q6h⟩) hHeld ?q6r
              case q6h => (intro wq hSw; clear hSw; go_simp; try with_reducible rfl)
              try simp only [Act.put, List.setIfInBounds_toArray, List.set_cons_zero, List.set_cons_succ]
              refine wpAnyH_take (i := 7) (oi := { dst := some 54, op := Op.binOp BinOp.rem 3 (Operand.tmp 52) (Operand.tmp 53) 3, type := 3, pos := "law.go:67", after := #[{ on := 5, ground := Ground.data }, { on := 6, ground := Ground.data }], guard := none }) (v := ?q7v) rfl (by kernel_rfl) (by kernel_rfl) (by kernel_rfl) (fun _ _ _ h => h) (Or.inl ⟨by rfl, ?q7h⟩) hHeld ?q7r
              case q7h => (intro wq hSw; clear hSw; go_simp; try with_reducible rfl)
              try simp only [Act.put, List.setIfInBounds_toArray, List.set_cons_zero, List.set_cons_succ]
              refine wpAnyH_take (i := 8) (oi := { dst := some 55, op := Op.build 27 #[(0, Operand.tmp 54)], type := 27, pos := "law.go:67", after := #[{ on := 7, ground := Ground.data }], guard := none }) rfl (by kernel_rfl) (by kernel_rfl) (by kernel_rfl) (fun _ _ _ h => h) (yieldsIf_build_v (by rfl) 27 (.agg (lkCells (⟨(r : Int), 0⟩ : Lok)).toArray) rfl (fun W => by simp only [List.map_toArray, List.map_cons, List.map_nil]; exact build_lkp _ W)) hHeld ?_
              try simp only [Act.put, List.setIfInBounds_toArray, List.set_cons_zero, List.set_cons_succ]
              refine wpAnyH_take (i := 9) (oi := { dst := some 56, op := Op.build 29 #[(0, Operand.tmp 50), (1, Operand.tmp 55), (2, Operand.const (Value.int IntKind.i64 1))], type := 29, pos := "law.go:67", after := #[{ on := 3, ground := Ground.data }, { on := 8, ground := Ground.data }], guard := none }) rfl (by kernel_rfl) (by kernel_rfl) (by kernel_rfl) (fun _ _ _ h => h) (yieldsIf_build_v (by rfl) 29 (.agg (grCells (⟨(q : Int) + 1, (r : Int), 0, 1⟩ : Gr)).toArray) rfl (fun W => by simp only [List.map_toArray, List.map_cons, List.map_nil]; exact build_gr4 _ _ _ _ W)) hHeld ?_
              try simp only [Act.put, List.setIfInBounds_toArray, List.set_cons_zero, List.set_cons_succ]
              refine wpAnyH_ready (rs := [1, 10]) (by kernel_rfl) (by simp) ?_
              refine AllReadyH.cons (o := { dst := some 48, op := Op.load 23 (Operand.tmp 47), type := 23, pos := "law.go:67", after := #[{ on := 0, ground := Ground.data }], guard := none }) rfl (fun K hK => ?_) (AllReadyH.cons (o := { dst := some 57, op := Op.buildSlice 23 1 #[(0, Operand.tmp 56)], type := 23, pos := "law.go:67", after := #[{ on := 9, ground := Ground.data }], guard := none }) rfl (fun K hK => ?_) (AllReadyH.nil))
              · have q0 := ((HY.out).drew).at 0 rfl 1 rfl
                go_simp
                clear q0
                have HS61 : Hid (Hp w [.ob B1 25 (tbCells (.slice a i c) (.slice b q e)), .sl ((.slice a i c)) 29 4 ((hL i).length) (grRow (hL i)), .sl ((.slice b q e)) 29 4 ((wL i q).length) (grRow (wL i q))] (wr.drew)) := (HY.out).drew
                refine hK.out _ _ (trivial) (fun hHeld => ?_)
                clear hK K
                generalize wr.drew = w61 at *
                try simp only [Act.put, List.setIfInBounds_toArray, List.set_cons_zero, List.set_cons_succ]
                refine wpAnyH_ready (rs := [10]) (by kernel_rfl) (by simp) ?_
                refine AllReadyH.cons (o := { dst := some 57, op := Op.buildSlice 23 1 #[(0, Operand.tmp 56)], type := 23, pos := "law.go:67", after := #[{ on := 9, ground := Ground.data }], guard := none }) rfl (fun K hK => ?_) (AllReadyH.nil)
                rw [if_pos (by rfl)]
                refine wp_build_obs rfl elem_gr HUX.out [grCells (⟨(q : Int) + 1, (r : Int), 0, 1⟩ : Gr)] (List.forall_mem_cons.2 ⟨rfl, (fun _ h => absurd h List.not_mem_nil)⟩) (Nat.succ_pos _) (by simp only [List.length_cons, List.length_nil]; omega) rfl (by simp only [List.map_toArray, List.map_cons, List.map_nil, List.zipIdx_cons, List.zipIdx_nil]; exact rfl) ?_
                have HS62 : Hid (Hp w [.ob B1 25 (tbCells (.slice a i c) (.slice b q e)), .sl ((.slice a i c)) 29 4 ((hL i).length) (grRow (hL i)), .sl ((.slice b q e)) 29 4 ((wL i q).length) (grRow (wL i q)), .ob (w61.heap.size) 29 (([grCells (⟨(q : Int) + 1, (r : Int), 0, 1⟩ : Gr)] : List (List Value)).flatMap id)] (w61.alloc (.cells (([grCells (⟨(q : Int) + 1, (r : Int), 0, 1⟩ : Gr)] : List (List Value)).flatMap id).toArray 29))) := (HS61.out).put 29 (([grCells (⟨(q : Int) + 1, (r : Int), 0, 1⟩ : Gr)] : List (List Value)).flatMap id)
                refine hK.out _ _ (trivial) (fun hHeld => ?_)
                clear hK K
                generalize (w61.alloc (.cells (([grCells (⟨(q : Int) + 1, (r : Int), 0, 1⟩ : Gr)] : List (List Value)).flatMap id).toArray 29)) = w62 at *
                generalize w61.heap.size = B61 at *
                try simp only [Act.put, List.setIfInBounds_toArray, List.set_cons_zero, List.set_cons_succ]
                refine wpAnyH_ready (rs := [11]) (by kernel_rfl) (by simp) ?_
                refine AllReadyH.cons (o := { dst := some 58, op := Op.call { callee := Callee.builtin Builtin.append, args := #[Operand.tmp 48, Operand.tmp 57], argTypes := #[23, 23] }, type := 23, pos := "law.go:67", after := #[{ on := 1, ground := Ground.data }, { on := 10, ground := Ground.data }], guard := none }) rfl (fun K hK => ?_) (AllReadyH.nil)
                rw [if_pos (by rfl)]
                refine wp_append_hp (HS62.out) (.tmp 48) (.tmp 57) 23 rfl 2 rfl 3 rfl HUX.out elem_gr 1 1 rfl rfl rfl (by intro u hu; simp only [List.flatMap_cons, List.flatMap_nil, List.append_nil, id] at hu; exact one_gr _ u hu) (by rw [wL_len]; omega) ?_
                intro v63 w63 hs hnil
                have HS64 : Hid (Hp w [.ob B1 25 (tbCells (.slice a i c) (.slice b q e)), .sl ((.slice a i c)) 29 4 ((hL i).length) (grRow (hL i)), .sl v63 29 4 ((wL i q).length + 1) ((grRow (wL i q)) ++ (([grCells (⟨(q : Int) + 1, (r : Int), 0, 1⟩ : Gr)] : List (List Value)).flatMap id)), .ob B61 29 (([grCells (⟨(q : Int) + 1, (r : Int), 0, 1⟩ : Gr)] : List (List Value)).flatMap id)] w63) := hs
                refine hK.out _ _ (trivial) (fun hHeld => ?_)
                clear hK K hs
                try simp only [Act.put, List.setIfInBounds_toArray, List.set_cons_zero, List.set_cons_succ]
                refine wpAnyH_take (i := 12) (oi := { dst := some 59, op := Op.fieldAddr 25 (Operand.tmp 8) 1, type := 0, pos := "law.go:67", after := #[{ on := 0, ground := Ground.phase }, { on := 1, ground := Ground.phase }, { on := 2, ground := Ground.phase }, { on := 3, ground := Ground.phase }, { on := 4, ground := Ground.phase }, { on := 5, ground := Ground.phase }, { on := 6, ground := Ground.phase }, { on := 7, ground := Ground.phase }, { on := 8, ground := Ground.phase }, { on := 9, ground := Ground.phase }, { on := 10, ground := Ground.phase }, { on := 11, ground := Ground.phase }], guard := none }) (v := ?q10v) rfl (by kernel_rfl) (by kernel_rfl) (by kernel_rfl) (fun _ _ _ h => h) (Or.inl ⟨by rfl, ?q10h⟩) hHeld ?q10r
                case q10h => (intro wq hSw; clear hSw; go_simp; try with_reducible rfl)
                try simp only [Act.put, List.setIfInBounds_toArray, List.set_cons_zero, List.set_cons_succ]
                refine wpAnyH_ready (rs := [13]) (by kernel_rfl) (by simp) ?_
                refine AllReadyH.cons (o := { dst := none, op := Op.store 23 (Operand.tmp 59) (Operand.tmp 58), type := 0, pos := "law.go:67", after := #[{ on := 12, ground := Ground.data }, { on := 11, ground := Ground.data }, { on := 11, ground := Ground.chain }, { on := 0, ground := Ground.phase }, { on := 1, ground := Ground.phase }, { on := 2, ground := Ground.phase }, { on := 3, ground := Ground.phase }, { on := 4, ground := Ground.phase }, { on := 5, ground := Ground.phase }, { on := 6, ground := Ground.phase }, { on := 7, ground := Ground.phase }, { on := 8, ground := Ground.phase }, { on := 9, ground := Ground.phase }, { on := 10, ground := Ground.phase }, { on := 11, ground := Ground.phase }], guard := none }) rfl (fun K hK => ?_) (AllReadyH.nil)
                rw [if_pos (by rfl)]
                have HS65 : Hid (Hp w [.ob B1 25 (tbCells (.slice a i c) (.slice b q e)), .sl ((.slice a i c)) 29 4 ((hL i).length) (grRow (hL i)), .sl v63 29 4 ((wL i q).length + 1) ((grRow (wL i q)) ++ (([grCells (⟨(q : Int) + 1, (r : Int), 0, 1⟩ : Gr)] : List (List Value)).flatMap id))] w63) := HS64.out.pull [0, 1, 2] rfl (pull_nd HS64.out.nd [0, 1, 2] rfl (by decide))
                clear HS64
                have hz : Hp w [.ob B1 25 (tbCells (.slice a i c) (.slice b q e)), .sl ((.slice a i c)) 29 4 ((hL i).length) (grRow (hL i)), .sl v63 29 4 (wL i (q + 1)).length (grRow (wL i (q + 1)))] w63 := by
                  have h9 := hp_snoc (A := [.ob B1 25 (tbCells (.slice a i c) (.slice b q e)), .sl ((.slice a i c)) 29 4 ((hL i).length) (grRow (hL i))]) (l := wL i q) (x := ⟨(q : Int) + 1, (r : Int), 0, 1⟩) HS65.out
                  rw [← HGo.out, ← wL_succ] at h9
                  exact h9
                obtain ⟨b3, e3, hv3⟩ := own_slice (hz.own 2 rfl)
                rw [wL_len] at hv3
                subst hv3
                have HZ := Lib.hid hz
                clear hz HS65
                have q5 := HZ.out.at 0 rfl 1 rfl
                have f5 := HZ.out.frozen 0 rfl 1
                go_simp
                clear q5 f5
                have HS66 : Hid (Hp w [.ob B1 25 (tbCells (.slice a i c) (.slice b3 (q + 1) e3)), .sl ((.slice a i c)) 29 4 ((hL i).length) (grRow (hL i)), .sl ((.slice b3 (q + 1) e3)) 29 4 ((wL i (q + 1)).length) (grRow (wL i (q + 1)))] (w63.setCell ⟨B1, 1, none⟩ (.slice b3 (q + 1) e3))) := (HZ.out.set 0 rfl 1 (.slice b3 (q + 1) e3))
                refine hK.out _ _ (trivial) (fun hHeld => ?_)
                clear hK K
                generalize (w63.setCell ⟨B1, 1, none⟩ (.slice b3 (q + 1) e3)) = w64 at *
                try simp only [Act.put, List.setIfInBounds_toArray, List.set_cons_zero, List.set_cons_succ]
                refine wpAnyH_done (by kernel_rfl) ?_ _
                clear hHeld
                go_wp2_with fail
                go_roundw
                case rel => exact ⟨q + 1, q + 1, b3, e3, by go_num, HLt.out, HQ.out, HS66.out⟩
                case measure => simp [intOf]; try (have := HLt.out; omega)
              · rw [if_pos (by rfl)]
                refine wp_build_obs rfl elem_gr HUX.out [grCells (⟨(q : Int) + 1, (r : Int), 0, 1⟩ : Gr)] (List.forall_mem_cons.2 ⟨rfl, (fun _ h => absurd h List.not_mem_nil)⟩) (Nat.succ_pos _) (by simp only [List.length_cons, List.length_nil]; omega) rfl (by simp only [List.map_toArray, List.map_cons, List.map_nil, List.zipIdx_cons, List.zipIdx_nil]; exact rfl) ?_
                have HS61 : Hid (Hp w [.ob B1 25 (tbCells (.slice a i c) (.slice b q e)), .sl ((.slice a i c)) 29 4 ((hL i).length) (grRow (hL i)), .sl ((.slice b q e)) 29 4 ((wL i q).length) (grRow (wL i q)), .ob (wr.drew.heap.size) 29 (([grCells (⟨(q : Int) + 1, (r : Int), 0, 1⟩ : Gr)] : List (List Value)).flatMap id)] (wr.drew.alloc (.cells (([grCells (⟨(q : Int) + 1, (r : Int), 0, 1⟩ : Gr)] : List (List Value)).flatMap id).toArray 29))) := ((HY.out).drew).put 29 (([grCells (⟨(q : Int) + 1, (r : Int), 0, 1⟩ : Gr)] : List (List Value)).flatMap id)
                refine hK.out _ _ (trivial) (fun hHeld => ?_)
                clear hK K
                generalize (wr.drew.alloc (.cells (([grCells (⟨(q : Int) + 1, (r : Int), 0, 1⟩ : Gr)] : List (List Value)).flatMap id).toArray 29)) = w61 at *
                generalize wr.drew.heap.size = B61 at *
                try simp only [Act.put, List.setIfInBounds_toArray, List.set_cons_zero, List.set_cons_succ]
                refine wpAnyH_ready (rs := [1]) (by kernel_rfl) (by simp) ?_
                refine AllReadyH.cons (o := { dst := some 48, op := Op.load 23 (Operand.tmp 47), type := 23, pos := "law.go:67", after := #[{ on := 0, ground := Ground.data }], guard := none }) rfl (fun K hK => ?_) (AllReadyH.nil)
                have q0 := (HS61.out).at 0 rfl 1 rfl
                go_simp
                clear q0
                have HS62 : Hid (Hp w [.ob B1 25 (tbCells (.slice a i c) (.slice b q e)), .sl ((.slice a i c)) 29 4 ((hL i).length) (grRow (hL i)), .sl ((.slice b q e)) 29 4 ((wL i q).length) (grRow (wL i q)), .ob B61 29 (([grCells (⟨(q : Int) + 1, (r : Int), 0, 1⟩ : Gr)] : List (List Value)).flatMap id)] w61) := HS61.out
                refine hK.out _ _ (trivial) (fun hHeld => ?_)
                clear hK K
                try simp only [Act.put, List.setIfInBounds_toArray, List.set_cons_zero, List.set_cons_succ]
                refine wpAnyH_ready (rs := [11]) (by kernel_rfl) (by simp) ?_
                refine AllReadyH.cons (o := { dst := some 58, op := Op.call { callee := Callee.builtin Builtin.append, args := #[Operand.tmp 48, Operand.tmp 57], argTypes := #[23, 23] }, type := 23, pos := "law.go:67", after := #[{ on := 1, ground := Ground.data }, { on := 10, ground := Ground.data }], guard := none }) rfl (fun K hK => ?_) (AllReadyH.nil)
                rw [if_pos (by rfl)]
                refine wp_append_hp (HS62.out) (.tmp 48) (.tmp 57) 23 rfl 2 rfl 3 rfl HUX.out elem_gr 1 1 rfl rfl rfl (by intro u hu; simp only [List.flatMap_cons, List.flatMap_nil, List.append_nil, id] at hu; exact one_gr _ u hu) (by rw [wL_len]; omega) ?_
                intro v62 w62 hs hnil
                have HS64 : Hid (Hp w [.ob B1 25 (tbCells (.slice a i c) (.slice b q e)), .sl ((.slice a i c)) 29 4 ((hL i).length) (grRow (hL i)), .sl v62 29 4 ((wL i q).length + 1) ((grRow (wL i q)) ++ (([grCells (⟨(q : Int) + 1, (r : Int), 0, 1⟩ : Gr)] : List (List Value)).flatMap id)), .ob B61 29 (([grCells (⟨(q : Int) + 1, (r : Int), 0, 1⟩ : Gr)] : List (List Value)).flatMap id)] w62) := hs
                refine hK.out _ _ (trivial) (fun hHeld => ?_)
                clear hK K hs
                try simp only [Act.put, List.setIfInBounds_toArray, List.set_cons_zero, List.set_cons_succ]
                refine wpAnyH_take (i := 12) (oi := { dst := some 59, op := Op.fieldAddr 25 (Operand.tmp 8) 1, type := 0, pos := "law.go:67", after := #[{ on := 0, ground := Ground.phase }, { on := 1, ground := Ground.phase }, { on := 2, ground := Ground.phase }, { on := 3, ground := Ground.phase }, { on := 4, ground := Ground.phase }, { on := 5, ground := Ground.phase }, { on := 6, ground := Ground.phase }, { on := 7, ground := Ground.phase }, { on := 8, ground := Ground.phase }, { on := 9, ground := Ground.phase }, { on := 10, ground := Ground.phase }, { on := 11, ground := Ground.phase }], guard := none }) (v := ?q11v) rfl (by kernel_rfl) (by kernel_rfl) (by kernel_rfl) (fun _ _ _ h => h) (Or.inl ⟨by rfl, ?q11h⟩) hHeld ?q11r
                case q11h => (intro wq hSw; clear hSw; go_simp; try with_reducible rfl)
                try simp only [Act.put, List.setIfInBounds_toArray, List.set_cons_zero, List.set_cons_succ]
                refine wpAnyH_ready (rs := [13]) (by kernel_rfl) (by simp) ?_
                refine AllReadyH.cons (o := { dst := none, op := Op.store 23 (Operand.tmp 59) (Operand.tmp 58), type := 0, pos := "law.go:67", after := #[{ on := 12, ground := Ground.data }, { on := 11, ground := Ground.data }, { on := 11, ground := Ground.chain }, { on := 0, ground := Ground.phase }, { on := 1, ground := Ground.phase }, { on := 2, ground := Ground.phase }, { on := 3, ground := Ground.phase }, { on := 4, ground := Ground.phase }, { on := 5, ground := Ground.phase }, { on := 6, ground := Ground.phase }, { on := 7, ground := Ground.phase }, { on := 8, ground := Ground.phase }, { on := 9, ground := Ground.phase }, { on := 10, ground := Ground.phase }, { on := 11, ground := Ground.phase }], guard := none }) rfl (fun K hK => ?_) (AllReadyH.nil)
                rw [if_pos (by rfl)]
                have HS65 : Hid (Hp w [.ob B1 25 (tbCells (.slice a i c) (.slice b q e)), .sl ((.slice a i c)) 29 4 ((hL i).length) (grRow (hL i)), .sl v62 29 4 ((wL i q).length + 1) ((grRow (wL i q)) ++ (([grCells (⟨(q : Int) + 1, (r : Int), 0, 1⟩ : Gr)] : List (List Value)).flatMap id))] w62) := HS64.out.pull [0, 1, 2] rfl (pull_nd HS64.out.nd [0, 1, 2] rfl (by decide))
                clear HS64
                have hz : Hp w [.ob B1 25 (tbCells (.slice a i c) (.slice b q e)), .sl ((.slice a i c)) 29 4 ((hL i).length) (grRow (hL i)), .sl v62 29 4 (wL i (q + 1)).length (grRow (wL i (q + 1)))] w62 := by
                  have h9 := hp_snoc (A := [.ob B1 25 (tbCells (.slice a i c) (.slice b q e)), .sl ((.slice a i c)) 29 4 ((hL i).length) (grRow (hL i))]) (l := wL i q) (x := ⟨(q : Int) + 1, (r : Int), 0, 1⟩) HS65.out
                  rw [← HGo.out, ← wL_succ] at h9
                  exact h9
                obtain ⟨b3, e3, hv3⟩ := own_slice (hz.own 2 rfl)
                rw [wL_len] at hv3
                subst hv3
                have HZ := Lib.hid hz
                clear hz HS65
                have q5 := HZ.out.at 0 rfl 1 rfl
                have f5 := HZ.out.frozen 0 rfl 1
                go_simp
                clear q5 f5
                have HS66 : Hid (Hp w [.ob B1 25 (tbCells (.slice a i c) (.slice b3 (q + 1) e3)), .sl ((.slice a i c)) 29 4 ((hL i).length) (grRow (hL i)), .sl ((.slice b3 (q + 1) e3)) 29 4 ((wL i (q + 1)).length) (grRow (wL i (q + 1)))] (w62.setCell ⟨B1, 1, none⟩ (.slice b3 (q + 1) e3))) := (HZ.out.set 0 rfl 1 (.slice b3 (q + 1) e3))
                refine hK.out _ _ (trivial) (fun hHeld => ?_)
                clear hK K
                generalize (w62.setCell ⟨B1, 1, none⟩ (.slice b3 (q + 1) e3)) = w63 at *
                try simp only [Act.put, List.setIfInBounds_toArray, List.set_cons_zero, List.set_cons_succ]
                refine wpAnyH_done (by kernel_rfl) ?_ _
                clear hHeld
                go_wp2_with fail
                go_roundw
                case rel => exact ⟨q + 1, q + 1, b3, e3, by go_num, HLt.out, HQ.out, HS66.out⟩
                case measure => simp [intOf]; try (have := HLt.out; omega)
            · go_upto_region 13 with (fail)
              refine wp_region_held_drew (S := fun w' => True) (by kernel_rfl) (trivial) (fun hHeld => ?_)
              refine wpAnyH_take (i := 0) (oi := { dst := some 47, op := Op.fieldAddr 25 (Operand.tmp 8) 1, type := 0, pos := "law.go:67", after := #[], guard := none }) (v := ?q101v) rfl (by kernel_rfl) (by kernel_rfl) (by kernel_rfl) (fun _ _ _ h => h) (Or.inl ⟨by rfl, ?q101h⟩) hHeld ?q101r
              case q101h => (intro wq hSw; clear hSw; go_simp; try with_reducible rfl)
              try simp only [Act.put, List.setIfInBounds_toArray, List.set_cons_zero, List.set_cons_succ]
              refine wpAnyH_take (i := 2) (oi := { dst := some 49, op := Op.move (Operand.tmp 10), type := 3, pos := "law.go:67", after := #[], guard := none }) (v := ?q102v) rfl (by kernel_rfl) (by kernel_rfl) (by kernel_rfl) (fun _ _ _ h => h) (Or.inl ⟨by rfl, ?q102h⟩) hHeld ?q102r
              case q102h => (intro wq hSw; clear hSw; go_simp; try with_reducible rfl)
              try simp only [Act.put, List.setIfInBounds_toArray, List.set_cons_zero, List.set_cons_succ]
              refine wpAnyH_take (i := 3) (oi := { dst := some 50, op := Op.binOp BinOp.add 3 (Operand.tmp 49) (Operand.const (Value.int IntKind.i64 1)) 3, type := 3, pos := "law.go:67", after := #[{ on := 2, ground := Ground.data }], guard := none }) (v := ?q103v) rfl (by kernel_rfl) (by kernel_rfl) (by kernel_rfl) (fun _ _ _ h => h) (Or.inl ⟨by rfl, ?q103h⟩) hHeld ?q103r
              case q103h => (intro wq hSw; clear hSw; go_simp; try with_reducible rfl)
              try simp only [Act.put, List.setIfInBounds_toArray, List.set_cons_zero, List.set_cons_succ]
              refine wpAnyH_take (i := 4) (oi := { dst := some 51, op := Op.move (Operand.tmp 10), type := 3, pos := "law.go:67", after := #[], guard := none }) (v := ?q104v) rfl (by kernel_rfl) (by kernel_rfl) (by kernel_rfl) (fun _ _ _ h => h) (Or.inl ⟨by rfl, ?q104h⟩) hHeld ?q104r
              case q104h => (intro wq hSw; clear hSw; go_simp; try with_reducible rfl)
              try simp only [Act.put, List.setIfInBounds_toArray, List.set_cons_zero, List.set_cons_succ]
              refine wpAnyH_take (i := 5) (oi := { dst := some 52, op := Op.binOp BinOp.add 3 (Operand.tmp 51) (Operand.const (Value.int IntKind.i64 1)) 3, type := 3, pos := "law.go:67", after := #[{ on := 4, ground := Ground.data }], guard := none }) (v := ?q105v) rfl (by kernel_rfl) (by kernel_rfl) (by kernel_rfl) (fun _ _ _ h => h) (Or.inl ⟨by rfl, ?q105h⟩) hHeld ?q105r
              case q105h => (intro wq hSw; clear hSw; go_simp; try with_reducible rfl)
              try simp only [Act.put, List.setIfInBounds_toArray, List.set_cons_zero, List.set_cons_succ]
              refine wpAnyH_take (i := 6) (oi := { dst := some 53, op := Op.move (Operand.tmp 7), type := 3, pos := "law.go:67", after := #[], guard := none }) (v := ?q106v) rfl (by kernel_rfl) (by kernel_rfl) (by kernel_rfl) (fun _ _ _ h => h) (Or.inl ⟨by rfl, ?q106h⟩) hHeld ?q106r
              case q106h => (intro wq hSw; clear hSw; go_simp; try with_reducible rfl)
              try simp only [Act.put, List.setIfInBounds_toArray, List.set_cons_zero, List.set_cons_succ]
              refine wpAnyH_take (i := 7) (oi := { dst := some 54, op := Op.binOp BinOp.rem 3 (Operand.tmp 52) (Operand.tmp 53) 3, type := 3, pos := "law.go:67", after := #[{ on := 5, ground := Ground.data }, { on := 6, ground := Ground.data }], guard := none }) (v := ?q107v) rfl (by kernel_rfl) (by kernel_rfl) (by kernel_rfl) (fun _ _ _ h => h) (Or.inl ⟨by rfl, ?q107h⟩) hHeld ?q107r
              case q107h => (intro wq hSw; clear hSw; go_simp; try with_reducible rfl)
              try simp only [Act.put, List.setIfInBounds_toArray, List.set_cons_zero, List.set_cons_succ]
              refine wpAnyH_take (i := 8) (oi := { dst := some 55, op := Op.build 27 #[(0, Operand.tmp 54)], type := 27, pos := "law.go:67", after := #[{ on := 7, ground := Ground.data }], guard := none }) rfl (by kernel_rfl) (by kernel_rfl) (by kernel_rfl) (fun _ _ _ h => h) (yieldsIf_build_v (by rfl) 27 (.agg (lkCells (⟨(r : Int), 0⟩ : Lok)).toArray) rfl (fun W => by simp only [List.map_toArray, List.map_cons, List.map_nil]; exact build_lkp _ W)) hHeld ?_
              try simp only [Act.put, List.setIfInBounds_toArray, List.set_cons_zero, List.set_cons_succ]
              refine wpAnyH_take (i := 9) (oi := { dst := some 56, op := Op.build 29 #[(0, Operand.tmp 50), (1, Operand.tmp 55), (2, Operand.const (Value.int IntKind.i64 1))], type := 29, pos := "law.go:67", after := #[{ on := 3, ground := Ground.data }, { on := 8, ground := Ground.data }], guard := none }) rfl (by kernel_rfl) (by kernel_rfl) (by kernel_rfl) (fun _ _ _ h => h) (yieldsIf_build_v (by rfl) 29 (.agg (grCells (⟨(q : Int) + 1, (r : Int), 0, 1⟩ : Gr)).toArray) rfl (fun W => by simp only [List.map_toArray, List.map_cons, List.map_nil]; exact build_gr4 _ _ _ _ W)) hHeld ?_
              try simp only [Act.put, List.setIfInBounds_toArray, List.set_cons_zero, List.set_cons_succ]
              refine wpAnyH_ready (rs := [1, 10]) (by kernel_rfl) (by simp) ?_
              refine AllReadyH.cons (o := { dst := some 48, op := Op.load 23 (Operand.tmp 47), type := 23, pos := "law.go:67", after := #[{ on := 0, ground := Ground.data }], guard := none }) rfl (fun K hK => ?_) (AllReadyH.cons (o := { dst := some 57, op := Op.buildSlice 23 1 #[(0, Operand.tmp 56)], type := 23, pos := "law.go:67", after := #[{ on := 9, ground := Ground.data }], guard := none }) rfl (fun K hK => ?_) (AllReadyH.nil))
              · have q0 := ((HY.out).drew).at 0 rfl 1 rfl
                go_simp
                clear q0
                have HS161 : Hid (Hp w [.ob B1 25 (tbCells (.slice a i c) (.slice b q e)), .sl ((.slice a i c)) 29 4 ((hL i).length) (grRow (hL i)), .sl ((.slice b q e)) 29 4 ((wL i q).length) (grRow (wL i q))] (wr.drew)) := (HY.out).drew
                refine hK.out _ _ (trivial) (fun hHeld => ?_)
                clear hK K
                generalize wr.drew = w161 at *
                try simp only [Act.put, List.setIfInBounds_toArray, List.set_cons_zero, List.set_cons_succ]
                refine wpAnyH_ready (rs := [10]) (by kernel_rfl) (by simp) ?_
                refine AllReadyH.cons (o := { dst := some 57, op := Op.buildSlice 23 1 #[(0, Operand.tmp 56)], type := 23, pos := "law.go:67", after := #[{ on := 9, ground := Ground.data }], guard := none }) rfl (fun K hK => ?_) (AllReadyH.nil)
                rw [if_pos (by rfl)]
                refine wp_build_obs rfl elem_gr HUX.out [grCells (⟨(q : Int) + 1, (r : Int), 0, 1⟩ : Gr)] (List.forall_mem_cons.2 ⟨rfl, (fun _ h => absurd h List.not_mem_nil)⟩) (Nat.succ_pos _) (by simp only [List.length_cons, List.length_nil]; omega) rfl (by simp only [List.map_toArray, List.map_cons, List.map_nil, List.zipIdx_cons, List.zipIdx_nil]; exact rfl) ?_
                have HS162 : Hid (Hp w [.ob B1 25 (tbCells (.slice a i c) (.slice b q e)), .sl ((.slice a i c)) 29 4 ((hL i).length) (grRow (hL i)), .sl ((.slice b q e)) 29 4 ((wL i q).length) (grRow (wL i q)), .ob (w161.heap.size) 29 (([grCells (⟨(q : Int) + 1, (r : Int), 0, 1⟩ : Gr)] : List (List Value)).flatMap id)] (w161.alloc (.cells (([grCells (⟨(q : Int) + 1, (r : Int), 0, 1⟩ : Gr)] : List (List Value)).flatMap id).toArray 29))) := (HS161.out).put 29 (([grCells (⟨(q : Int) + 1, (r : Int), 0, 1⟩ : Gr)] : List (List Value)).flatMap id)
                refine hK.out _ _ (trivial) (fun hHeld => ?_)
                clear hK K
                generalize (w161.alloc (.cells (([grCells (⟨(q : Int) + 1, (r : Int), 0, 1⟩ : Gr)] : List (List Value)).flatMap id).toArray 29)) = w162 at *
                generalize w161.heap.size = B161 at *
                try simp only [Act.put, List.setIfInBounds_toArray, List.set_cons_zero, List.set_cons_succ]
                refine wpAnyH_ready (rs := [11]) (by kernel_rfl) (by simp) ?_
                refine AllReadyH.cons (o := { dst := some 58, op := Op.call { callee := Callee.builtin Builtin.append, args := #[Operand.tmp 48, Operand.tmp 57], argTypes := #[23, 23] }, type := 23, pos := "law.go:67", after := #[{ on := 1, ground := Ground.data }, { on := 10, ground := Ground.data }], guard := none }) rfl (fun K hK => ?_) (AllReadyH.nil)
                rw [if_pos (by rfl)]
                refine wp_append_hp (HS162.out) (.tmp 48) (.tmp 57) 23 rfl 2 rfl 3 rfl HUX.out elem_gr 1 1 rfl rfl rfl (by intro u hu; simp only [List.flatMap_cons, List.flatMap_nil, List.append_nil, id] at hu; exact one_gr _ u hu) (by rw [wL_len]; omega) ?_
                intro v163 w163 hs hnil
                have HS164 : Hid (Hp w [.ob B1 25 (tbCells (.slice a i c) (.slice b q e)), .sl ((.slice a i c)) 29 4 ((hL i).length) (grRow (hL i)), .sl v163 29 4 ((wL i q).length + 1) ((grRow (wL i q)) ++ (([grCells (⟨(q : Int) + 1, (r : Int), 0, 1⟩ : Gr)] : List (List Value)).flatMap id)), .ob B161 29 (([grCells (⟨(q : Int) + 1, (r : Int), 0, 1⟩ : Gr)] : List (List Value)).flatMap id)] w163) := hs
                refine hK.out _ _ (trivial) (fun hHeld => ?_)
                clear hK K hs
                try simp only [Act.put, List.setIfInBounds_toArray, List.set_cons_zero, List.set_cons_succ]
                refine wpAnyH_take (i := 12) (oi := { dst := some 59, op := Op.fieldAddr 25 (Operand.tmp 8) 1, type := 0, pos := "law.go:67", after := #[{ on := 0, ground := Ground.phase }, { on := 1, ground := Ground.phase }, { on := 2, ground := Ground.phase }, { on := 3, ground := Ground.phase }, { on := 4, ground := Ground.phase }, { on := 5, ground := Ground.phase }, { on := 6, ground := Ground.phase }, { on := 7, ground := Ground.phase }, { on := 8, ground := Ground.phase }, { on := 9, ground := Ground.phase }, { on := 10, ground := Ground.phase }, { on := 11, ground := Ground.phase }], guard := none }) (v := ?q110v) rfl (by kernel_rfl) (by kernel_rfl) (by kernel_rfl) (fun _ _ _ h => h) (Or.inl ⟨by rfl, ?q110h⟩) hHeld ?q110r
                case q110h => (intro wq hSw; clear hSw; go_simp; try with_reducible rfl)
                try simp only [Act.put, List.setIfInBounds_toArray, List.set_cons_zero, List.set_cons_succ]
                refine wpAnyH_ready (rs := [13]) (by kernel_rfl) (by simp) ?_
                refine AllReadyH.cons (o := { dst := none, op := Op.store 23 (Operand.tmp 59) (Operand.tmp 58), type := 0, pos := "law.go:67", after := #[{ on := 12, ground := Ground.data }, { on := 11, ground := Ground.data }, { on := 11, ground := Ground.chain }, { on := 0, ground := Ground.phase }, { on := 1, ground := Ground.phase }, { on := 2, ground := Ground.phase }, { on := 3, ground := Ground.phase }, { on := 4, ground := Ground.phase }, { on := 5, ground := Ground.phase }, { on := 6, ground := Ground.phase }, { on := 7, ground := Ground.phase }, { on := 8, ground := Ground.phase }, { on := 9, ground := Ground.phase }, { on := 10, ground := Ground.phase }, { on := 11, ground := Ground.phase }], guard := none }) rfl (fun K hK => ?_) (AllReadyH.nil)
                rw [if_pos (by rfl)]
                have HS165 : Hid (Hp w [.ob B1 25 (tbCells (.slice a i c) (.slice b q e)), .sl ((.slice a i c)) 29 4 ((hL i).length) (grRow (hL i)), .sl v163 29 4 ((wL i q).length + 1) ((grRow (wL i q)) ++ (([grCells (⟨(q : Int) + 1, (r : Int), 0, 1⟩ : Gr)] : List (List Value)).flatMap id))] w163) := HS164.out.pull [0, 1, 2] rfl (pull_nd HS164.out.nd [0, 1, 2] rfl (by decide))
                clear HS164
                have hz : Hp w [.ob B1 25 (tbCells (.slice a i c) (.slice b q e)), .sl ((.slice a i c)) 29 4 ((hL i).length) (grRow (hL i)), .sl v163 29 4 (wL i (q + 1)).length (grRow (wL i (q + 1)))] w163 := by
                  have h9 := hp_snoc (A := [.ob B1 25 (tbCells (.slice a i c) (.slice b q e)), .sl ((.slice a i c)) 29 4 ((hL i).length) (grRow (hL i))]) (l := wL i q) (x := ⟨(q : Int) + 1, (r : Int), 0, 1⟩) HS165.out
                  rw [← HGo.out, ← wL_succ] at h9
                  exact h9
                obtain ⟨b3, e3, hv3⟩ := own_slice (hz.own 2 rfl)
                rw [wL_len] at hv3
                subst hv3
                have HZ := Lib.hid hz
                clear hz HS165
                have q5 := HZ.out.at 0 rfl 1 rfl
                have f5 := HZ.out.frozen 0 rfl 1
                go_simp
                clear q5 f5
                have HS166 : Hid (Hp w [.ob B1 25 (tbCells (.slice a i c) (.slice b3 (q + 1) e3)), .sl ((.slice a i c)) 29 4 ((hL i).length) (grRow (hL i)), .sl ((.slice b3 (q + 1) e3)) 29 4 ((wL i (q + 1)).length) (grRow (wL i (q + 1)))] (w163.setCell ⟨B1, 1, none⟩ (.slice b3 (q + 1) e3))) := (HZ.out.set 0 rfl 1 (.slice b3 (q + 1) e3))
                refine hK.out _ _ (trivial) (fun hHeld => ?_)
                clear hK K
                generalize (w163.setCell ⟨B1, 1, none⟩ (.slice b3 (q + 1) e3)) = w164 at *
                try simp only [Act.put, List.setIfInBounds_toArray, List.set_cons_zero, List.set_cons_succ]
                refine wpAnyH_done (by kernel_rfl) ?_ _
                clear hHeld
                go_wp2_with fail
                go_roundw
                case rel => exact ⟨q + 1, q + 1, b3, e3, by go_num, HLt.out, HQ.out, HS166.out⟩
                case measure => simp [intOf]; try (have := HLt.out; omega)
              · rw [if_pos (by rfl)]
                refine wp_build_obs rfl elem_gr HUX.out [grCells (⟨(q : Int) + 1, (r : Int), 0, 1⟩ : Gr)] (List.forall_mem_cons.2 ⟨rfl, (fun _ h => absurd h List.not_mem_nil)⟩) (Nat.succ_pos _) (by simp only [List.length_cons, List.length_nil]; omega) rfl (by simp only [List.map_toArray, List.map_cons, List.map_nil, List.zipIdx_cons, List.zipIdx_nil]; exact rfl) ?_
                have HS161 : Hid (Hp w [.ob B1 25 (tbCells (.slice a i c) (.slice b q e)), .sl ((.slice a i c)) 29 4 ((hL i).length) (grRow (hL i)), .sl ((.slice b q e)) 29 4 ((wL i q).length) (grRow (wL i q)), .ob (wr.drew.heap.size) 29 (([grCells (⟨(q : Int) + 1, (r : Int), 0, 1⟩ : Gr)] : List (List Value)).flatMap id)] (wr.drew.alloc (.cells (([grCells (⟨(q : Int) + 1, (r : Int), 0, 1⟩ : Gr)] : List (List Value)).flatMap id).toArray 29))) := ((HY.out).drew).put 29 (([grCells (⟨(q : Int) + 1, (r : Int), 0, 1⟩ : Gr)] : List (List Value)).flatMap id)
                refine hK.out _ _ (trivial) (fun hHeld => ?_)
                clear hK K
                generalize (wr.drew.alloc (.cells (([grCells (⟨(q : Int) + 1, (r : Int), 0, 1⟩ : Gr)] : List (List Value)).flatMap id).toArray 29)) = w161 at *
                generalize wr.drew.heap.size = B161 at *
                try simp only [Act.put, List.setIfInBounds_toArray, List.set_cons_zero, List.set_cons_succ]
                refine wpAnyH_ready (rs := [1]) (by kernel_rfl) (by simp) ?_
                refine AllReadyH.cons (o := { dst := some 48, op := Op.load 23 (Operand.tmp 47), type := 23, pos := "law.go:67", after := #[{ on := 0, ground := Ground.data }], guard := none }) rfl (fun K hK => ?_) (AllReadyH.nil)
                have q0 := (HS161.out).at 0 rfl 1 rfl
                go_simp
                clear q0
                have HS162 : Hid (Hp w [.ob B1 25 (tbCells (.slice a i c) (.slice b q e)), .sl ((.slice a i c)) 29 4 ((hL i).length) (grRow (hL i)), .sl ((.slice b q e)) 29 4 ((wL i q).length) (grRow (wL i q)), .ob B161 29 (([grCells (⟨(q : Int) + 1, (r : Int), 0, 1⟩ : Gr)] : List (List Value)).flatMap id)] w161) := HS161.out
                refine hK.out _ _ (trivial) (fun hHeld => ?_)
                clear hK K
                try simp only [Act.put, List.setIfInBounds_toArray, List.set_cons_zero, List.set_cons_succ]
                refine wpAnyH_ready (rs := [11]) (by kernel_rfl) (by simp) ?_
                refine AllReadyH.cons (o := { dst := some 58, op := Op.call { callee := Callee.builtin Builtin.append, args := #[Operand.tmp 48, Operand.tmp 57], argTypes := #[23, 23] }, type := 23, pos := "law.go:67", after := #[{ on := 1, ground := Ground.data }, { on := 10, ground := Ground.data }], guard := none }) rfl (fun K hK => ?_) (AllReadyH.nil)
                rw [if_pos (by rfl)]
                refine wp_append_hp (HS162.out) (.tmp 48) (.tmp 57) 23 rfl 2 rfl 3 rfl HUX.out elem_gr 1 1 rfl rfl rfl (by intro u hu; simp only [List.flatMap_cons, List.flatMap_nil, List.append_nil, id] at hu; exact one_gr _ u hu) (by rw [wL_len]; omega) ?_
                intro v162 w162 hs hnil
                have HS164 : Hid (Hp w [.ob B1 25 (tbCells (.slice a i c) (.slice b q e)), .sl ((.slice a i c)) 29 4 ((hL i).length) (grRow (hL i)), .sl v162 29 4 ((wL i q).length + 1) ((grRow (wL i q)) ++ (([grCells (⟨(q : Int) + 1, (r : Int), 0, 1⟩ : Gr)] : List (List Value)).flatMap id)), .ob B161 29 (([grCells (⟨(q : Int) + 1, (r : Int), 0, 1⟩ : Gr)] : List (List Value)).flatMap id)] w162) := hs
                refine hK.out _ _ (trivial) (fun hHeld => ?_)
                clear hK K hs
                try simp only [Act.put, List.setIfInBounds_toArray, List.set_cons_zero, List.set_cons_succ]
                refine wpAnyH_take (i := 12) (oi := { dst := some 59, op := Op.fieldAddr 25 (Operand.tmp 8) 1, type := 0, pos := "law.go:67", after := #[{ on := 0, ground := Ground.phase }, { on := 1, ground := Ground.phase }, { on := 2, ground := Ground.phase }, { on := 3, ground := Ground.phase }, { on := 4, ground := Ground.phase }, { on := 5, ground := Ground.phase }, { on := 6, ground := Ground.phase }, { on := 7, ground := Ground.phase }, { on := 8, ground := Ground.phase }, { on := 9, ground := Ground.phase }, { on := 10, ground := Ground.phase }, { on := 11, ground := Ground.phase }], guard := none }) (v := ?q111v) rfl (by kernel_rfl) (by kernel_rfl) (by kernel_rfl) (fun _ _ _ h => h) (Or.inl ⟨by rfl, ?q111h⟩) hHeld ?q111r
                case q111h => (intro wq hSw; clear hSw; go_simp; try with_reducible rfl)
                try simp only [Act.put, List.setIfInBounds_toArray, List.set_cons_zero, List.set_cons_succ]
                refine wpAnyH_ready (rs := [13]) (by kernel_rfl) (by simp) ?_
                refine AllReadyH.cons (o := { dst := none, op := Op.store 23 (Operand.tmp 59) (Operand.tmp 58), type := 0, pos := "law.go:67", after := #[{ on := 12, ground := Ground.data }, { on := 11, ground := Ground.data }, { on := 11, ground := Ground.chain }, { on := 0, ground := Ground.phase }, { on := 1, ground := Ground.phase }, { on := 2, ground := Ground.phase }, { on := 3, ground := Ground.phase }, { on := 4, ground := Ground.phase }, { on := 5, ground := Ground.phase }, { on := 6, ground := Ground.phase }, { on := 7, ground := Ground.phase }, { on := 8, ground := Ground.phase }, { on := 9, ground := Ground.phase }, { on := 10, ground := Ground.phase }, { on := 11, ground := Ground.phase }], guard := none }) rfl (fun K hK => ?_) (AllReadyH.nil)
                rw [if_pos (by rfl)]
                have HS165 : Hid (Hp w [.ob B1 25 (tbCells (.slice a i c) (.slice b q e)), .sl ((.slice a i c)) 29 4 ((hL i).length) (grRow (hL i)), .sl v162 29 4 ((wL i q).length + 1) ((grRow (wL i q)) ++ (([grCells (⟨(q : Int) + 1, (r : Int), 0, 1⟩ : Gr)] : List (List Value)).flatMap id))] w162) := HS164.out.pull [0, 1, 2] rfl (pull_nd HS164.out.nd [0, 1, 2] rfl (by decide))
                clear HS164
                have hz : Hp w [.ob B1 25 (tbCells (.slice a i c) (.slice b q e)), .sl ((.slice a i c)) 29 4 ((hL i).length) (grRow (hL i)), .sl v162 29 4 (wL i (q + 1)).length (grRow (wL i (q + 1)))] w162 := by
                  have h9 := hp_snoc (A := [.ob B1 25 (tbCells (.slice a i c) (.slice b q e)), .sl ((.slice a i c)) 29 4 ((hL i).length) (grRow (hL i))]) (l := wL i q) (x := ⟨(q : Int) + 1, (r : Int), 0, 1⟩) HS165.out
                  rw [← HGo.out, ← wL_succ] at h9
                  exact h9
                obtain ⟨b3, e3, hv3⟩ := own_slice (hz.own 2 rfl)
                rw [wL_len] at hv3
                subst hv3
                have HZ := Lib.hid hz
                clear hz HS165
                have q5 := HZ.out.at 0 rfl 1 rfl
                have f5 := HZ.out.frozen 0 rfl 1
                go_simp
                clear q5 f5
                have HS166 : Hid (Hp w [.ob B1 25 (tbCells (.slice a i c) (.slice b3 (q + 1) e3)), .sl ((.slice a i c)) 29 4 ((hL i).length) (grRow (hL i)), .sl ((.slice b3 (q + 1) e3)) 29 4 ((wL i (q + 1)).length) (grRow (wL i (q + 1)))] (w162.setCell ⟨B1, 1, none⟩ (.slice b3 (q + 1) e3))) := (HZ.out.set 0 rfl 1 (.slice b3 (q + 1) e3))
                refine hK.out _ _ (trivial) (fun hHeld => ?_)
                clear hK K
                generalize (w162.setCell ⟨B1, 1, none⟩ (.slice b3 (q + 1) e3)) = w163 at *
                try simp only [Act.put, List.setIfInBounds_toArray, List.set_cons_zero, List.set_cons_succ]
                refine wpAnyH_done (by kernel_rfl) ?_ _
                clear hHeld
                go_wp2_with fail
                go_roundw
                case rel => exact ⟨q + 1, q + 1, b3, e3, by go_num, HLt.out, HQ.out, HS166.out⟩
                case measure => simp [intOf]; try (have := HLt.out; omega)
        · obtain rfl : j = i := by omega
          have hqn : q = n := by have := HNn.out.1; omega
          clear hlt hj hq
          obtain rfl : q = n := hqn
          obtain ⟨RW, hw1, hw2, hw3⟩ := Hp.ownrd2 (A := [.ob B1 25 (tbCells (.slice a j c) (.slice b q e)), .sl (.slice a j c) 29 4 (hL j).length (grRow (hL j))]) HY.out
          obtain ⟨RH, hh1, hh2, hh3⟩ := Hp.ownrd2 (A := [.ob B1 25 (tbCells (.slice a j c) (.slice b q e)), .rd RW]) (hw3.pull [0, 2, 1] rfl (pull_nd hw3.nd [0, 2, 1] rfl (by decide)))
          have HTr : Hid (TbRd (.slice a j c) (.slice b q e) (ringT j q) (RH ++ RW)) := Lib.hid ⟨by have h7 := hh1.mono (fun r hr => List.mem_append_left RW hr); rw [hL_len] at h7; rw [show (ringT j q).held = hL j from rfl]; unfold GrRd; rw [hL_len]; exact h7, by have h7 := hw1.mono (fun r hr => List.mem_append_right RH hr); unfold GrRd; rw [show (ringT j q).wait = wL j q from rfl]; exact h7⟩
          have HS9 := Lib.hid hh3
          clear hw1 hw2 hw3 hh1 hh2 hh3 HY
          have HG9 : Hid (GoodTb (ringT j q)) := Lib.hid (ring_ok HM.out.1 (by have := HM.out; omega) HNn.out.1).good
          obtain ⟨k, hk⟩ : ∃ k : Nat, y % (j : Int) = (k : Int) := ⟨(y % (j : Int)).toNat, by have := Int.emod_nonneg y (show (j : Int) ≠ 0 by omega); omega⟩
          have hkm : k < j := by have := Int.emod_lt_of_pos y (show (0 : Int) < (j : Int) by omega); omega
          have HK := Lib.hid hkm
          have hy1 : y.tmod (j : Int) = (k : Int) := by rw [← hk]; exact Int.tmod_eq_emod_of_nonneg HY9.out.1
          have hy2 : IntKind.i64.wrap y = y := IntWalk.i64_in _ (by have := HY9.out; omega)
          have hj0 : (0 : Int) < (j : Int) := by omega
          have hz0 : ¬ j = 0 := by omega
          have hz1 : ¬ (j : Int) = 0 := by omega
          have hk0 : (0 : Int) ≤ (k : Int) := by omega
          have hk1 : (k : Int) ≤ 12 := by omega
          obtain ⟨cy, hcy⟩ : ∃ cy, cycR (ringT j q) ((k : Int) + 1) = cy := ⟨_, rfl⟩
          have HCy := Lib.hid hcy
          have HPc : Hid (∀ W, RdIn W (RH ++ RW) → Calls Try.prog 14 #[.agg (tbCells (.slice a j c) (.slice b q e)).toArray, .int .i64 ((k : Int) + 1)] W (IntsPost W cy)) := Lib.hid (fun W h => by have := pcycle_any ((k : Int) + 1) W HTr.out h HG9.out; rwa [hcy] at this)
          clear hk hkm hcy
          go_upto_region 14 with (fail)
          go_upto_region 15 with (fail)
          go_wp2_with (first | ((with_reducible refine wpList_load_ob 25 (.tmp 8) B1 (tbCells (.slice a j c) (.slice b q e)) 25 HUT.out ?_ ?_ ?_ ?_ ?_); (exact rfl); (exact (HS9.out).get 0 rfl); (exact rfl); (exact info_tb); simp only [Act.put, List.setIfInBounds_toArray, List.set_cons_zero, List.set_cons_succ]))
          refine (HPc.out _ (RdIn.append ((HS9.out).reads 2 rfl) ((HS9.out).reads 1 rfl))).mono ?_
          rintro e w161 ⟨v9, R9, rfl, hrd2, hin2, hnew2, hb⟩
          obtain ⟨a9, c9, rfl, hl9, hm9, hg9⟩ := hrd2.cells
          have Hrd9 := Lib.hid hrd2
          have Hnw9 := Lib.hid hnew2
          have Hgc9 := Lib.hid hg9
          clear hg9
          have HS161 : Hid (Hp w [.ob B1 25 (tbCells (.slice a j c) (.slice b q e)), .rd RW, .rd RH, .rd R9] w161) := (HS9.out).addrd hb R9 hin2 (fun r hr => .inl (hnew2 r hr))
          clear hb hin2 hrd2 hnew2
          clear HS9
          cases gap
          case true =>
            have he : cy = [] := by
              rw [← HCy.out]
              have h1 := HNn.out.2.1 rfl
              have h2 := HM.out
              rw [show q = j - 1 by omega]
              exact ring_gap h2.1 h2.2.1 HK.out
            have hl9 : ((cy.length : Nat) : Int) = 0 := by rw [he]; rfl
            have hl8 : cy.length = 0 := by rw [he]; rfl
            clear he
            go_wp2_with fail
            go_ret
            exact ⟨rfl, HS161.out.old⟩
          case false =>
            have he : cy = (List.range j).map (fun i => (((k + i) % j : Nat) : Int) + 1) := by
              rw [← HCy.out]
              have h1 := HNn.out.2.2 rfl
              have h2 := HM.out
              rw [h1]
              exact ring_cycle h2.1 h2.2.1 HK.out
            have hl : cy.length = j := by rw [he, List.length_map, List.length_range]
            have HE := Lib.hid he
            have HL := Lib.hid hl
            have hlx : ((cy.length : Int) != (j : Int)) = false := by rw [hl]; simp
            clear he hl
            go_wp2_with fail
            clear hlx
            generalize w161 = w9 at *
            go_loopw [13] (fun iv wr => ∃ i : Nat, i ≤ j ∧ iv = .int .i64 i ∧ Hp w [.ob B1 25 (tbCells (.slice a j c) (.slice b q e)), .rd RW, .rd RH, .rd R9] wr) (fun iv _ => j - (intOf iv).toNat)
            case atStart => exact ⟨0, by omega, rfl, HS161.out⟩
            case round =>
              clear HS161
              obtain ⟨i, hi, rfl, hs⟩ := hrel
              have HY := Lib.hid hs
              clear hs
              by_cases hlt : i < j
              · obtain ⟨g0, off, rfl, hc0⟩ := Hgc9.out (by have := HL.out; omega)
                have c0 : wr.cell? ⟨g0, off + i, none⟩ = some (.int .i64 ((((k + i) % j : Nat) : Int) + 1)) := hc0 wr (HY.out.reads 3 rfl) i _ (by rw [HE.out, List.getElem?_map, List.getElem?_range hlt]; rfl)
                obtain ⟨r, hr⟩ : ∃ r, (k + i) % j = r := ⟨_, rfl⟩
                rw [hr] at c0
                have q1 : ((k : Int) + (i : Int)).tmod (j : Int) = (r : Int) := by rw [ring_mod2, hr]
                have hr12 : (r : Int) ≤ 12 := by have := Nat.mod_lt (k + i) (show 0 < j by omega); omega
                have hr0 : (0 : Int) ≤ (r : Int) := by omega
                have hii : (i : Int) < (j : Int) := by omega
                have hil : (i : Int) < (cy.length : Int) := by have := HL.out; omega
                have hi0 : (0 : Int) ≤ (i : Int) := by omega
                have w1 : IntKind.i64.wrap ((k : Int) + (i : Int)) = (k : Int) + (i : Int) := IntWalk.i64_in _ (by omega)
                have w2 : IntKind.i64.wrap (r : Int) = (r : Int) := IntWalk.i64_in _ (by omega)
                have w3 : IntKind.i64.wrap ((r : Int) + 1) = (r : Int) + 1 := IntWalk.i64_in _ (by omega)
                have e5 : (((r : Int) + 1) != ((r : Int) + 1)) = false := by simp
                have HLt := Lib.hid hlt
                clear hc0 hr hlt hi Hgc9
                go_wp2_with fail
                go_quiet (fail)
                have HY2 := Lib.hid (HY.out.drewN nq)
                clear HY c0
                generalize wr.drewN nq = w2z at *
                go_wp2_with fail
                go_roundw
                case rel => exact ⟨i + 1, HLt.out, by go_num, HY2.out⟩
                case measure => simp [intOf]; try (have := HLt.out; omega)
              · obtain rfl : i = j := by omega
                clear hlt hi
                go_wp2_with fail
                go_ret
                exact ⟨rfl, HY.out.old⟩
end Go.Proofs.Ytooaldglgkjjgaa
