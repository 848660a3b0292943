/- texts of a claim, one after the other: the walk of the reference's 'with', where a number goes in an ascending list, the program's strike: a page becomes unreadable, the library's copies of a device's slices, the program's copied -/
import Derived.Test.YtlmbnofkmmehoaaOm6
import Derived.Test.YtlmbnofkmmehoaaOm7
import Derived.Test.YtlmbnofkmmehoaaOm4
import Derived.WalkSpells
/- the walk of the reference's 'with' -/
namespace Go.Proofs.Ytlmbnofkmmehoaa
open Go.RowKit
set_option maxRecDepth 20000

theorem withR_low {n : Int} : ∀ {l : List Int}, (∀ x ∈ l, x < n) → withR n l = l ++ [n]
  | [], _ => rfl
  | x :: l, h => by
    have hx := h x (List.mem_cons_self ..)
    unfold withR
    rw [if_neg (by omega), withR_low (fun y hy => h y (List.mem_cons_of_mem _ hy))]
    rfl
theorem without_snoc (l : List Int) (n y : Int) : withoutR (l ++ [y]) n = withoutR l n ++ (if y = n then [] else [y]) := by
  unfold withoutR
  rw [List.filter_append]
  congr 1
  by_cases e : y = n <;> simp [e]
theorem withR_here {n y : Int} (hy : n ≤ y) : ∀ {l : List Int}, (∀ x ∈ l, x < n) → withR n (l ++ [y]) = (l ++ [n]) ++ (if y = n then [] else [y])
  | [], _ => by
    show withR n [y] = _
    unfold withR
    rw [if_pos hy]
    by_cases e : y = n <;> simp [withoutR, e]
  | x :: l, h => by
    have hx := h x (List.mem_cons_self ..)
    show withR n (x :: (l ++ [y])) = _
    unfold withR
    rw [if_neg (by omega), withR_here hy (fun z hz => h z (List.mem_cons_of_mem _ hz))]
    rfl
theorem withR_past {n y : Int} : ∀ {l : List Int}, (∃ x ∈ l, n ≤ x) → withR n (l ++ [y]) = withR n l ++ (if y = n then [] else [y])
  | [], h => by obtain ⟨x, hx, _⟩ := h; cases hx
  | x :: l, h => by
    show withR n (x :: (l ++ [y])) = _
    unfold withR
    by_cases hx : n ≤ x
    · rw [if_pos hx, if_pos hx, show x :: (l ++ [y]) = (x :: l) ++ [y] from rfl, without_snoc]
      rfl
    · rw [if_neg hx, if_neg hx, withR_past (by
        obtain ⟨z, hz, hn⟩ := h
        rcases List.mem_cons.1 hz with rfl | hz
        · exact absurd hn hx
        · exact ⟨z, hz, hn⟩)]
      rfl
/-- how far the list is: dn, whether the number is in it -/
def WithSt (n : Int) (dn : Bool) (l out : List Int) : Prop := if dn = true then out = withR n l ∧ ∃ x ∈ l, n ≤ x else out = l ∧ ∀ x ∈ l, x < n
theorem WithSt.end {n : Int} {l out : List Int} : ∀ {dn : Bool}, WithSt n dn l out → withR n l = if dn = true then out else out ++ [n]
  | true, h => by rw [if_pos rfl]; exact h.1.symm
  | false, h => by
    rw [if_neg (by decide), h.1]
    exact withR_low h.2
theorem WithSt.past {n y : Int} {l out : List Int} (h : WithSt n true l out) : WithSt n true (l ++ [y]) (out ++ (if y = n then [] else [y])) :=
  ⟨by rw [withR_past h.2, h.1], by
    obtain ⟨x, hx, hn⟩ := h.2
    exact ⟨x, List.mem_append_left _ hx, hn⟩⟩
theorem WithSt.here {n y : Int} {l out : List Int} (h : WithSt n false l out) (hy : n ≤ y) : WithSt n true (l ++ [y]) ((out ++ [n]) ++ (if y = n then [] else [y])) :=
  ⟨by rw [withR_here hy h.2, h.1], y, by simp, hy⟩
theorem WithSt.low {n y : Int} {l out : List Int} (h : WithSt n false l out) (hy : y < n) : WithSt n false (l ++ [y]) (out ++ [y]) :=
  ⟨by rw [h.1], fun x hx => by
    rcases List.mem_append.1 hx with hx | hx
    · exact h.2 x hx
    · rw [List.mem_singleton.1 hx]; exact hy⟩
theorem own_snoc {w W : World} {v : Value} {out : List Int} {y : Int} (h : Hp w [.sl v 3 1 (out.length + 1) (intRow out ++ [.int .i64 y])] W) : Hp w [.sl v 3 1 (out ++ [y]).length (intRow (out ++ [y]))] W := by
  rw [List.length_append]
  have e : intRow (out ++ [y]) = intRow out ++ [.int .i64 y] := by unfold intRow; rw [List.map_append]; rfl
  rw [e]
  exact h
set_option maxHeartbeats 8000000 in
set_option maxRecDepth 20000 in
theorem with_any (l : List Int) (n : Int) (v : Value) (R : List Rng) (w : World) (hv : SlRd v 1 l.length (intRow l) R) (hR : RdIn w R) (hl : l.length ≤ 1000) :
    Calls Try.prog 49 #[v, .int .i64 n] w fun e w' => ∃ u, e = .returned u ∧ Below w.heap.size w w' ∧ w'.ownsRow w.heap.size 3 1 u (withR n l).length (intRow (withR n l)) := by
  obtain ⟨a, cap, rfl, hnc, hcm, hg⟩ := hv.open hR
  have HC : Hid (l.length ≤ cap ∧ cap ≤ maxLen) := ⟨hnc, hcm⟩
  have HL := Lib.hid hl
  have HUI : Hid (Try.prog.underlying 24 = some (.slice 3)) := Try.underlying24
  clear hv hR hnc hcm hl
  go_enter Try.func49, Try.ntmps49
  go_wp2_with fail
  have HS0 : Hid (Hp w [.sl (.slice none 0 0) 3 1 0 []] w) := (Hp.start w).nil 3 1
  go_loopw [5, 6, 7] (fun sv sd i wr => ∃ (v : Value) (k : Nat) (dn : Bool) (out : List Int), k ≤ l.length ∧ v = sv ∧ sd = .bool dn ∧ i = .int .i64 k ∧ out.length ≤ k + 1 ∧ WithSt n dn (l.take k) out ∧ Hp w [.sl v 3 1 (out).length (intRow (out))] wr) (fun _ _ i _ => l.length - (intOf i).toNat)
  case atStart => exact ⟨_, 0, false, [], by omega, rfl, rfl, rfl, by simp, ⟨rfl, fun x hx => by cases hx⟩, HS0.out⟩
  case round =>
    obtain ⟨v, k, dn, out, hk, hsv, rfl, rfl, ho, hst, hs⟩ := hrel
    subst hsv
    clear HS0
    have HY := Lib.hid hs
    have HSt := Lib.hid hst
    have HO := Lib.hid ho
    clear hs hst ho
    by_cases hlt : k < l.length
    · obtain ⟨g, off, rfl, hr⟩ := hg.out (by omega)
      have hc : wr.cell? ⟨g, off + k, none⟩ = some (.int .i64 l[k]) := hr wr HY.out.old k _ (intRow_at l k hlt)
      have hki : (k : Int) < (l.length : Int) := by omega
      have hk0 : (0 : Int) ≤ (k : Int) := by omega
      have hkm : (k : Int) < 1000 := by have := HL.out; omega
      have HT : Hid (l.take (k + 1) = l.take k ++ [l[k]]) := List.take_succ_eq_append_getElem hlt
      have HG : Hid (∀ W, Below w.heap.size w W → W.cell? ⟨g, off + k, none⟩ = some (.int .i64 l[k])) := fun W hb => hr W hb k _ (intRow_at l k hlt)
      clear hr hg
      generalize l[k] = y at *
      cases dn
      case true =>
        by_cases heq : y = n
        · have hxb : (y != n) = false := by simp [heq]
          go_wp2_with fail
          go_roundw
          case rel => exact ⟨_, k + 1, true, _, by omega, rfl, rfl, by go_num, by have := HO.out; omega, by
            have h := HSt.out.past (y := y)
            rw [HT.out]
            rw [if_pos (by exact heq), List.append_nil] at h
            exact h, HY.out⟩
          case measure => simp [intOf]; omega
        · have hne := heq
          have hxb : (y != n) = true := by simp [heq]
          go_wp2_with (first | ((with_reducible refine wpList_build_vals 24 1 elem_i HUI.out [.int .i64 y] ?_ ?_ ?_ ?_ ?_ ?_); (exact (by intro v hv; simp only [List.mem_cons, List.not_mem_nil, or_false] at hv; subst hv; rfl)); (exact Nat.succ_pos _); (simp only [List.length_cons, List.length_nil]; omega); (exact rfl); (simp only [List.map_toArray, List.map_cons, List.map_nil, List.zipIdx_cons, List.zipIdx_nil]; exact rfl); simp only [Act.put, List.setIfInBounds_toArray, List.set_cons_zero, List.set_cons_succ]) | ((with_reducible refine wpList_append_hp ((HY.out).put 3 ([.int .i64 y])) (.tmp 34) (.tmp 39) 24 0 (v := v) (e := 3) (z := 1) (n := out.length) (xs := intRow out) ?_ 1 (b := (wr.heap.size)) (t' := 3) (ys := [.int .i64 y]) ?_ HUI.out elem_i 1 1 ?_ ?_ ?_ ?_ ?_ ?_); (exact rfl); (exact rfl); (exact rfl); (exact rfl); (exact rfl); (exact (one_i y)); (exact (by have := HO.out; first | omega | (simp only [List.length_append, List.length_cons, List.length_nil]; omega)))))
          intro v11 w11 hs hnil
          have HS12 : Hid (Hp w [.sl v11 3 1 (out.length + 1) ((intRow out) ++ ([.int .i64 y])), .ob (wr.heap.size) 3 ([.int .i64 y])] w11) := hs
          clear hs
          clear HY
          generalize wr.heap.size = B1 at *
          have HS13 : Hid (Hp w [.sl v11 3 1 (out.length + 1) ((intRow out) ++ ([.int .i64 y]))] w11) := HS12.out.pull [0] rfl (pull_nd HS12.out.nd [0] rfl (by decide))
          clear HS12
          have HS14 : Hid (Hp w [.sl v11 3 1 (out ++ [y]).length (intRow (out ++ [y]))] w11) := own_snoc HS13.out
          clear HS13
          go_wp2_with fail
          go_roundw
          case rel => exact ⟨_, k + 1, true, _, by omega, rfl, rfl, by go_num, by have := HO.out; simp only [List.length_append, List.length_cons, List.length_nil]; omega, by
            have h := HSt.out.past (y := y)
            rw [HT.out]
            rw [if_neg (by exact hne)] at h
            exact h, HS14.out⟩
          case measure => simp [intOf]; omega
      case false =>
        by_cases hlow : y < n
        · have hd : decide (n ≤ y) = false := decide_eq_false (by omega)
          have hxb : (y != n) = true := by simp; omega
          go_wp2_with (first | ((with_reducible refine wpList_build_vals 24 1 elem_i HUI.out [.int .i64 y] ?_ ?_ ?_ ?_ ?_ ?_); (exact (by intro v hv; simp only [List.mem_cons, List.not_mem_nil, or_false] at hv; subst hv; rfl)); (exact Nat.succ_pos _); (simp only [List.length_cons, List.length_nil]; omega); (exact rfl); (simp only [List.map_toArray, List.map_cons, List.map_nil, List.zipIdx_cons, List.zipIdx_nil]; exact rfl); simp only [Act.put, List.setIfInBounds_toArray, List.set_cons_zero, List.set_cons_succ]) | ((with_reducible refine wpList_append_hp ((HY.out).put 3 ([.int .i64 y])) (.tmp 34) (.tmp 39) 24 0 (v := v) (e := 3) (z := 1) (n := out.length) (xs := intRow out) ?_ 1 (b := (wr.heap.size)) (t' := 3) (ys := [.int .i64 y]) ?_ HUI.out elem_i 1 1 ?_ ?_ ?_ ?_ ?_ ?_); (exact rfl); (exact rfl); (exact rfl); (exact rfl); (exact rfl); (exact (one_i y)); (exact (by have := HO.out; first | omega | (simp only [List.length_append, List.length_cons, List.length_nil]; omega)))))
          intro v11 w11 hs hnil
          have HS12 : Hid (Hp w [.sl v11 3 1 (out.length + 1) ((intRow out) ++ ([.int .i64 y])), .ob (wr.heap.size) 3 ([.int .i64 y])] w11) := hs
          clear hs
          clear HY
          generalize wr.heap.size = B1 at *
          have HS13 : Hid (Hp w [.sl v11 3 1 (out.length + 1) ((intRow out) ++ ([.int .i64 y]))] w11) := HS12.out.pull [0] rfl (pull_nd HS12.out.nd [0] rfl (by decide))
          clear HS12
          have HS14 : Hid (Hp w [.sl v11 3 1 (out ++ [y]).length (intRow (out ++ [y]))] w11) := own_snoc HS13.out
          clear HS13
          go_wp2_with fail
          go_roundw
          case rel => exact ⟨_, k + 1, false, _, by omega, rfl, rfl, by go_num, by have := HO.out; simp only [List.length_append, List.length_cons, List.length_nil]; omega, by
            have h := HSt.out.low hlow
            rw [HT.out]
            exact h, HS14.out⟩
          case measure => simp [intOf]; omega
        · have hge : n ≤ y := by omega
          have hd : decide (n ≤ y) = true := decide_eq_true hge
          by_cases heq : y = n
          · have hxb : (y != n) = false := by simp [heq]
            go_wp2_with (first | ((with_reducible refine wpList_build_vals 24 1 elem_i HUI.out [.int .i64 n] ?_ ?_ ?_ ?_ ?_ ?_); (exact (by intro v hv; simp only [List.mem_cons, List.not_mem_nil, or_false] at hv; subst hv; rfl)); (exact Nat.succ_pos _); (simp only [List.length_cons, List.length_nil]; omega); (exact rfl); (simp only [List.map_toArray, List.map_cons, List.map_nil, List.zipIdx_cons, List.zipIdx_nil]; exact rfl); simp only [Act.put, List.setIfInBounds_toArray, List.set_cons_zero, List.set_cons_succ]) | ((with_reducible refine wpList_append_hp ((HY.out).put 3 ([.int .i64 n])) (.tmp 24) (.tmp 26) 24 0 (v := v) (e := 3) (z := 1) (n := out.length) (xs := intRow out) ?_ 1 (b := (wr.heap.size)) (t' := 3) (ys := [.int .i64 n]) ?_ HUI.out elem_i 1 1 ?_ ?_ ?_ ?_ ?_ ?_); (exact rfl); (exact rfl); (exact rfl); (exact rfl); (exact rfl); (exact (one_i n)); (exact (by have := HO.out; omega))))
            intro v11 w11 hs hnil
            have HS12 : Hid (Hp w [.sl v11 3 1 (out.length + 1) ((intRow out) ++ ([.int .i64 n])), .ob (wr.heap.size) 3 ([.int .i64 n])] w11) := hs
            clear hs
            clear HY
            generalize wr.heap.size = B1 at *
            have HS13 : Hid (Hp w [.sl v11 3 1 (out.length + 1) ((intRow out) ++ ([.int .i64 n]))] w11) := HS12.out.pull [0] rfl (pull_nd HS12.out.nd [0] rfl (by decide))
            clear HS12
            have HS14 : Hid (Hp w [.sl v11 3 1 (out ++ [n]).length (intRow (out ++ [n]))] w11) := own_snoc HS13.out
            clear HS13
            have hc2 : w11.cell? ⟨g, off + k, none⟩ = some (.int .i64 y) := HG.out _ HS14.out.old
            go_wp2_with fail
            go_roundw
            case rel => exact ⟨_, k + 1, true, _, by omega, rfl, rfl, by go_num, by have h := congrArg List.length HSt.out.1; rw [List.length_take] at h; simp only [List.length_append, List.length_cons, List.length_nil]; omega, by
              have h := HSt.out.here hge
              rw [HT.out]
              rw [if_pos (by exact heq), List.append_nil] at h
              exact h, HS14.out⟩
            case measure => simp [intOf]; omega
          · have hne := heq
            have hxb : (y != n) = true := by simp [heq]
            go_wp2_with (first | ((with_reducible refine wpList_build_vals 24 1 elem_i HUI.out [.int .i64 n] ?_ ?_ ?_ ?_ ?_ ?_); (exact (by intro v hv; simp only [List.mem_cons, List.not_mem_nil, or_false] at hv; subst hv; rfl)); (exact Nat.succ_pos _); (simp only [List.length_cons, List.length_nil]; omega); (exact rfl); (simp only [List.map_toArray, List.map_cons, List.map_nil, List.zipIdx_cons, List.zipIdx_nil]; exact rfl); simp only [Act.put, List.setIfInBounds_toArray, List.set_cons_zero, List.set_cons_succ]) | ((with_reducible refine wpList_append_hp ((HY.out).put 3 ([.int .i64 n])) (.tmp 24) (.tmp 26) 24 0 (v := v) (e := 3) (z := 1) (n := out.length) (xs := intRow out) ?_ 1 (b := (wr.heap.size)) (t' := 3) (ys := [.int .i64 n]) ?_ HUI.out elem_i 1 1 ?_ ?_ ?_ ?_ ?_ ?_); (exact rfl); (exact rfl); (exact rfl); (exact rfl); (exact rfl); (exact (one_i n)); (exact (by have := HO.out; omega))))
            intro v11 w11 hs hnil
            have HS12 : Hid (Hp w [.sl v11 3 1 (out.length + 1) ((intRow out) ++ ([.int .i64 n])), .ob (wr.heap.size) 3 ([.int .i64 n])] w11) := hs
            clear hs
            clear HY
            generalize wr.heap.size = B1 at *
            have HS13 : Hid (Hp w [.sl v11 3 1 (out.length + 1) ((intRow out) ++ ([.int .i64 n]))] w11) := HS12.out.pull [0] rfl (pull_nd HS12.out.nd [0] rfl (by decide))
            clear HS12
            have HS14 : Hid (Hp w [.sl v11 3 1 (out ++ [n]).length (intRow (out ++ [n]))] w11) := own_snoc HS13.out
            clear HS13
            have hc2 : w11.cell? ⟨g, off + k, none⟩ = some (.int .i64 y) := HG.out _ HS14.out.old
            go_wp2_with (first | ((with_reducible refine wpList_build_vals 24 1 elem_i HUI.out [.int .i64 y] ?_ ?_ ?_ ?_ ?_ ?_); (exact (by intro v hv; simp only [List.mem_cons, List.not_mem_nil, or_false] at hv; subst hv; rfl)); (exact Nat.succ_pos _); (simp only [List.length_cons, List.length_nil]; omega); (exact rfl); (simp only [List.map_toArray, List.map_cons, List.map_nil, List.zipIdx_cons, List.zipIdx_nil]; exact rfl); simp only [Act.put, List.setIfInBounds_toArray, List.set_cons_zero, List.set_cons_succ]) | ((with_reducible refine wpList_append_hp ((HS14.out).put 3 ([.int .i64 y])) (.tmp 34) (.tmp 39) 24 0 (v := v11) (e := 3) (z := 1) (n := (out ++ [n]).length) (xs := intRow (out ++ [n])) ?_ 1 (b := (w11.heap.size)) (t' := 3) (ys := [.int .i64 y]) ?_ HUI.out elem_i 1 1 ?_ ?_ ?_ ?_ ?_ ?_); (exact rfl); (exact rfl); (exact rfl); (exact rfl); (exact rfl); (exact (one_i y)); (exact (by have := HO.out; first | omega | (simp only [List.length_append, List.length_cons, List.length_nil]; omega)))))
            intro v12 w12 hs hnil
            have HS16 : Hid (Hp w [.sl v12 3 1 ((out ++ [n]).length + 1) ((intRow (out ++ [n])) ++ ([.int .i64 y])), .ob (w11.heap.size) 3 ([.int .i64 y])] w12) := hs
            clear hs
            clear HS14
            generalize w11.heap.size = B2 at *
            have HS17 : Hid (Hp w [.sl v12 3 1 ((out ++ [n]).length + 1) ((intRow (out ++ [n])) ++ ([.int .i64 y]))] w12) := HS16.out.pull [0] rfl (pull_nd HS16.out.nd [0] rfl (by decide))
            clear HS16
            have HS18 : Hid (Hp w [.sl v12 3 1 ((out ++ [n]) ++ [y]).length (intRow ((out ++ [n]) ++ [y]))] w12) := own_snoc HS17.out
            clear HS17
            go_wp2_with fail
            go_roundw
            case rel => exact ⟨_, k + 1, true, _, by omega, rfl, rfl, by go_num, by have h := congrArg List.length HSt.out.1; rw [List.length_take] at h; simp only [List.length_append, List.length_cons, List.length_nil]; omega, by
              have h := HSt.out.here hge
              rw [HT.out]
              rw [if_neg (by exact hne)] at h
              exact h, HS18.out⟩
            case measure => simp [intOf]; omega
    · obtain rfl : k = l.length := by omega
      rw [List.take_length] at HSt
      have HE := Lib.hid HSt.out.end
      cases dn
      case true =>
        have HE2 : Hid (withR n l = out) := HE.out
        clear HE
        go_wp2_with fail
        go_ret
        exact ⟨_, rfl, HY.out.old, by rw [HE2.out]; exact HY.out.own 0 rfl⟩
      case false =>
        have HE2 : Hid (withR n l = out ++ [n]) := HE.out
        clear HE
        go_wp2_with (first | ((with_reducible refine wpList_build_vals 24 1 elem_i HUI.out [.int .i64 n] ?_ ?_ ?_ ?_ ?_ ?_); (exact (by intro v hv; simp only [List.mem_cons, List.not_mem_nil, or_false] at hv; subst hv; rfl)); (exact Nat.succ_pos _); (simp only [List.length_cons, List.length_nil]; omega); (exact rfl); (simp only [List.map_toArray, List.map_cons, List.map_nil, List.zipIdx_cons, List.zipIdx_nil]; exact rfl); simp only [Act.put, List.setIfInBounds_toArray, List.set_cons_zero, List.set_cons_succ]) | ((with_reducible refine wpList_append_hp ((HY.out).put 3 ([.int .i64 n])) (.tmp 43) (.tmp 45) 24 0 (v := v) (e := 3) (z := 1) (n := out.length) (xs := intRow out) ?_ 1 (b := (wr.heap.size)) (t' := 3) (ys := [.int .i64 n]) ?_ HUI.out elem_i 1 1 ?_ ?_ ?_ ?_ ?_ ?_); (exact rfl); (exact rfl); (exact rfl); (exact rfl); (exact rfl); (exact (one_i n)); (exact (by have := HO.out; have := HL.out; omega))))
        intro v11 w11 hs hnil
        have HS12 : Hid (Hp w [.sl v11 3 1 (out.length + 1) ((intRow out) ++ ([.int .i64 n])), .ob (wr.heap.size) 3 ([.int .i64 n])] w11) := hs
        clear hs
        clear HY
        generalize wr.heap.size = B1 at *
        have HS13 : Hid (Hp w [.sl v11 3 1 (out.length + 1) ((intRow out) ++ ([.int .i64 n]))] w11) := HS12.out.pull [0] rfl (pull_nd HS12.out.nd [0] rfl (by decide))
        clear HS12
        have HF : Hid (Hp w [.sl v11 3 1 (out ++ [n]).length (intRow (out ++ [n]))] w11) := own_snoc HS13.out
        go_wp2_with fail
        go_ret
        exact ⟨_, rfl, HF.out.old, by rw [HE2.out]; exact HF.out.own 0 rfl⟩
end Go.Proofs.Ytlmbnofkmmehoaa
/- where a number goes in an ascending list -/
namespace Go.Proofs.Ytlmbnofkmmehoaa
open Go.RowKit
set_option maxRecDepth 20000
set_option linter.unusedSimpArgs false
set_option linter.unusedVariables false

theorem withR_skip {t : Int} : ∀ (a b : List Int), (∀ x ∈ a, x < t) → withR t (a ++ b) = a ++ withR t b
  | [], _, _ => rfl
  | x :: a, b, h => by
    have hx := h x (List.mem_cons_self ..)
    show (if t ≤ x then t :: withoutR (x :: (a ++ b)) t else x :: withR t (a ++ b)) = _
    rw [if_neg (by omega), withR_skip a b (fun y hy => h y (List.mem_cons_of_mem _ hy))]
    rfl
theorem without_id {t : Int} {b : List Int} (h : ∀ x ∈ b, x ≠ t) : withoutR b t = b := by
  unfold withoutR
  rw [List.filter_eq_self]
  intro x hx
  simp [h x hx]
theorem take_low {t : Int} {l : List Int} {i : Nat} (h : PosR t l i) : ∀ x ∈ l.take i, x < t := by
  intro x hx
  obtain ⟨j, hj, rfl⟩ := List.mem_take_iff_getElem.1 hx
  exact h.low j (by omega) (by omega)
theorem drop_high {t : Int} {l : List Int} {i : Nat} (h : PosR t l i) : ∀ x ∈ l.drop i, t ≤ x := by
  intro x hx
  obtain ⟨j, hj, rfl⟩ := List.getElem_of_mem hx
  rw [List.length_drop] at hj
  rw [List.getElem_drop]
  exact h.high (i + j) (by omega) (by omega)
theorem withR_found {t : Int} {l : List Int} {i : Nat} (h : PosR t l i) (hs : l.Pairwise (· < ·)) (hf : l[i]? = some t) : withR t l = l := by
  have hi := (List.getElem?_eq_some_iff.1 hf).1
  have ht := (List.getElem?_eq_some_iff.1 hf).2
  have e : l = l.take i ++ (t :: l.drop (i + 1)) := by
    conv => lhs; rw [← List.take_append_drop i l]
    rw [← List.getElem_cons_drop hi, ht]
  have h2 : ∀ x ∈ l.drop (i + 1), x ≠ t := by
    intro x hx
    obtain ⟨j, hj, rfl⟩ := List.getElem_of_mem hx
    rw [List.length_drop] at hj
    rw [List.getElem_drop]
    have := List.pairwise_iff_getElem.1 hs i (i + 1 + j) hi (by omega) (by omega)
    rw [ht] at this
    omega
  conv => lhs; rw [e]
  rw [withR_skip _ _ (take_low h)]
  conv => rhs; rw [e]
  congr 1
  unfold withR
  rw [if_pos (Int.le_refl _)]
  have : withoutR (t :: l.drop (i + 1)) t = l.drop (i + 1) := by
    rw [show withoutR (t :: l.drop (i + 1)) t = withoutR (l.drop (i + 1)) t from by unfold withoutR; simp]
    exact without_id h2
  rw [this]
theorem withR_insert {t : Int} {l : List Int} {i : Nat} (h : PosR t l i) (hs : l.Pairwise (· < ·)) (hf : ¬ l[i]? = some t) : withR t l = insI l i t := by
  have hne : ∀ x ∈ l.drop i, x ≠ t := by
    intro x hx
    obtain ⟨j, hj, rfl⟩ := List.getElem_of_mem hx
    rw [List.length_drop] at hj
    rw [List.getElem_drop]
    intro e
    rcases Nat.eq_zero_or_pos j with h0 | h0
    · subst h0
      exact hf (by rw [List.getElem?_eq_getElem (by omega)]; exact congrArg some e)
    · have h1 := List.pairwise_iff_getElem.1 hs i (i + j) (by omega) (by omega) (by omega)
      have h2 := h.high i (by omega) (Nat.le_refl _)
      omega
  unfold insI
  conv => lhs; rw [← List.take_append_drop i l]
  rw [withR_skip _ _ (take_low h)]
  congr 1
  have hh := drop_high h
  cases hd : l.drop i with
  | nil => rfl
  | cons x b =>
    rw [hd] at hne hh
    unfold withR
    rw [if_pos (hh x (List.mem_cons_self ..)), without_id hne]
end Go.Proofs.Ytlmbnofkmmehoaa
/- the program's strike: a page becomes unreadable -/
namespace Go.Proofs.Ytlmbnofkmmehoaa
open Go.RowKit
set_option maxRecDepth 20000
set_option linter.unusedSimpArgs false
set_option linter.unusedVariables false

set_option maxHeartbeats 8000000 in
theorem strike_unread {w0 W : World} {M : List Th} {b : Nat} {p u f : Value} {d : Dv} (x : Flt) (h : Hp w0 (DvTh b p u f d M) W) (hx : x.kind = 5) (hs : d.unread.Pairwise (· < ·)) (hl : d.unread.length ≤ 900) :
    Calls Try.prog 46 #[.pointer (some ⟨b, 0, none⟩), .agg (fltCells x).toArray] W fun e W' => e = .returned (.tuple #[]) ∧ ∃ u', Hp w0 (DvTh b p u' f (happenR d x) M) W' := by
  obtain ⟨kd, at_, pg, tg, by_, ms⟩ := x
  simp only at hx
  subst hx
  have HHap : Hid (happenR d ⟨5, at_, pg, tg, by_, ms⟩ = ⟨d.pages, d.writes, withR pg d.unread, d.dead, d.faults⟩) := rfl
  obtain ⟨a, c, rfl⟩ := own_slice (h.own 2 rfl)
  have HS0 : Hid (Hp w0 (.ob b 27 (dvCells p d (.slice a d.unread.length c) f) :: .sl p 9 1 d.pages.length (strRow d.pages) :: .sl (.slice a d.unread.length c) 3 1 d.unread.length (intRow d.unread) :: .ob W.heap.size 29 (fltCells ⟨5, at_, pg, tg, by_, ms⟩) :: M) (W.alloc (.cells #[.int .i64 5, .int .i64 at_, .int .i64 pg, .int .i64 tg, .int .i64 by_, .int .u8 ms] 29))) := h.ins [_, _, _] 29 _
  obtain ⟨R, hrd, hin, _⟩ := own_reads (HS0.out.own 2 rfl)
  obtain ⟨i, hpos⟩ := pos_exists pg d.unread hs
  obtain ⟨q, hq⟩ : ∃ q, decide (d.unread[i]? = some pg) = q := ⟨_, rfl⟩
  have hbin : ∀ n, Calls Try.prog 63 #[.slice a d.unread.length c, .int .i64 pg] ((W.alloc (.cells #[.int .i64 5, .int .i64 at_, .int .i64 pg, .int .i64 tg, .int .i64 by_, .int .u8 ms] 29)).drewN n) fun e w' => e = .returned (.tuple #[.int .i64 i, .bool q]) ∧ w' = (W.alloc (.cells #[.int .i64 5, .int .i64 at_, .int .i64 pg, .int .i64 tg, .int .i64 by_, .int .u8 ms] 29)).drewN n := fun n => by
    rw [← hq]
    exact binSearch_at pg d.unread _ R ((W.alloc (.cells #[.int .i64 5, .int .i64 at_, .int .i64 pg, .int .i64 tg, .int .i64 by_, .int .u8 ms] 29)).drewN n) hs hrd (fun r hr => hin r hr) (by omega) hpos
  have HBin := Lib.hid hbin
  have HPos := Lib.hid hpos
  have HQ := Lib.hid hq
  have b2 := HS0.out.at 0 rfl 2 rfl
  have HIns : Hid (∀ W1, Hp w0 (.ob b 27 (dvCells p d (.slice a d.unread.length c) f) :: .sl p 9 1 d.pages.length (strRow d.pages) :: .sl (.slice a d.unread.length c) 3 1 d.unread.length (intRow d.unread) :: .ob W.heap.size 29 (fltCells ⟨5, at_, pg, tg, by_, ms⟩) :: M) W1 → Calls Try.prog 64 #[.slice a d.unread.length c, .int .i64 i, .slice (some ⟨W1.heap.size, 0, none⟩) 1 1] (W1.alloc (.cells #[.int .i64 pg] 3)).drew fun e W' => ∃ a' c', e = .returned (.slice a' (insI d.unread i pg).length c') ∧ Hp w0 (.ob b 27 (dvCells p d (.slice a d.unread.length c) f) :: .sl p 9 1 d.pages.length (strRow d.pages) :: .sl (.slice a' (insI d.unread i pg).length c') 3 1 (insI d.unread i pg).length (intRow (insI d.unread i pg)) :: .ob W.heap.size 29 (fltCells ⟨5, at_, pg, tg, by_, ms⟩) :: M) W') := fun W1 h1 => by
    have h2 := (h1.ins [_, _, _, _] 3 [.int .i64 pg]).drew
    refine (insert_own d.unread pg i (.slice a d.unread.length c) w0.heap.size W1.heap.size _ hpos.le (h2.own 2 rfl) (h2.get 4 rfl) (fun e => h2.ne 2 4 rfl rfl (by decide) e rfl rfl) h2.old.size (by omega)).mono ?_
    rintro e W2 ⟨v', rfl, ho, hgr, hbl⟩
    obtain ⟨a', c', rfl⟩ := own_slice ho
    exact ⟨a', c', rfl, Hp.del [_, _, _, _] (h2.grown 2 rfl ho hgr hbl)⟩
  have HSt := Lib.hid hs
  have HLn := Lib.hid hl
  clear h hs hl hrd hin hbin hpos hq
  show Calls Try.prog 46 #[.pointer (some ⟨b, 0, none⟩), .agg #[.int .i64 5, .int .i64 at_, .int .i64 pg, .int .i64 tg, .int .i64 by_, .int .u8 ms]] W _
  go_enter Try.func46, Try.ntmps46
  go_wp2_with fail
  go_quiet ((go_at_call 63; exact Calls.quiet_of_same (HBin.out _)))
  have HS3 := Lib.hid (HS0.out.drewN nq)
  clear HS0 HBin b2
  generalize (W.alloc (.cells #[.int .i64 5, .int .i64 at_, .int .i64 pg, .int .i64 tg, .int .i64 by_, .int .u8 ms] 29)).drewN nq = w3 at *
  generalize W.heap.size = bx at *
  cases q
  · have HW : Hid (withR pg d.unread = insI d.unread i pg) := withR_insert HPos.out HSt.out (of_decide_eq_false HQ.out)
    have b2 := HS3.out.at 0 rfl 2 rfl
    have e2 := HS3.out.at 3 rfl 2 rfl
    have HS4 := Lib.hid ((HS3.out).ins [_, _, _, _] 3 [.int .i64 pg])
    have b2' := HS4.out.at 0 rfl 2 rfl
    have e2' := HS4.out.at 3 rfl 2 rfl
    have hcall := HIns.out _ HS3.out
    clear HIns HPos
    go_wp2_with fail
    go_region_law (go_simp; go_wp2_with (go_at_call 64; refine hcall.mono ?_; rintro e w5 ⟨a', c', rfl, h5⟩; have b5 := h5.at 0 rfl 2 rfl; have f5 := h5.frozen 0 rfl 2))
    all_goals (
      have H6 := Lib.hid (h5.set 0 rfl 2 (.slice a' (insI d.unread i pg).length c'))
      clear h5 b5 f5
      go_wp2_with fail
      refine bodyPost_end (v := .tuple #[]) (by simp [results, Try.results46, go_sem]) rfl ⟨rfl, .slice a' (insI d.unread i pg).length c', ?_⟩
      rw [HHap.out, HW.out]
      exact Hp.del [_, _, _] H6.out)
  · have HW : Hid (withR pg d.unread = d.unread) := withR_found HPos.out HSt.out (of_decide_eq_true HQ.out)
    go_wp2_with fail
    refine bodyPost_end (v := .tuple #[]) (by simp [results, Try.results46, go_sem]) rfl ⟨rfl, .slice a d.unread.length c, ?_⟩
    rw [HHap.out, HW.out]
    exact Hp.del [_, _, _] HS3.out
/-- what the program's strike asks of a fault -/
structure StrOk (d : Dv) (x : Flt) : Prop where
  pages : d.pages.length ≤ 1000
  all : ∀ s ∈ d.pages, s.size = 256
  asc : d.unread.Pairwise (· < ·)
  few : d.unread.length ≤ 900
  page : 0 ≤ x.page ∧ x.page < (d.pages.length : Int)
  byte : 0 ≤ x.byte ∧ x.byte < 256
  mask : 0 ≤ x.mask ∧ x.mask < 256
theorem strike_any {w0 W : World} {M : List Th} {b : Nat} {p u f : Value} {d : Dv} (x : Flt) (h : Hp w0 (DvTh b p u f d M) W) (ok : StrOk d x) :
    Calls Try.prog 46 #[.pointer (some ⟨b, 0, none⟩), .agg (fltCells x).toArray] W fun e W' => e = .returned (.tuple #[]) ∧ ∃ u', Hp w0 (DvTh b p u' f (happenR d x) M) W' := by
  by_cases h4 : x.kind = 4
  · obtain ⟨k, hk⟩ := Int.eq_ofNat_of_zero_le ok.page.1
    obtain ⟨j, hj⟩ := Int.eq_ofNat_of_zero_le ok.byte.1
    have hm : x.mask = ((UInt8.ofNat x.mask.toNat).toNat : Int) := by
      have := ok.mask
      rw [UInt8.toNat_ofNat']
      omega
    exact strike_rot x h h4 k hk (by have := ok.page.2; omega) ok.all j hj (by have := ok.byte.2; omega) _ hm ok.pages
  by_cases h5 : x.kind = 5
  · exact strike_unread x h h5 ok.asc ok.few
  by_cases h6 : x.kind = 6
  · exact strike_dead x h h6
  · exact strike_none x h h4 h5 h6
end Go.Proofs.Ytlmbnofkmmehoaa
/- the library's copies of a device's slices -/
namespace Go.Proofs.Ytlmbnofkmmehoaa
open Go.RowKit
set_option maxRecDepth 20000
set_option linter.unusedSimpArgs false
set_option linter.unusedVariables false

set_option maxHeartbeats 4000000 in
theorem cloneS_any (l : List ByteArray) (v : Value) (R : List Rng) (w : World) (hv : SlRd v 1 l.length (strRow l) R) (hR : RdIn w R) (hl : l.length ≤ 1000) :
    Calls Try.prog 60 #[v] w fun e w' => ∃ u, e = .returned u ∧ Below w.heap.size w w' ∧ w'.ownsRow w.heap.size 9 1 u l.length (strRow l) := by
  have HV := Lib.hid hv
  have HR := Lib.hid hR
  have HL := Lib.hid hl
  obtain ⟨a, cap, rfl, h1, h2, h3, h4, h5⟩ := hv
  have HUT : Hid (Try.prog.underlying 23 = some (.slice 9)) := Try.underlying23
  have hq : ∀ W, Sem.run Try.prog (binOp .eql 23 (.slice a l.length cap) (.slice none 0 0)) W = .ok (.bool a.isNone) W := fun W => Lib.run_eql_slice_nil W _ _ a l.length cap 0 0 HUT.out
  clear hR hl
  cases a with
  | none =>
    have hq2 : ∀ W, Sem.run Try.prog (binOp .eql 23 (.slice none l.length cap) (.slice none 0 0)) W = .ok (.bool true) W := hq
    have hc := h5 rfl
    have hn : l.length = 0 := by omega
    have HX : Hid (Below w.heap.size w w ∧ w.ownsRow w.heap.size 9 1 (.slice none 0 0) l.length (strRow l)) := ⟨Below.refl _ _, by rw [hn]; exact ⟨by rw [h1, hn], .inl ⟨rfl, rfl⟩⟩⟩
    clear h1 h2 h3 h4 h5 hq hc
    rw [hn] at hq2
    rw [hn]
    go_enter Try.func60, Try.ntmps60
    go_wp2_with fail
    go_ret
    refine ⟨_, rfl, ?_⟩
    have h := HX.out
    rw [hn] at h
    exact h
  | some a =>
    have h0 := (Hp.start w).put 9 []
    have HS0 : Hid (Hp w [.sl (.slice (some ⟨w.heap.size, 0, none⟩) 0 0) 9 1 0 []] (w.alloc (.cells #[] 9))) :=
      (Hp.start w).addown ((Below.refl _ _).alloc (Nat.le_refl _) _) ⟨by simp, .inr ⟨w.heap.size, 0, #[], rfl, Nat.le_refl _, heap_alloc_last w _, Nat.le_refl _, Nat.zero_le _, by simp, by simp⟩⟩
    clear h0 h1 h2 h3 h4 h5
    go_enter Try.func60, Try.ntmps60
    go_wp2_with (first | ((with_reducible refine wpList_append_sl (HS0.out) (.tmp 5) (.tmp 6) 23 0 (v := .slice (some ⟨w.heap.size, 0, none⟩) 0 0) (n := 0) (xs := []) ?_ (xv := .slice (some a) l.length cap) (m := l.length) (ys := strRow l) (R := R) ?_ ?_ HUT.out elem_s ?_ ?_ ?_ ?_ ?_); (exact rfl); (exact HV.out); (exact HR.out.below HS0.out.old); (exact rfl); (exact rfl); (exact (one_strs _)); (exact (by have := HL.out; omega))))
    intro v1 w1 hs
    have hs2 : Hp w [.sl v1 9 1 (0 + l.length) ([] ++ strRow l)] w1 := hs
    clear hs HS0
    rw [Nat.zero_add, List.nil_append] at hs2
    have HA := Lib.hid hs2
    clear hs2
    go_wp2_with fail
    go_ret
    exact ⟨_, rfl, HA.out.old, HA.out.own 0 rfl⟩
set_option maxHeartbeats 4000000 in
theorem cloneI_any (l : List Int) (v : Value) (R : List Rng) (w : World) (hv : SlRd v 1 l.length (intRow l) R) (hR : RdIn w R) (hl : l.length ≤ 1000) :
    Calls Try.prog 61 #[v] w fun e w' => ∃ u, e = .returned u ∧ Below w.heap.size w w' ∧ w'.ownsRow w.heap.size 3 1 u l.length (intRow l) := by
  have HV := Lib.hid hv
  have HR := Lib.hid hR
  have HL := Lib.hid hl
  obtain ⟨a, cap, rfl, h1, h2, h3, h4, h5⟩ := hv
  have HUT : Hid (Try.prog.underlying 24 = some (.slice 3)) := Try.underlying24
  have hq : ∀ W, Sem.run Try.prog (binOp .eql 24 (.slice a l.length cap) (.slice none 0 0)) W = .ok (.bool a.isNone) W := fun W => Lib.run_eql_slice_nil W _ _ a l.length cap 0 0 HUT.out
  clear hR hl
  cases a with
  | none =>
    have hq2 : ∀ W, Sem.run Try.prog (binOp .eql 24 (.slice none l.length cap) (.slice none 0 0)) W = .ok (.bool true) W := hq
    have hc := h5 rfl
    have hn : l.length = 0 := by omega
    have HX : Hid (Below w.heap.size w w ∧ w.ownsRow w.heap.size 3 1 (.slice none 0 0) l.length (intRow l)) := ⟨Below.refl _ _, by rw [hn]; exact ⟨by rw [h1, hn], .inl ⟨rfl, rfl⟩⟩⟩
    clear h1 h2 h3 h4 h5 hq hc
    rw [hn] at hq2
    rw [hn]
    go_enter Try.func61, Try.ntmps61
    go_wp2_with fail
    go_ret
    refine ⟨_, rfl, ?_⟩
    have h := HX.out
    rw [hn] at h
    exact h
  | some a =>
    have h0 := (Hp.start w).put 3 []
    have HS0 : Hid (Hp w [.sl (.slice (some ⟨w.heap.size, 0, none⟩) 0 0) 3 1 0 []] (w.alloc (.cells #[] 3))) :=
      (Hp.start w).addown ((Below.refl _ _).alloc (Nat.le_refl _) _) ⟨by simp, .inr ⟨w.heap.size, 0, #[], rfl, Nat.le_refl _, heap_alloc_last w _, Nat.le_refl _, Nat.zero_le _, by simp, by simp⟩⟩
    clear h0 h1 h2 h3 h4 h5
    go_enter Try.func61, Try.ntmps61
    go_wp2_with (first | ((with_reducible refine wpList_append_sl (HS0.out) (.tmp 5) (.tmp 6) 24 0 (v := .slice (some ⟨w.heap.size, 0, none⟩) 0 0) (n := 0) (xs := []) ?_ (xv := .slice (some a) l.length cap) (m := l.length) (ys := intRow l) (R := R) ?_ ?_ HUT.out elem_i ?_ ?_ ?_ ?_ ?_); (exact rfl); (exact HV.out); (exact HR.out.below HS0.out.old); (exact rfl); (exact rfl); (exact (one_ints _)); (exact (by have := HL.out; omega))))
    intro v1 w1 hs
    have hs2 : Hp w [.sl v1 3 1 (0 + l.length) ([] ++ intRow l)] w1 := hs
    clear hs HS0
    rw [Nat.zero_add, List.nil_append] at hs2
    have HA := Lib.hid hs2
    clear hs2
    go_wp2_with fail
    go_ret
    exact ⟨_, rfl, HA.out.old, HA.out.own 0 rfl⟩
set_option maxHeartbeats 4000000 in
theorem cloneF_any (l : List Flt) (v : Value) (R : List Rng) (w : World) (hv : SlRd v 6 l.length (fltRow l) R) (hR : RdIn w R) (hl : l.length ≤ 1000) :
    Calls Try.prog 41 #[v] w fun e w' => ∃ u, e = .returned u ∧ Below w.heap.size w w' ∧ w'.ownsRow w.heap.size 29 6 u l.length (fltRow l) := by
  have HV := Lib.hid hv
  have HR := Lib.hid hR
  have HL := Lib.hid hl
  obtain ⟨a, cap, rfl, h1, h2, h3, h4, h5⟩ := hv
  have HUT : Hid (Try.prog.underlying 25 = some (.slice 29)) := Try.underlying25
  have hq : ∀ W, Sem.run Try.prog (binOp .eql 25 (.slice a l.length cap) (.slice none 0 0)) W = .ok (.bool a.isNone) W := fun W => Lib.run_eql_slice_nil W _ _ a l.length cap 0 0 HUT.out
  clear hR hl
  cases a with
  | none =>
    have hq2 : ∀ W, Sem.run Try.prog (binOp .eql 25 (.slice none l.length cap) (.slice none 0 0)) W = .ok (.bool true) W := hq
    have hc := h5 rfl
    have hn : l.length = 0 := by omega
    have HX : Hid (Below w.heap.size w w ∧ w.ownsRow w.heap.size 29 6 (.slice none 0 0) l.length (fltRow l)) := ⟨Below.refl _ _, by rw [hn]; exact ⟨by rw [h1, hn], .inl ⟨rfl, rfl⟩⟩⟩
    clear h1 h2 h3 h4 h5 hq hc
    rw [hn] at hq2
    rw [hn]
    go_enter Try.func41, Try.ntmps41
    go_wp2_with fail
    go_ret
    refine ⟨_, rfl, ?_⟩
    have h := HX.out
    rw [hn] at h
    exact h
  | some a =>
    have h0 := (Hp.start w).put 29 []
    have HS0 : Hid (Hp w [.sl (.slice (some ⟨w.heap.size, 0, none⟩) 0 0) 29 6 0 []] (w.alloc (.cells #[] 29))) :=
      (Hp.start w).addown ((Below.refl _ _).alloc (Nat.le_refl _) _) ⟨by simp, .inr ⟨w.heap.size, 0, #[], rfl, Nat.le_refl _, heap_alloc_last w _, Nat.le_refl _, Nat.zero_le _, by simp, by simp⟩⟩
    clear h0 h1 h2 h3 h4 h5
    go_enter Try.func41, Try.ntmps41
    go_wp2_with (first | ((with_reducible refine wpList_append_sl (HS0.out) (.tmp 5) (.tmp 6) 25 0 (v := .slice (some ⟨w.heap.size, 0, none⟩) 0 0) (n := 0) (xs := []) ?_ (xv := .slice (some a) l.length cap) (m := l.length) (ys := fltRow l) (R := R) ?_ ?_ HUT.out elem_flt ?_ ?_ ?_ ?_ ?_); (exact rfl); (exact HV.out); (exact HR.out.below HS0.out.old); (exact rfl); (exact rfl); (exact (one_flts _)); (exact (by have := HL.out; omega))))
    intro v1 w1 hs
    have hs2 : Hp w [.sl v1 29 6 (0 + l.length) ([] ++ fltRow l)] w1 := hs
    clear hs HS0
    rw [Nat.zero_add, List.nil_append] at hs2
    have HA := Lib.hid hs2
    clear hs2
    go_wp2_with fail
    go_ret
    exact ⟨_, rfl, HA.out.old, HA.out.own 0 rfl⟩
end Go.Proofs.Ytlmbnofkmmehoaa
/- the program's copied -/
namespace Go.Proofs.Ytlmbnofkmmehoaa
open Go.RowKit
set_option maxRecDepth 20000
set_option linter.unusedSimpArgs false
set_option linter.unusedVariables false

set_option maxHeartbeats 4000000 in
theorem copied_any {p u f : Value} {d : Dv} {R : List Rng} (w : World) (h : DvRd p u f d R) (hR : RdIn w R) (hp : d.pages.length ≤ 1000) (hu : d.unread.length ≤ 1000) (hf : d.faults.length ≤ 1000) :
    Calls Try.prog 39 #[.agg (dvCells p d u f).toArray] w fun e w' => ∃ v, e = .returned v ∧ OwnDv w w' v d := by
  have HC1 : Hid (∀ W, Below w.heap.size w W → Calls Try.prog 60 #[p] W fun e w' => ∃ u, e = .returned u ∧ Below W.heap.size W w' ∧ w'.ownsRow W.heap.size 9 1 u d.pages.length (strRow d.pages)) := fun W hb => cloneS_any d.pages p R W h.pages (hR.below hb) hp
  have HC2 : Hid (∀ W, Below w.heap.size w W → Calls Try.prog 61 #[u] W fun e w' => ∃ u, e = .returned u ∧ Below W.heap.size W w' ∧ w'.ownsRow W.heap.size 3 1 u d.unread.length (intRow d.unread)) := fun W hb => cloneI_any d.unread u R W h.unread (hR.below hb) hu
  have HC3 : Hid (∀ W, Below w.heap.size w W → Calls Try.prog 41 #[f] W fun e w' => ∃ u, e = .returned u ∧ Below W.heap.size W w' ∧ w'.ownsRow W.heap.size 29 6 u d.faults.length (fltRow d.faults)) := fun W hb => cloneF_any d.faults f R W h.faults (hR.below hb) hf
  obtain ⟨fs, hud⟩ := under_dv
  have HUD := Lib.hid hud
  obtain ⟨pa, pc, rfl, _⟩ := h.pages
  obtain ⟨ua, uc, rfl, _⟩ := h.unread
  obtain ⟨fa, fc, rfl, _⟩ := h.faults
  clear h hR hp hu hf hud
  have h1 := ((Hp.start w).put 27 (dvCells (.slice pa d.pages.length pc) d (.slice ua d.unread.length uc) (.slice fa d.faults.length fc))).put 27 (dvCells nilS dvNil nilS nilS)
  simp only [World.size_alloc, List.nil_append, List.cons_append] at h1
  have HS0 : Hid (Hp w [.ob w.heap.size 27 (dvCells (.slice pa d.pages.length pc) d (.slice ua d.unread.length uc) (.slice fa d.faults.length fc)), .ob (w.heap.size + 1) 27 (dvCells nilS dvNil nilS nilS)] ((w.alloc (.cells #[.slice pa d.pages.length pc, .int .i64 d.writes, .slice ua d.unread.length uc, .bool d.dead, .slice fa d.faults.length fc] 27)).alloc (.cells #[.slice none 0 0, .int .i64 0, .slice none 0 0, .bool false, .slice none 0 0] 27))) := h1
  clear h1
  show Calls Try.prog 39 #[.agg #[.slice pa d.pages.length pc, .int .i64 d.writes, .slice ua d.unread.length uc, .bool d.dead, .slice fa d.faults.length fc]] w _
  go_enter Try.func39, Try.ntmps39
  go_wp2_with fail
  refine (HC1.out _ HS0.out.old).mono ?_
  rintro e w1 ⟨v, rfl, hb, ho⟩
  obtain ⟨a1, c1, rfl⟩ := own_slice ho
  have HA1 : Hid (Hp w [.ob w.heap.size 27 (dvCells (.slice pa d.pages.length pc) d (.slice ua d.unread.length uc) (.slice fa d.faults.length fc)), .ob (w.heap.size + 1) 27 (dvCells nilS dvNil nilS nilS), .sl (.slice a1 d.pages.length c1) 9 1 d.pages.length (strRow d.pages)] w1) := HS0.out.addown hb ho
  clear hb ho HS0 HC1
  have k0 : w1.cell? ⟨w.heap.size, 0, none⟩ = some (.slice pa d.pages.length pc) := HA1.out.at 0 rfl 0 rfl
  have z0 : w1.frozen? ⟨w.heap.size, 0, none⟩ = false := HA1.out.frozen 0 rfl 0
  have HB1 : Hid (Hp w [.ob w.heap.size 27 (dvCells (.slice a1 d.pages.length c1) d (.slice ua d.unread.length uc) (.slice fa d.faults.length fc)), .ob (w.heap.size + 1) 27 (dvCells nilS dvNil nilS nilS), .sl (.slice a1 d.pages.length c1) 9 1 d.pages.length (strRow d.pages)] (w1.setCell ⟨w.heap.size, 0, none⟩ (.slice a1 d.pages.length c1))) := HA1.out.set 0 rfl 0 (.slice a1 d.pages.length c1)
  have m0 : (w1.setCell ⟨w.heap.size, 0, none⟩ (.slice a1 d.pages.length c1)).cell? ⟨w.heap.size, 2, none⟩ = some (.slice ua d.unread.length uc) := HB1.out.at 0 rfl 2 rfl
  go_wp2_with fail
  refine (HC2.out _ HB1.out.old).mono ?_
  rintro e w2 ⟨v, rfl, hb, ho⟩
  obtain ⟨a2, c2, rfl⟩ := own_slice ho
  have HA2 : Hid (Hp w [.ob w.heap.size 27 (dvCells (.slice a1 d.pages.length c1) d (.slice ua d.unread.length uc) (.slice fa d.faults.length fc)), .ob (w.heap.size + 1) 27 (dvCells nilS dvNil nilS nilS), .sl (.slice a1 d.pages.length c1) 9 1 d.pages.length (strRow d.pages), .sl (.slice a2 d.unread.length c2) 3 1 d.unread.length (intRow d.unread)] w2) := HB1.out.addown hb ho
  clear hb ho HB1 HC2
  have k1 : w2.cell? ⟨w.heap.size, 2, none⟩ = some (.slice ua d.unread.length uc) := HA2.out.at 0 rfl 2 rfl
  have z1 : w2.frozen? ⟨w.heap.size, 2, none⟩ = false := HA2.out.frozen 0 rfl 2
  have HB2 : Hid (Hp w [.ob w.heap.size 27 (dvCells (.slice a1 d.pages.length c1) d (.slice a2 d.unread.length c2) (.slice fa d.faults.length fc)), .ob (w.heap.size + 1) 27 (dvCells nilS dvNil nilS nilS), .sl (.slice a1 d.pages.length c1) 9 1 d.pages.length (strRow d.pages), .sl (.slice a2 d.unread.length c2) 3 1 d.unread.length (intRow d.unread)] (w2.setCell ⟨w.heap.size, 2, none⟩ (.slice a2 d.unread.length c2))) := HA2.out.set 0 rfl 2 (.slice a2 d.unread.length c2)
  have m1 : (w2.setCell ⟨w.heap.size, 2, none⟩ (.slice a2 d.unread.length c2)).cell? ⟨w.heap.size, 4, none⟩ = some (.slice fa d.faults.length fc) := HB2.out.at 0 rfl 4 rfl
  go_wp2_with fail
  refine (HC3.out _ HB2.out.old).mono ?_
  rintro e w3 ⟨v, rfl, hb, ho⟩
  obtain ⟨a3, c3, rfl⟩ := own_slice ho
  have HA3 : Hid (Hp w [.ob w.heap.size 27 (dvCells (.slice a1 d.pages.length c1) d (.slice a2 d.unread.length c2) (.slice fa d.faults.length fc)), .ob (w.heap.size + 1) 27 (dvCells nilS dvNil nilS nilS), .sl (.slice a1 d.pages.length c1) 9 1 d.pages.length (strRow d.pages), .sl (.slice a2 d.unread.length c2) 3 1 d.unread.length (intRow d.unread), .sl (.slice a3 d.faults.length c3) 29 6 d.faults.length (fltRow d.faults)] w3) := HB2.out.addown hb ho
  clear hb ho HB2 HC3
  have k2 : w3.cell? ⟨w.heap.size, 4, none⟩ = some (.slice fa d.faults.length fc) := HA3.out.at 0 rfl 4 rfl
  have z2 : w3.frozen? ⟨w.heap.size, 4, none⟩ = false := HA3.out.frozen 0 rfl 4
  have HB3 : Hid (Hp w [.ob w.heap.size 27 (dvCells (.slice a1 d.pages.length c1) d (.slice a2 d.unread.length c2) (.slice a3 d.faults.length c3)), .ob (w.heap.size + 1) 27 (dvCells nilS dvNil nilS nilS), .sl (.slice a1 d.pages.length c1) 9 1 d.pages.length (strRow d.pages), .sl (.slice a2 d.unread.length c2) 3 1 d.unread.length (intRow d.unread), .sl (.slice a3 d.faults.length c3) 29 6 d.faults.length (fltRow d.faults)] (w3.setCell ⟨w.heap.size, 4, none⟩ (.slice a3 d.faults.length c3))) := HA3.out.set 0 rfl 4 (.slice a3 d.faults.length c3)
  go_wp2_with (first | ((with_reducible refine wpList_load_ob 27 (.tmp 1) w.heap.size (dvCells (.slice a1 d.pages.length c1) d (.slice a2 d.unread.length c2) (.slice a3 d.faults.length c3)) 27 HUD.out ?_ ?_ ?_ ?_ ?_); (exact rfl); (exact HB3.out.get 0 rfl); (exact rfl); (exact info_dv); simp only [Act.put, List.setIfInBounds_toArray, List.set_cons_zero, List.set_cons_succ]) | ((with_reducible refine wpList_store_ob 27 (.tmp 2) (w.heap.size + 1) (dvCells (.slice a1 d.pages.length c1) d (.slice a2 d.unread.length c2) (.slice a3 d.faults.length c3)) (dvCells nilS dvNil nilS nilS) 27 ?_ ?_ ?_ ?_ ?_ ?_ ?_); (exact rfl); (exact rfl); (exact HB3.out.get 1 rfl); (exact info_dv); (exact rfl); (exact (oneCell_dv _ _ _ _ _ _ _ _ _ _)); skip))
  have HC : Hid (Hp w [.ob w.heap.size 27 (dvCells (.slice a1 d.pages.length c1) d (.slice a2 d.unread.length c2) (.slice a3 d.faults.length c3)), .ob (w.heap.size + 1) 27 (dvCells (.slice a1 d.pages.length c1) d (.slice a2 d.unread.length c2) (.slice a3 d.faults.length c3)), .sl (.slice a1 d.pages.length c1) 9 1 d.pages.length (strRow d.pages), .sl (.slice a2 d.unread.length c2) 3 1 d.unread.length (intRow d.unread), .sl (.slice a3 d.faults.length c3) 29 6 d.faults.length (fltRow d.faults)] ((w3.setCell ⟨w.heap.size, 4, none⟩ (.slice a3 d.faults.length c3)).setRow (w.heap.size + 1) (dvCells (.slice a1 d.pages.length c1) d (.slice a2 d.unread.length c2) (.slice a3 d.faults.length c3)).toArray)) := HB3.out.row 1 rfl (dvCells (.slice a1 d.pages.length c1) d (.slice a2 d.unread.length c2) (.slice a3 d.faults.length c3))
  refine bodyPost_ret (results_ob Try.results39 _ _ (w.heap.size + 1) (dvCells (.slice a1 d.pages.length c1) d (.slice a2 d.unread.length c2) (.slice a3 d.faults.length c3)) 27 _ rfl (HC.out.get 1 rfl) HUD.out rfl info_dv) rfl ?_
  exact ⟨_, rfl, (.slice a1 d.pages.length c1), (.slice a2 d.unread.length c2), (.slice a3 d.faults.length c3), rfl, HC.out.pull [2, 3, 4] rfl (pull_nd HC.out.nd [2, 3, 4] rfl (by decide))⟩
end Go.Proofs.Ytlmbnofkmmehoaa
