/- texts of a claim, one after the other: the walk of the reference's Inject, the program's Inject, what the program's Write is made of -/
import Derived.Test.YtlmbnofkmmehoaaOm4
import Derived.Test.YtlmbnofkmmehoaaOm6
import Derived.Test.YtlmbnofkmmehoaaOm8
import Derived.Test.YtlmbnofkmmehoaaOm5
/- the walk of the reference's Inject -/
namespace Go.Proofs.Ytlmbnofkmmehoaa
open Go.RowKit
set_option maxRecDepth 20000

/-- what a callee made, beside what the walk has -/
theorem Hp.join {w W W' : World} {L M : List Th} (h : Hp w L W) (k : Hp W M W') (hM : ∀ y ∈ M, y.reads = [] ∧ ∀ C, y ≠ .cd C) : Hp w (L ++ M) W' := by
  have h' := h.calls k.old
  refine ⟨h'.old, fun x hx => ?_, ?_⟩
  · rcases List.mem_append.1 hx with hx | hx
    · exact h'.all x hx
    · have hk := k.all x hx
      cases x with
      | ob b t cs => exact ⟨Nat.le_trans h.old.size hk.1, hk.2⟩
      | sl v e z n xs =>
        refine ⟨hk.1, ?_⟩
        rcases hk.2 with h0 | ⟨g, cap, cur, hv, hB, hr⟩
        · exact .inl h0
        · exact .inr ⟨g, cap, cur, hv, Nat.le_trans h.old.size hB, hr⟩
      | cd C => exact absurd rfl ((hM _ hx).2 C)
      | rd R => exact hk
  · rw [List.pairwise_append]
    refine ⟨h.nd, k.nd, fun a ha b hb => ⟨fun c hac => ⟨fun hbc => ?_, fun hr => ?_⟩, fun c hbc har => ?_⟩⟩
    · have h1 := ((h.all a ha).from hac).2
      have h2 := ((k.all b hb).from hbc).1
      omega
    · rw [(hM b hb).1] at hr
      cases hr
    · have h1 := (h.all a ha).reads_lt har
      have h2 := ((k.all b hb).from hbc).1
      omega
theorem three_sl {a b c : Th} (ha : a.reads = [] ∧ ∀ C, a ≠ .cd C) (hb : b.reads = [] ∧ ∀ C, b ≠ .cd C) (hc : c.reads = [] ∧ ∀ C, c ≠ .cd C) : ∀ y ∈ [a, b, c], y.reads = [] ∧ ∀ C, y ≠ .cd C := by
  intro y hy
  simp only [List.mem_cons, List.not_mem_nil, or_false] at hy
  rcases hy with rfl | rfl | rfl
  · exact ha
  · exact hb
  · exact hc
theorem sl_plain (v : Value) (e : TypeId) (z n : Nat) (xs : List Value) : (Th.sl v e z n xs).reads = [] ∧ ∀ C, Th.sl v e z n xs ≠ .cd C := ⟨rfl, fun C h => by cases h⟩
/-- three slices of the walk's own read as a device -/
theorem own_dv {B : Nat} {W : World} {p u f : Value} {d : Dv} (hp : W.ownsRow B 9 1 p d.pages.length (strRow d.pages)) (hu : W.ownsRow B 3 1 u d.unread.length (intRow d.unread)) (hf : W.ownsRow B 29 6 f d.faults.length (fltRow d.faults)) :
    ∃ R, DvRd p u f d R ∧ RdIn W R ∧ ∀ r ∈ R, B ≤ r.1 := by
  obtain ⟨R1, a1, b1, c1⟩ := own_reads hp
  obtain ⟨R2, a2, b2, c2⟩ := own_reads hu
  obtain ⟨R3, a3, b3, c3⟩ := own_reads hf
  refine ⟨R1 ++ (R2 ++ R3), ⟨a1.mono (by simp +contextual), a2.mono (by simp +contextual), a3.mono (by simp +contextual)⟩, b1.append (b2.append b3), fun r hr => ?_⟩
  rcases List.mem_append.1 hr with h | h
  · exact (c1 r h).1
  · rcases List.mem_append.1 h with h | h
    · exact (c2 r h).1
    · exact (c3 r h).1
theorem one_flt (x : Flt) : ∀ u ∈ fltCells x, u.oneCell' = true := by
  intro u hu
  simp only [fltCells, List.mem_cons, List.not_mem_nil, or_false] at hu
  rcases hu with rfl | rfl | rfl | rfl | rfl | rfl <;> rfl
theorem fltRow_snoc (l : List Flt) (x : Flt) : fltRow (l ++ [x]) = fltRow l ++ ([fltCells x] : List (List Value)).flatMap id := by
  unfold fltRow
  rw [List.flatMap_append]
  rfl
set_option linter.unusedSimpArgs false in
set_option maxHeartbeats 8000000 in
theorem rinject_any {p u f : Value} {d : Dv} {R : List Rng} (x : Flt) (w : World) (h : DvRd p u f d R) (hR : RdIn w R) (hg : GoodDv d) (hx : GoodFlt x) (hp : d.pages.length ≤ 1000) (hf : d.faults.length ≤ 1000) :
    Calls Try.prog 26 #[.agg (dvCells p d u f).toArray, .agg (fltCells x).toArray] w (DvPost w R (injectR d x)) := by
  have HV : Hid (∀ W, Below w.heap.size w W → Calls Try.prog 23 #[.agg (dvCells p d u f).toArray] W fun e w' => e = .returned (.bool (dvOkB d)) ∧ Below W.heap.size W w') := fun W hb => rvalid_any W h (hR.below hb) hg.faults hg.pages hg.unread
  have HCp : Hid (∀ W, Below w.heap.size w W → Calls Try.prog 36 #[.agg (dvCells p d u f).toArray] W fun e w' => ∃ v, e = .returned v ∧ OwnDv W w' v d) := fun W hb => copy_any W h (hR.below hb) hp hg.unread hf
  have HLf := Lib.hid hf
  obtain ⟨fs, hud⟩ := under_dv
  have HUD := Lib.hid hud
  obtain ⟨fs2, huf⟩ := under_flt
  have HUF := Lib.hid huf
  have HUX : Hid (Try.prog.underlying 25 = some (.slice 29)) := Try.underlying25
  clear hud huf hp
  obtain ⟨pa, pc, rfl, p1, _, p2⟩ := h.pages.open hR
  obtain ⟨ua, uc, rfl, u1, _, u2⟩ := h.unread.open hR
  obtain ⟨fa, fc, rfl, f1, _, f2⟩ := h.faults.open hR
  have HFl : Hid (∀ W, Calls Try.prog 53 #[.agg (dvCells (.slice pa d.pages.length pc) d (.slice ua d.unread.length uc) (.slice fa d.faults.length fc)).toArray, .agg (fltCells x).toArray] W fun e w' => e = .returned (.bool (fltOkB d.pages.length d.writes x)) ∧ Below W.heap.size W w') := fun W => rfault_any pa d.pages.length pc d.writes _ d.dead _ x W hx
  clear h hR hg p2 u2 f2 hx hf
  have h1 := (((Hp.start w).put 27 (dvCells (.slice pa d.pages.length pc) d (.slice ua d.unread.length uc) (.slice fa d.faults.length fc))).put 29 (fltCells x)).put 27 (dvCells nilS dvNil nilS nilS)
  simp only [World.size_alloc, List.nil_append, List.cons_append] at h1
  have HS0 : Hid (Hp w [.ob w.heap.size 27 (dvCells (.slice pa d.pages.length pc) d (.slice ua d.unread.length uc) (.slice fa d.faults.length fc)), .ob (w.heap.size + 1) 29 (fltCells x), .ob (w.heap.size + 1 + 1) 27 (dvCells nilS dvNil nilS nilS)] (((w.alloc (.cells (dvCells (.slice pa d.pages.length pc) d (.slice ua d.unread.length uc) (.slice fa d.faults.length fc)).toArray 27)).alloc (.cells (fltCells x).toArray 29)).alloc (.cells #[.slice none 0 0, .int .i64 0, .slice none 0 0, .bool false, .slice none 0 0] 27))) := h1
  clear h1
  go_enter Try.func26, Try.ntmps26
  go_wp2_with (first | ((with_reducible refine wpList_load_ob 27 (.tmp 2) (w.heap.size) (dvCells (.slice pa d.pages.length pc) d (.slice ua d.unread.length uc) (.slice fa d.faults.length fc)) 27 HUD.out ?_ ?_ ?_ ?_ ?_); (exact rfl); (exact (HS0.out).get 0 rfl); (exact rfl); (exact info_dv); simp only [Act.put, List.setIfInBounds_toArray, List.set_cons_zero, List.set_cons_succ]))
  refine (HV.out _ (HS0.out).old).mono ?_
  rintro e w3 ⟨rfl, hb⟩
  have HS2 : Hid (Hp w [.ob (w.heap.size) 27 (dvCells (.slice pa d.pages.length pc) d (.slice ua d.unread.length uc) (.slice fa d.faults.length fc)), .ob ((w.heap.size + 1)) 29 (fltCells x), .ob ((w.heap.size + 1 + 1)) 27 (dvCells nilS dvNil nilS nilS)] w3) := (HS0.out).calls hb
  clear hb
  clear HS0
  generalize (w.heap.size + 1 + 1) = B1 at *
  generalize (w.heap.size + 1) = B2 at *
  clear HV
  cases hv : dvOkB d
  case false =>
    have HX : Hid (dvOkB d = false) := hv
    clear hv
    go_wp2_with (first | ((with_reducible refine wpList_build_v 27 (.agg (dvCells nilS dvNil nilS nilS).toArray) ?_ ?_); (intro W; simp only [List.map_toArray, List.map_cons, List.map_nil]; exact build_dv0 W); simp only [Act.put, List.setIfInBounds_toArray, List.set_cons_zero, List.set_cons_succ]) | ((with_reducible refine wpList_store_ob 27 (.tmp 4) B1 (dvCells nilS dvNil nilS nilS) (dvCells nilS dvNil nilS nilS) 27 ?_ ?_ ?_ ?_ ?_ ?_ ?_); (exact rfl); (exact rfl); (exact (HS2.out).get 2 rfl); (exact info_dv); (exact rfl); (exact (oneCell_dv _ _ _ _ _ _ _ _ _ _)); skip))
    have HS3 : Hid (Hp w [.ob (w.heap.size) 27 (dvCells (.slice pa d.pages.length pc) d (.slice ua d.unread.length uc) (.slice fa d.faults.length fc)), .ob B2 29 (fltCells x), .ob B1 27 (dvCells nilS dvNil nilS nilS)] (w3.setRow B1 (dvCells nilS dvNil nilS nilS).toArray)) := (HS2.out).row 2 rfl (dvCells nilS dvNil nilS nilS)
    clear HS2
    generalize (w3.setRow B1 (dvCells nilS dvNil nilS nilS).toArray) = w4 at *
    refine bodyPost_ret (results_ob_tmp Try.results26 _ _ B1 (dvCells nilS dvNil nilS nilS) 27 _ rfl (HS3.out.get 2 rfl) HUD.out rfl info_dv) rfl ?_
    exact DvPost.none (by unfold injectR; rw [if_pos HX.out]) HS3.out.old
  case true =>
    have HX : Hid (¬ dvOkB d = false) := by show ¬ _; rw [hv]; decide
    clear hv
    go_wp2_with (first | ((with_reducible refine wpList_load_ob 27 (.tmp 2) (w.heap.size) (dvCells (.slice pa d.pages.length pc) d (.slice ua d.unread.length uc) (.slice fa d.faults.length fc)) 27 HUD.out ?_ ?_ ?_ ?_ ?_); (exact rfl); (exact (HS2.out).get 0 rfl); (exact rfl); (exact info_dv); simp only [Act.put, List.setIfInBounds_toArray, List.set_cons_zero, List.set_cons_succ]) | ((with_reducible refine wpList_load_ob 29 (.tmp 3) B2 (fltCells x) 29 HUF.out ?_ ?_ ?_ ?_ ?_); (exact rfl); (exact (HS2.out).get 1 rfl); (exact rfl); (exact info_flt); simp only [Act.put, List.setIfInBounds_toArray, List.set_cons_zero, List.set_cons_succ]))
    refine (HFl.out _).mono ?_
    rintro e w4 ⟨rfl, hb⟩
    have HS3 : Hid (Hp w [.ob (w.heap.size) 27 (dvCells (.slice pa d.pages.length pc) d (.slice ua d.unread.length uc) (.slice fa d.faults.length fc)), .ob B2 29 (fltCells x), .ob B1 27 (dvCells nilS dvNil nilS nilS)] w4) := (HS2.out).calls hb
    clear hb
    clear HS2
    clear HFl
    cases hv : fltOkB d.pages.length d.writes x
    case false =>
      have HY : Hid (fltOkB d.pages.length d.writes x = false) := hv
      clear hv
      go_wp2_with (first | ((with_reducible refine wpList_build_v 27 (.agg (dvCells nilS dvNil nilS nilS).toArray) ?_ ?_); (intro W; simp only [List.map_toArray, List.map_cons, List.map_nil]; exact build_dv0 W); simp only [Act.put, List.setIfInBounds_toArray, List.set_cons_zero, List.set_cons_succ]) | ((with_reducible refine wpList_store_ob 27 (.tmp 4) B1 (dvCells nilS dvNil nilS nilS) (dvCells nilS dvNil nilS nilS) 27 ?_ ?_ ?_ ?_ ?_ ?_ ?_); (exact rfl); (exact rfl); (exact (HS3.out).get 2 rfl); (exact info_dv); (exact rfl); (exact (oneCell_dv _ _ _ _ _ _ _ _ _ _)); skip))
      have HS4 : Hid (Hp w [.ob (w.heap.size) 27 (dvCells (.slice pa d.pages.length pc) d (.slice ua d.unread.length uc) (.slice fa d.faults.length fc)), .ob B2 29 (fltCells x), .ob B1 27 (dvCells nilS dvNil nilS nilS)] (w4.setRow B1 (dvCells nilS dvNil nilS nilS).toArray)) := (HS3.out).row 2 rfl (dvCells nilS dvNil nilS nilS)
      clear HS3
      generalize (w4.setRow B1 (dvCells nilS dvNil nilS nilS).toArray) = w5 at *
      refine bodyPost_ret (results_ob_tmp Try.results26 _ _ B1 (dvCells nilS dvNil nilS nilS) 27 _ rfl (HS4.out.get 2 rfl) HUD.out rfl info_dv) rfl ?_
      exact DvPost.none (by unfold injectR; rw [if_neg HX.out, if_pos HY.out]) HS4.out.old
    case true =>
      have HY : Hid (¬ fltOkB d.pages.length d.writes x = false) := by show ¬ _; rw [hv]; decide
      clear hv
      have b4 : w4.cell? ⟨w.heap.size, 4, none⟩ = some (.slice fa d.faults.length fc) := (HS3.out).at 0 rfl 4 rfl
      by_cases hq : d.faults.length = 64
      case pos =>
        have HZ := Lib.hid hq
        have hqb : ((d.faults.length : Int) == 64) = true := by rw [hq]; rfl
        clear hq
        go_wp2_with (first | ((with_reducible refine wpList_build_v 27 (.agg (dvCells nilS dvNil nilS nilS).toArray) ?_ ?_); (intro W; simp only [List.map_toArray, List.map_cons, List.map_nil]; exact build_dv0 W); simp only [Act.put, List.setIfInBounds_toArray, List.set_cons_zero, List.set_cons_succ]) | ((with_reducible refine wpList_store_ob 27 (.tmp 4) B1 (dvCells nilS dvNil nilS nilS) (dvCells nilS dvNil nilS nilS) 27 ?_ ?_ ?_ ?_ ?_ ?_ ?_); (exact rfl); (exact rfl); (exact (HS3.out).get 2 rfl); (exact info_dv); (exact rfl); (exact (oneCell_dv _ _ _ _ _ _ _ _ _ _)); skip))
        have HS4 : Hid (Hp w [.ob (w.heap.size) 27 (dvCells (.slice pa d.pages.length pc) d (.slice ua d.unread.length uc) (.slice fa d.faults.length fc)), .ob B2 29 (fltCells x), .ob B1 27 (dvCells nilS dvNil nilS nilS)] (w4.setRow B1 (dvCells nilS dvNil nilS nilS).toArray)) := (HS3.out).row 2 rfl (dvCells nilS dvNil nilS nilS)
        clear HS3
        generalize (w4.setRow B1 (dvCells nilS dvNil nilS nilS).toArray) = w5 at *
        refine bodyPost_ret (results_ob_tmp Try.results26 _ _ B1 (dvCells nilS dvNil nilS nilS) 27 _ rfl (HS4.out.get 2 rfl) HUD.out rfl info_dv) rfl ?_
        exact DvPost.none (by unfold injectR; rw [if_neg HX.out, if_neg HY.out, if_pos HZ.out]) HS4.out.old
      case neg =>
        have HZ := Lib.hid hq
        have hqb : ((d.faults.length : Int) == 64) = false := by rw [beq_eq_false_iff_ne]; omega
        clear hq
        go_wp2_with (first | ((with_reducible refine wpList_load_ob 27 (.tmp 2) (w.heap.size) (dvCells (.slice pa d.pages.length pc) d (.slice ua d.unread.length uc) (.slice fa d.faults.length fc)) 27 HUD.out ?_ ?_ ?_ ?_ ?_); (exact rfl); (exact (HS3.out).get 0 rfl); (exact rfl); (exact info_dv); simp only [Act.put, List.setIfInBounds_toArray, List.set_cons_zero, List.set_cons_succ]))
        refine (HCp.out _ (HS3.out).old).mono ?_
        rintro e w20 ⟨v, rfl, p', u', f', rfl, hk⟩
        obtain ⟨a1, c1, rfl⟩ := own_slice (hk.own 0 rfl)
        obtain ⟨a2, c2, rfl⟩ := own_slice (hk.own 1 rfl)
        obtain ⟨a3, c3, rfl⟩ := own_slice (hk.own 2 rfl)
        have HS4 : Hid (Hp w [.ob (w.heap.size) 27 (dvCells (.slice pa d.pages.length pc) d (.slice ua d.unread.length uc) (.slice fa d.faults.length fc)), .ob B2 29 (fltCells x), .ob B1 27 (dvCells nilS dvNil nilS nilS), .sl ((.slice a1 d.pages.length c1)) 9 1 (d.pages.length) (strRow d.pages), .sl ((.slice a2 d.unread.length c2)) 3 1 (d.unread.length) (intRow d.unread), .sl ((.slice a3 d.faults.length c3)) 29 6 (d.faults.length) (fltRow d.faults)] w20) := (HS3.out).join hk (three_sl (sl_plain _ _ _ _ _) (sl_plain _ _ _ _ _) (sl_plain _ _ _ _ _))
        clear HS3
        clear HCp b4 hk
        have b4 : (((w20.alloc (.cells (dvCells nilS dvNil nilS nilS).toArray 27)).setRow (w20.heap.size) (dvCells (.slice a1 d.pages.length c1) d (.slice a2 d.unread.length c2) (.slice a3 d.faults.length c3)).toArray)).cell? ⟨(w20.heap.size), 4, none⟩ = some (.slice a3 d.faults.length c3) := (((HS4.out).put 27 (dvCells nilS dvNil nilS nilS)).row 6 rfl (dvCells (.slice a1 d.pages.length c1) d (.slice a2 d.unread.length c2) (.slice a3 d.faults.length c3))).at 6 rfl 4 rfl
        go_wp2_with (first | ((with_reducible refine wpList_alloc_ob 27 (dvCells nilS dvNil nilS nilS) ?_ ?_); (exact alloc_dv); simp only [Act.put, List.setIfInBounds_toArray, List.set_cons_zero, List.set_cons_succ]) | ((with_reducible refine wpList_store_ob 27 (.tmp 6) (w20.heap.size) (dvCells (.slice a1 d.pages.length c1) d (.slice a2 d.unread.length c2) (.slice a3 d.faults.length c3)) (dvCells nilS dvNil nilS nilS) 27 ?_ ?_ ?_ ?_ ?_ ?_ ?_); (exact rfl); (exact rfl); (exact ((HS4.out).put 27 (dvCells nilS dvNil nilS nilS)).get 6 rfl); (exact info_dv); (exact rfl); (exact (oneCell_dv _ _ _ _ _ _ _ _ _ _)); skip) | ((with_reducible refine wpList_load_ob 29 (.tmp 3) B2 (fltCells x) 29 HUF.out ?_ ?_ ?_ ?_ ?_); (exact rfl); (exact (((HS4.out).put 27 (dvCells nilS dvNil nilS nilS)).row 6 rfl (dvCells (.slice a1 d.pages.length c1) d (.slice a2 d.unread.length c2) (.slice a3 d.faults.length c3))).get 1 rfl); (exact rfl); (exact info_flt); simp only [Act.put, List.setIfInBounds_toArray, List.set_cons_zero, List.set_cons_succ]) | ((with_reducible refine wpList_build_obs 25 1 elem_flt HUX.out [fltCells x] ?_ ?_ ?_ ?_ ?_ ?_); (exact (List.forall_mem_cons.2 ⟨rfl, (fun _ h => absurd h List.not_mem_nil)⟩)); (exact Nat.succ_pos _); (simp only [List.length_cons, List.length_nil]; omega); (exact rfl); (simp only [List.map_toArray, List.map_cons, List.map_nil, List.zipIdx_cons, List.zipIdx_nil]; exact rfl); simp only [Act.put, List.setIfInBounds_toArray, List.set_cons_zero, List.set_cons_succ]) | ((with_reducible refine wpList_append_hp ((((HS4.out).put 27 (dvCells nilS dvNil nilS nilS)).row 6 rfl (dvCells (.slice a1 d.pages.length c1) d (.slice a2 d.unread.length c2) (.slice a3 d.faults.length c3))).put 29 (([fltCells x] : List (List Value)).flatMap id)) (.tmp 27) (.tmp 29) 25 5 (v := (.slice a3 d.faults.length c3)) (e := 29) (z := 6) (n := d.faults.length) (xs := fltRow d.faults) ?_ 7 (b := (((w20.alloc (.cells (dvCells nilS dvNil nilS nilS).toArray 27)).setRow (w20.heap.size) (dvCells (.slice a1 d.pages.length c1) d (.slice a2 d.unread.length c2) (.slice a3 d.faults.length c3)).toArray).heap.size)) (t' := 29) (ys := ([fltCells x] : List (List Value)).flatMap id) ?_ HUX.out elem_flt 1 1 ?_ ?_ ?_ ?_ ?_ ?_); (exact rfl); (exact rfl); (exact rfl); (exact rfl); (exact rfl); (exact (one_flt x)); (exact (by have := HLf.out; omega))))
        intro v21 w21 hs hnil
        have HS6 : Hid (Hp w [.ob (w.heap.size) 27 (dvCells (.slice pa d.pages.length pc) d (.slice ua d.unread.length uc) (.slice fa d.faults.length fc)), .ob B2 29 (fltCells x), .ob B1 27 (dvCells nilS dvNil nilS nilS), .sl ((.slice a1 d.pages.length c1)) 9 1 (d.pages.length) (strRow d.pages), .sl ((.slice a2 d.unread.length c2)) 3 1 (d.unread.length) (intRow d.unread), .sl v21 29 6 (d.faults.length + 1) ((fltRow d.faults) ++ (([fltCells x] : List (List Value)).flatMap id)), .ob (w20.heap.size) 27 (dvCells (.slice a1 d.pages.length c1) d (.slice a2 d.unread.length c2) (.slice a3 d.faults.length c3)), .ob (((w20.alloc (.cells (dvCells nilS dvNil nilS nilS).toArray 27)).setRow (w20.heap.size) (dvCells (.slice a1 d.pages.length c1) d (.slice a2 d.unread.length c2) (.slice a3 d.faults.length c3)).toArray).heap.size) 29 (([fltCells x] : List (List Value)).flatMap id)] w21) := hs
        clear hs
        clear HS4
        generalize ((w20.alloc (.cells (dvCells nilS dvNil nilS nilS).toArray 27)).setRow (w20.heap.size) (dvCells (.slice a1 d.pages.length c1) d (.slice a2 d.unread.length c2) (.slice a3 d.faults.length c3)).toArray).heap.size = B3 at *
        generalize w20.heap.size = B4 at *
        obtain ⟨a4, c4, rfl⟩ := own_slice (HS6.out.own 5 rfl)
        have b4 : w21.cell? ⟨B4, 4, none⟩ = some (.slice a3 d.faults.length c3) := HS6.out.at 6 rfl 4 rfl
        have f4 : w21.frozen? ⟨B4, 4, none⟩ = false := HS6.out.frozen 6 rfl 4
        have HS40 : Hid (Hp w [.ob (w.heap.size) 27 (dvCells (.slice pa d.pages.length pc) d (.slice ua d.unread.length uc) (.slice fa d.faults.length fc)), .ob B2 29 (fltCells x), .ob B1 27 (dvCells nilS dvNil nilS nilS), .sl ((.slice a1 d.pages.length c1)) 9 1 (d.pages.length) (strRow d.pages), .sl ((.slice a2 d.unread.length c2)) 3 1 (d.unread.length) (intRow d.unread), .sl ((.slice a4 (d.faults.length + 1) c4)) 29 6 (d.faults.length + 1) ((fltRow d.faults) ++ (([fltCells x] : List (List Value)).flatMap id)), .ob B4 27 (dvCells (.slice a1 d.pages.length c1) d (.slice a2 d.unread.length c2) (.slice a4 (d.faults.length + 1) c4)), .ob B3 29 (([fltCells x] : List (List Value)).flatMap id)] (w21.setCell ⟨B4, 4, none⟩ (.slice a4 (d.faults.length + 1) c4))) := (HS6.out).set 6 rfl 4 (.slice a4 (d.faults.length + 1) c4)
        go_wp2_with (first | ((with_reducible refine wpList_load_ob 27 (.tmp 6) B4 (dvCells (.slice a1 d.pages.length c1) d (.slice a2 d.unread.length c2) (.slice a4 (d.faults.length + 1) c4)) 27 HUD.out ?_ ?_ ?_ ?_ ?_); (exact rfl); (exact (HS40.out).get 6 rfl); (exact rfl); (exact info_dv); simp only [Act.put, List.setIfInBounds_toArray, List.set_cons_zero, List.set_cons_succ]) | ((with_reducible refine wpList_store_ob 27 (.tmp 4) B1 (dvCells (.slice a1 d.pages.length c1) d (.slice a2 d.unread.length c2) (.slice a4 (d.faults.length + 1) c4)) (dvCells nilS dvNil nilS nilS) 27 ?_ ?_ ?_ ?_ ?_ ?_ ?_); (exact rfl); (exact rfl); (exact (HS40.out).get 2 rfl); (exact info_dv); (exact rfl); (exact (oneCell_dv _ _ _ _ _ _ _ _ _ _)); skip))
        have HS7 : Hid (Hp w [.ob (w.heap.size) 27 (dvCells (.slice pa d.pages.length pc) d (.slice ua d.unread.length uc) (.slice fa d.faults.length fc)), .ob B2 29 (fltCells x), .ob B1 27 (dvCells (.slice a1 d.pages.length c1) d (.slice a2 d.unread.length c2) (.slice a4 (d.faults.length + 1) c4)), .sl ((.slice a1 d.pages.length c1)) 9 1 (d.pages.length) (strRow d.pages), .sl ((.slice a2 d.unread.length c2)) 3 1 (d.unread.length) (intRow d.unread), .sl ((.slice a4 (d.faults.length + 1) c4)) 29 6 (d.faults.length + 1) ((fltRow d.faults) ++ (([fltCells x] : List (List Value)).flatMap id)), .ob B4 27 (dvCells (.slice a1 d.pages.length c1) d (.slice a2 d.unread.length c2) (.slice a4 (d.faults.length + 1) c4)), .ob B3 29 (([fltCells x] : List (List Value)).flatMap id)] ((w21.setCell ⟨B4, 4, none⟩ (.slice a4 (d.faults.length + 1) c4)).setRow B1 (dvCells (.slice a1 d.pages.length c1) d (.slice a2 d.unread.length c2) (.slice a4 (d.faults.length + 1) c4)).toArray)) := (HS40.out).row 2 rfl (dvCells (.slice a1 d.pages.length c1) d (.slice a2 d.unread.length c2) (.slice a4 (d.faults.length + 1) c4))
        clear HS6
        generalize ((w21.setCell ⟨B4, 4, none⟩ (.slice a4 (d.faults.length + 1) c4)).setRow B1 (dvCells (.slice a1 d.pages.length c1) d (.slice a2 d.unread.length c2) (.slice a4 (d.faults.length + 1) c4)).toArray) = w22 at *
        refine bodyPost_ret (results_ob_tmp Try.results26 _ _ B1 (dvCells (.slice a1 d.pages.length c1) d (.slice a2 d.unread.length c2) (.slice a4 (d.faults.length + 1) c4)) 27 _ rfl (HS7.out.get 2 rfl) HUD.out rfl info_dv) rfl ?_
        have hfo : _ := HS7.out.own 5 rfl
        obtain ⟨R', hrd, hin, hnew⟩ := own_dv (d := ⟨d.pages, d.writes, d.unread, d.dead, d.faults ++ [x]⟩) (HS7.out.own 3 rfl) (HS7.out.own 4 rfl) (by rw [List.length_append, fltRow_snoc]; exact hfo)
        exact ⟨_, _, _, R', by unfold injectR; rw [if_neg HX.out, if_neg HY.out, if_neg HZ.out]; rfl, by unfold injectR; rw [if_neg HX.out, if_neg HY.out, if_neg HZ.out]; exact hrd, hin, fun r hr => .inl (hnew r hr), HS7.out.old⟩
end Go.Proofs.Ytlmbnofkmmehoaa
/- the program's Inject -/
namespace Go.Proofs.Ytlmbnofkmmehoaa
open Go.RowKit
set_option maxRecDepth 20000
set_option linter.unusedSimpArgs false
set_option linter.unusedVariables false

set_option maxHeartbeats 8000000 in
theorem inject_any {p u f : Value} {d : Dv} {R : List Rng} (x : Flt) (w : World) (h : DvRd p u f d R) (hR : RdIn w R) (hg : GoodDv d) (hx : GoodFlt x) (hp : d.pages.length ≤ 1000) (hf : d.faults.length ≤ 1000) :
    Calls Try.prog 25 #[.agg (dvCells p d u f).toArray, .agg (fltCells x).toArray] w (DvPost w R (injectR d x)) := by
  have HV : Hid (∀ W, Below w.heap.size w W → Calls Try.prog 22 #[.agg (dvCells p d u f).toArray] W fun e w' => e = .returned (.bool (dvOkB d)) ∧ Below W.heap.size W w') := fun W hb => valid_any W h (hR.below hb) hg
  have HCp : Hid (∀ W, Below w.heap.size w W → Calls Try.prog 39 #[.agg (dvCells p d u f).toArray] W fun e w' => ∃ v, e = .returned v ∧ OwnDv W w' v d) := fun W hb => copied_any W h (hR.below hb) hp hg.unread hf
  have HFl : Hid (∀ W, Below w.heap.size w W → Calls Try.prog 54 #[.agg (dvCells p d u f).toArray, .agg (fltCells x).toArray] W fun e w' => e = .returned (.bool (fltOkB d.pages.length d.writes x)) ∧ Below W.heap.size W w') := fun W hb => validFault_any x W h (hR.below hb) hx
  have HLf := Lib.hid hf
  obtain ⟨fs, hud⟩ := under_dv
  have HUD := Lib.hid hud
  obtain ⟨fs2, huf⟩ := under_flt
  have HUF := Lib.hid huf
  clear hud huf
  have HUX : Hid (Try.prog.underlying 25 = some (.slice 29)) := Try.underlying25
  obtain ⟨pa, pc, rfl, hp1, hp3, hP2⟩ := h.pages.open hR
  obtain ⟨ua, uc, rfl, hu1, hu3, hU2⟩ := h.unread.open hR
  obtain ⟨fa, fc, rfl, hf1, hf3, hF2⟩ := h.faults.open hR
  clear h hR hg hP2 hU2 hF2 hx hf hp
  have h1 := (((Hp.start w).put 27 (dvCells (.slice pa d.pages.length pc) d (.slice ua d.unread.length uc) (.slice fa d.faults.length fc))).put 29 (fltCells x)).put 27 (dvCells nilS dvNil nilS nilS)
  simp only [World.size_alloc, List.nil_append, List.cons_append] at h1
  have HS0 : Hid (Hp w [.ob w.heap.size 27 (dvCells (.slice pa d.pages.length pc) d (.slice ua d.unread.length uc) (.slice fa d.faults.length fc)), .ob (w.heap.size + 1) 29 (fltCells x), .ob (w.heap.size + 1 + 1) 27 (dvCells nilS dvNil nilS nilS)] (((w.alloc (.cells (dvCells (.slice pa d.pages.length pc) d (.slice ua d.unread.length uc) (.slice fa d.faults.length fc)).toArray 27)).alloc (.cells (fltCells x).toArray 29)).alloc (.cells #[.slice none 0 0, .int .i64 0, .slice none 0 0, .bool false, .slice none 0 0] 27))) := h1
  clear h1 hp1 hp3 hu1 hu3 hf1 hf3
  go_enter Try.func25, Try.ntmps25
  go_wp2_with (first | ((with_reducible refine wpList_load_ob 27 (.tmp 2) (w.heap.size) (dvCells (.slice pa d.pages.length pc) d (.slice ua d.unread.length uc) (.slice fa d.faults.length fc)) 27 HUD.out ?_ ?_ ?_ ?_ ?_); (exact rfl); (exact (HS0.out).get 0 rfl); (exact rfl); (exact info_dv); simp only [Act.put, List.setIfInBounds_toArray, List.set_cons_zero, List.set_cons_succ]))
  refine (HV.out _ (HS0.out).old).mono ?_
  rintro e w3 ⟨rfl, hb⟩
  have HS2 : Hid (Hp w [.ob (w.heap.size) 27 (dvCells (.slice pa d.pages.length pc) d (.slice ua d.unread.length uc) (.slice fa d.faults.length fc)), .ob ((w.heap.size + 1)) 29 (fltCells x), .ob ((w.heap.size + 1 + 1)) 27 (dvCells nilS dvNil nilS nilS)] w3) := (HS0.out).calls hb
  clear hb
  clear HS0
  generalize (w.heap.size + 1 + 1) = B1 at *
  generalize (w.heap.size + 1) = B2 at *
  clear HV
  cases hv : dvOkB d
  case false =>
    have HX : Hid (dvOkB d = false) := hv
    clear hv
    go_wp2_with (first | ((with_reducible refine wpList_build_v 27 (.agg (dvCells nilS dvNil nilS nilS).toArray) ?_ ?_); (intro W; simp only [List.map_toArray, List.map_cons, List.map_nil]; exact build_dv0 W); simp only [Act.put, List.setIfInBounds_toArray, List.set_cons_zero, List.set_cons_succ]) | ((with_reducible refine wpList_store_ob 27 (.tmp 4) B1 (dvCells nilS dvNil nilS nilS) (dvCells nilS dvNil nilS nilS) 27 ?_ ?_ ?_ ?_ ?_ ?_ ?_); (exact rfl); (exact rfl); (exact (HS2.out).get 2 rfl); (exact info_dv); (exact rfl); (exact (oneCell_dv _ _ _ _ _ _ _ _ _ _)); skip))
    have HS3 : Hid (Hp w [.ob (w.heap.size) 27 (dvCells (.slice pa d.pages.length pc) d (.slice ua d.unread.length uc) (.slice fa d.faults.length fc)), .ob B2 29 (fltCells x), .ob B1 27 (dvCells nilS dvNil nilS nilS)] (w3.setRow B1 (dvCells nilS dvNil nilS nilS).toArray)) := (HS2.out).row 2 rfl (dvCells nilS dvNil nilS nilS)
    clear HS2
    generalize (w3.setRow B1 (dvCells nilS dvNil nilS nilS).toArray) = w4 at *
    refine bodyPost_ret (results_ob_tmp Try.results25 _ _ B1 (dvCells nilS dvNil nilS nilS) 27 _ rfl (HS3.out.get 2 rfl) HUD.out rfl info_dv) rfl ?_
    exact DvPost.none (by unfold injectR; rw [if_pos HX.out]) HS3.out.old
  case true =>
    have HX : Hid (¬ dvOkB d = false) := by show ¬ _; rw [hv]; decide
    clear hv
    go_wp2_with (first | ((with_reducible refine wpList_load_ob 27 (.tmp 2) (w.heap.size) (dvCells (.slice pa d.pages.length pc) d (.slice ua d.unread.length uc) (.slice fa d.faults.length fc)) 27 HUD.out ?_ ?_ ?_ ?_ ?_); (exact rfl); (exact (HS2.out).get 0 rfl); (exact rfl); (exact info_dv); simp only [Act.put, List.setIfInBounds_toArray, List.set_cons_zero, List.set_cons_succ]) | ((with_reducible refine wpList_load_ob 29 (.tmp 3) B2 (fltCells x) 29 HUF.out ?_ ?_ ?_ ?_ ?_); (exact rfl); (exact (HS2.out).get 1 rfl); (exact rfl); (exact info_flt); simp only [Act.put, List.setIfInBounds_toArray, List.set_cons_zero, List.set_cons_succ]))
    refine (HFl.out _ (HS2.out).old).mono ?_
    rintro e w4 ⟨rfl, hb⟩
    have HS3 : Hid (Hp w [.ob (w.heap.size) 27 (dvCells (.slice pa d.pages.length pc) d (.slice ua d.unread.length uc) (.slice fa d.faults.length fc)), .ob B2 29 (fltCells x), .ob B1 27 (dvCells nilS dvNil nilS nilS)] w4) := (HS2.out).calls hb
    clear hb
    clear HS2
    clear HFl
    cases hv : fltOkB d.pages.length d.writes x
    case false =>
      have HY : Hid (fltOkB d.pages.length d.writes x = false) := hv
      clear hv
      go_wp2_with (first | ((with_reducible refine wpList_build_v 27 (.agg (dvCells nilS dvNil nilS nilS).toArray) ?_ ?_); (intro W; simp only [List.map_toArray, List.map_cons, List.map_nil]; exact build_dv0 W); simp only [Act.put, List.setIfInBounds_toArray, List.set_cons_zero, List.set_cons_succ]) | ((with_reducible refine wpList_store_ob 27 (.tmp 4) B1 (dvCells nilS dvNil nilS nilS) (dvCells nilS dvNil nilS nilS) 27 ?_ ?_ ?_ ?_ ?_ ?_ ?_); (exact rfl); (exact rfl); (exact (HS3.out).get 2 rfl); (exact info_dv); (exact rfl); (exact (oneCell_dv _ _ _ _ _ _ _ _ _ _)); skip))
      have HS4 : Hid (Hp w [.ob (w.heap.size) 27 (dvCells (.slice pa d.pages.length pc) d (.slice ua d.unread.length uc) (.slice fa d.faults.length fc)), .ob B2 29 (fltCells x), .ob B1 27 (dvCells nilS dvNil nilS nilS)] (w4.setRow B1 (dvCells nilS dvNil nilS nilS).toArray)) := (HS3.out).row 2 rfl (dvCells nilS dvNil nilS nilS)
      clear HS3
      generalize (w4.setRow B1 (dvCells nilS dvNil nilS nilS).toArray) = w5 at *
      refine bodyPost_ret (results_ob_tmp Try.results25 _ _ B1 (dvCells nilS dvNil nilS nilS) 27 _ rfl (HS4.out.get 2 rfl) HUD.out rfl info_dv) rfl ?_
      exact DvPost.none (by unfold injectR; rw [if_neg HX.out, if_pos HY.out]) HS4.out.old
    case true =>
      have HY : Hid (¬ fltOkB d.pages.length d.writes x = false) := by show ¬ _; rw [hv]; decide
      clear hv
      have b4 : w4.cell? ⟨w.heap.size, 4, none⟩ = some (.slice fa d.faults.length fc) := (HS3.out).at 0 rfl 4 rfl
      by_cases hq : d.faults.length = 64
      case pos =>
        have HZ := Lib.hid hq
        have hqb : ((d.faults.length : Int) == 64) = true := by rw [hq]; rfl
        clear hq
        go_wp2_with (first | ((with_reducible refine wpList_build_v 27 (.agg (dvCells nilS dvNil nilS nilS).toArray) ?_ ?_); (intro W; simp only [List.map_toArray, List.map_cons, List.map_nil]; exact build_dv0 W); simp only [Act.put, List.setIfInBounds_toArray, List.set_cons_zero, List.set_cons_succ]) | ((with_reducible refine wpList_store_ob 27 (.tmp 4) B1 (dvCells nilS dvNil nilS nilS) (dvCells nilS dvNil nilS nilS) 27 ?_ ?_ ?_ ?_ ?_ ?_ ?_); (exact rfl); (exact rfl); (exact (HS3.out).get 2 rfl); (exact info_dv); (exact rfl); (exact (oneCell_dv _ _ _ _ _ _ _ _ _ _)); skip))
        have HS4 : Hid (Hp w [.ob (w.heap.size) 27 (dvCells (.slice pa d.pages.length pc) d (.slice ua d.unread.length uc) (.slice fa d.faults.length fc)), .ob B2 29 (fltCells x), .ob B1 27 (dvCells nilS dvNil nilS nilS)] (w4.setRow B1 (dvCells nilS dvNil nilS nilS).toArray)) := (HS3.out).row 2 rfl (dvCells nilS dvNil nilS nilS)
        clear HS3
        generalize (w4.setRow B1 (dvCells nilS dvNil nilS nilS).toArray) = w5 at *
        refine bodyPost_ret (results_ob_tmp Try.results25 _ _ B1 (dvCells nilS dvNil nilS nilS) 27 _ rfl (HS4.out.get 2 rfl) HUD.out rfl info_dv) rfl ?_
        exact DvPost.none (by unfold injectR; rw [if_neg HX.out, if_neg HY.out, if_pos HZ.out]) HS4.out.old
      case neg =>
        have HZ := Lib.hid hq
        have hqb : ((d.faults.length : Int) == 64) = false := by rw [beq_eq_false_iff_ne]; omega
        clear hq
        go_wp2_with (first | ((with_reducible refine wpList_load_ob 27 (.tmp 2) (w.heap.size) (dvCells (.slice pa d.pages.length pc) d (.slice ua d.unread.length uc) (.slice fa d.faults.length fc)) 27 HUD.out ?_ ?_ ?_ ?_ ?_); (exact rfl); (exact (HS3.out).get 0 rfl); (exact rfl); (exact info_dv); simp only [Act.put, List.setIfInBounds_toArray, List.set_cons_zero, List.set_cons_succ]))
        refine (HCp.out _ (HS3.out).old).mono ?_
        rintro e w20 ⟨v, rfl, p', u', f', rfl, hk⟩
        obtain ⟨a1, c1, rfl⟩ := own_slice (hk.own 0 rfl)
        obtain ⟨a2, c2, rfl⟩ := own_slice (hk.own 1 rfl)
        obtain ⟨a3, c3, rfl⟩ := own_slice (hk.own 2 rfl)
        have HS4 : Hid (Hp w [.ob (w.heap.size) 27 (dvCells (.slice pa d.pages.length pc) d (.slice ua d.unread.length uc) (.slice fa d.faults.length fc)), .ob B2 29 (fltCells x), .ob B1 27 (dvCells nilS dvNil nilS nilS), .sl ((.slice a1 d.pages.length c1)) 9 1 (d.pages.length) (strRow d.pages), .sl ((.slice a2 d.unread.length c2)) 3 1 (d.unread.length) (intRow d.unread), .sl ((.slice a3 d.faults.length c3)) 29 6 (d.faults.length) (fltRow d.faults)] w20) := (HS3.out).join hk (three_sl (sl_plain _ _ _ _ _) (sl_plain _ _ _ _ _) (sl_plain _ _ _ _ _))
        clear HS3
        clear HCp b4 hk
        have b4 : ((w20.setRow (w.heap.size) (dvCells (.slice a1 d.pages.length c1) d (.slice a2 d.unread.length c2) (.slice a3 d.faults.length c3)).toArray)).cell? ⟨(w.heap.size), 4, none⟩ = some (.slice a3 d.faults.length c3) := ((HS4.out).row 0 rfl (dvCells (.slice a1 d.pages.length c1) d (.slice a2 d.unread.length c2) (.slice a3 d.faults.length c3))).at 0 rfl 4 rfl
        go_wp2_with (first | ((with_reducible refine wpList_store_ob 27 (.tmp 2) (w.heap.size) (dvCells (.slice a1 d.pages.length c1) d (.slice a2 d.unread.length c2) (.slice a3 d.faults.length c3)) (dvCells (.slice pa d.pages.length pc) d (.slice ua d.unread.length uc) (.slice fa d.faults.length fc)) 27 ?_ ?_ ?_ ?_ ?_ ?_ ?_); (exact rfl); (exact rfl); (exact (HS4.out).get 0 rfl); (exact info_dv); (exact rfl); (exact (oneCell_dv _ _ _ _ _ _ _ _ _ _)); skip) | ((with_reducible refine wpList_load_ob 29 (.tmp 3) B2 (fltCells x) 29 HUF.out ?_ ?_ ?_ ?_ ?_); (exact rfl); (exact ((HS4.out).row 0 rfl (dvCells (.slice a1 d.pages.length c1) d (.slice a2 d.unread.length c2) (.slice a3 d.faults.length c3))).get 1 rfl); (exact rfl); (exact info_flt); simp only [Act.put, List.setIfInBounds_toArray, List.set_cons_zero, List.set_cons_succ]) | ((with_reducible refine wpList_build_obs 25 1 elem_flt HUX.out [fltCells x] ?_ ?_ ?_ ?_ ?_ ?_); (exact (List.forall_mem_cons.2 ⟨rfl, (fun _ h => absurd h List.not_mem_nil)⟩)); (exact Nat.succ_pos _); (simp only [List.length_cons, List.length_nil]; omega); (exact rfl); (simp only [List.map_toArray, List.map_cons, List.map_nil, List.zipIdx_cons, List.zipIdx_nil]; exact rfl); simp only [Act.put, List.setIfInBounds_toArray, List.set_cons_zero, List.set_cons_succ]) | ((with_reducible refine wpList_append_hp (((HS4.out).row 0 rfl (dvCells (.slice a1 d.pages.length c1) d (.slice a2 d.unread.length c2) (.slice a3 d.faults.length c3))).put 29 (([fltCells x] : List (List Value)).flatMap id)) (.tmp 26) (.tmp 28) 25 5 (v := (.slice a3 d.faults.length c3)) (e := 29) (z := 6) (n := d.faults.length) (xs := fltRow d.faults) ?_ 6 (b := ((w20.setRow (w.heap.size) (dvCells (.slice a1 d.pages.length c1) d (.slice a2 d.unread.length c2) (.slice a3 d.faults.length c3)).toArray).heap.size)) (t' := 29) (ys := ([fltCells x] : List (List Value)).flatMap id) ?_ HUX.out elem_flt 1 1 ?_ ?_ ?_ ?_ ?_ ?_); (exact rfl); (exact rfl); (exact rfl); (exact rfl); (exact rfl); (exact (one_flt x)); (exact (by have := HLf.out; omega))))
        intro v21 w21 hs hnil
        have HS6 : Hid (Hp w [.ob (w.heap.size) 27 (dvCells (.slice a1 d.pages.length c1) d (.slice a2 d.unread.length c2) (.slice a3 d.faults.length c3)), .ob B2 29 (fltCells x), .ob B1 27 (dvCells nilS dvNil nilS nilS), .sl ((.slice a1 d.pages.length c1)) 9 1 (d.pages.length) (strRow d.pages), .sl ((.slice a2 d.unread.length c2)) 3 1 (d.unread.length) (intRow d.unread), .sl v21 29 6 (d.faults.length + 1) ((fltRow d.faults) ++ (([fltCells x] : List (List Value)).flatMap id)), .ob ((w20.setRow (w.heap.size) (dvCells (.slice a1 d.pages.length c1) d (.slice a2 d.unread.length c2) (.slice a3 d.faults.length c3)).toArray).heap.size) 29 (([fltCells x] : List (List Value)).flatMap id)] w21) := hs
        clear hs
        clear HS4
        generalize (w20.setRow (w.heap.size) (dvCells (.slice a1 d.pages.length c1) d (.slice a2 d.unread.length c2) (.slice a3 d.faults.length c3)).toArray).heap.size = B3 at *
        obtain ⟨a4, c4, rfl⟩ := own_slice (HS6.out.own 5 rfl)
        have b4 : w21.cell? ⟨(w.heap.size), 4, none⟩ = some (.slice a3 d.faults.length c3) := HS6.out.at 0 rfl 4 rfl
        have f4 : w21.frozen? ⟨(w.heap.size), 4, none⟩ = false := HS6.out.frozen 0 rfl 4
        have HS40 : Hid (Hp w [.ob (w.heap.size) 27 (dvCells (.slice a1 d.pages.length c1) d (.slice a2 d.unread.length c2) (.slice a4 (d.faults.length + 1) c4)), .ob B2 29 (fltCells x), .ob B1 27 (dvCells nilS dvNil nilS nilS), .sl ((.slice a1 d.pages.length c1)) 9 1 (d.pages.length) (strRow d.pages), .sl ((.slice a2 d.unread.length c2)) 3 1 (d.unread.length) (intRow d.unread), .sl ((.slice a4 (d.faults.length + 1) c4)) 29 6 (d.faults.length + 1) ((fltRow d.faults) ++ (([fltCells x] : List (List Value)).flatMap id)), .ob B3 29 (([fltCells x] : List (List Value)).flatMap id)] (w21.setCell ⟨(w.heap.size), 4, none⟩ (.slice a4 (d.faults.length + 1) c4))) := (HS6.out).set 0 rfl 4 (.slice a4 (d.faults.length + 1) c4)
        go_wp2_with (first | ((with_reducible refine wpList_load_ob 27 (.tmp 2) (w.heap.size) (dvCells (.slice a1 d.pages.length c1) d (.slice a2 d.unread.length c2) (.slice a4 (d.faults.length + 1) c4)) 27 HUD.out ?_ ?_ ?_ ?_ ?_); (exact rfl); (exact (HS40.out).get 0 rfl); (exact rfl); (exact info_dv); simp only [Act.put, List.setIfInBounds_toArray, List.set_cons_zero, List.set_cons_succ]) | ((with_reducible refine wpList_store_ob 27 (.tmp 4) B1 (dvCells (.slice a1 d.pages.length c1) d (.slice a2 d.unread.length c2) (.slice a4 (d.faults.length + 1) c4)) (dvCells nilS dvNil nilS nilS) 27 ?_ ?_ ?_ ?_ ?_ ?_ ?_); (exact rfl); (exact rfl); (exact (HS40.out).get 2 rfl); (exact info_dv); (exact rfl); (exact (oneCell_dv _ _ _ _ _ _ _ _ _ _)); skip))
        have HS7 : Hid (Hp w [.ob (w.heap.size) 27 (dvCells (.slice a1 d.pages.length c1) d (.slice a2 d.unread.length c2) (.slice a4 (d.faults.length + 1) c4)), .ob B2 29 (fltCells x), .ob B1 27 (dvCells (.slice a1 d.pages.length c1) d (.slice a2 d.unread.length c2) (.slice a4 (d.faults.length + 1) c4)), .sl ((.slice a1 d.pages.length c1)) 9 1 (d.pages.length) (strRow d.pages), .sl ((.slice a2 d.unread.length c2)) 3 1 (d.unread.length) (intRow d.unread), .sl ((.slice a4 (d.faults.length + 1) c4)) 29 6 (d.faults.length + 1) ((fltRow d.faults) ++ (([fltCells x] : List (List Value)).flatMap id)), .ob B3 29 (([fltCells x] : List (List Value)).flatMap id)] ((w21.setCell ⟨(w.heap.size), 4, none⟩ (.slice a4 (d.faults.length + 1) c4)).setRow B1 (dvCells (.slice a1 d.pages.length c1) d (.slice a2 d.unread.length c2) (.slice a4 (d.faults.length + 1) c4)).toArray)) := (HS40.out).row 2 rfl (dvCells (.slice a1 d.pages.length c1) d (.slice a2 d.unread.length c2) (.slice a4 (d.faults.length + 1) c4))
        clear HS6
        generalize ((w21.setCell ⟨(w.heap.size), 4, none⟩ (.slice a4 (d.faults.length + 1) c4)).setRow B1 (dvCells (.slice a1 d.pages.length c1) d (.slice a2 d.unread.length c2) (.slice a4 (d.faults.length + 1) c4)).toArray) = w22 at *
        refine bodyPost_ret (results_ob_tmp Try.results25 _ _ B1 (dvCells (.slice a1 d.pages.length c1) d (.slice a2 d.unread.length c2) (.slice a4 (d.faults.length + 1) c4)) 27 _ rfl (HS7.out.get 2 rfl) HUD.out rfl info_dv) rfl ?_
        have hfo : _ := HS7.out.own 5 rfl
        obtain ⟨R', hrd, hin, hnew⟩ := own_dv (d := ⟨d.pages, d.writes, d.unread, d.dead, d.faults ++ [x]⟩) (HS7.out.own 3 rfl) (HS7.out.own 4 rfl) (by rw [List.length_append, fltRow_snoc]; exact hfo)
        exact ⟨_, _, _, R', by unfold injectR; rw [if_neg HX.out, if_neg HY.out, if_neg HZ.out]; rfl, by unfold injectR; rw [if_neg HX.out, if_neg HY.out, if_neg HZ.out]; exact hrd, hin, fun r hr => .inl (hnew r hr), HS7.out.old⟩
end Go.Proofs.Ytlmbnofkmmehoaa
/- what the program's Write is made of -/
namespace Go.Proofs.Ytlmbnofkmmehoaa
open Go.RowKit
set_option maxRecDepth 20000
set_option linter.unusedSimpArgs false
set_option linter.unusedVariables false

/-- what Write keeps of a device -/
structure DvInv (n m : Nat) (d : Dv) : Prop where
  num : d.pages.length = n
  all : ∀ s ∈ d.pages, s.size = 256
  asc : d.unread.Pairwise (· < ·)
  few : d.unread.length ≤ m
theorem without_asc {l : List Int} (t : Int) (h : l.Pairwise (· < ·)) : (withoutR l t).Pairwise (· < ·) := h.sublist (List.filter_sublist)
theorem without_le (l : List Int) (t : Int) : (withoutR l t).length ≤ l.length := List.length_filter_le _ _
theorem with_mem {t : Int} : ∀ {l : List Int} {x : Int}, x ∈ withR t l → x = t ∨ x ∈ l
  | [], x, h => .inl (by simpa [withR] using h)
  | y :: l, x, h => by
    have h' : x ∈ (if t ≤ y then t :: withoutR (y :: l) t else y :: withR t l) := h
    split at h'
    · rcases List.mem_cons.1 h' with h1 | h1
      · exact .inl h1
      · exact .inr ((List.mem_filter.1 h1).1)
    · rcases List.mem_cons.1 h' with h1 | h1
      · exact .inr (by rw [h1]; exact List.mem_cons_self ..)
      · rcases with_mem h1 with h2 | h2
        · exact .inl h2
        · exact .inr (List.mem_cons_of_mem _ h2)
theorem with_len (t : Int) : ∀ l : List Int, (withR t l).length ≤ l.length + 1
  | [] => Nat.le_refl _
  | y :: l => by
    show (if t ≤ y then t :: withoutR (y :: l) t else y :: withR t l).length ≤ _
    split
    · have := without_le (y :: l) t
      simp only [List.length_cons] at this ⊢
      omega
    · have := with_len t l
      simp only [List.length_cons]
      omega
theorem with_asc (t : Int) : ∀ {l : List Int}, l.Pairwise (· < ·) → (withR t l).Pairwise (· < ·)
  | [], _ => List.pairwise_singleton _ _
  | y :: l, h => by
    show (if t ≤ y then t :: withoutR (y :: l) t else y :: withR t l).Pairwise _
    split
    · rename_i hty
      rw [List.pairwise_cons]
      refine ⟨fun x hx => ?_, without_asc t h⟩
      have h1 := List.mem_filter.1 hx
      have h2 : x ≠ t := by simpa using h1.2
      rw [List.pairwise_cons] at h
      rcases List.mem_cons.1 h1.1 with h3 | h3
      · omega
      · have := h.1 x h3; omega
    · rename_i hty
      rw [List.pairwise_cons] at h ⊢
      refine ⟨fun x hx => ?_, with_asc t h.2⟩
      rcases with_mem hx with h1 | h1
      · omega
      · exact h.1 x h1
theorem rot_size (y : ByteArray) (j : Nat) (m : Int) : (rotR y j m).size = y.size := by
  show (y.data.modify j _).size = y.data.size
  simp
theorem set_all {l : List ByteArray} {k : Nat} {y : ByteArray} (h : ∀ s ∈ l, s.size = 256) (hy : y.size = 256) : ∀ s ∈ l.set k y, s.size = 256 := fun s hs => by
  rcases List.mem_or_eq_of_mem_set hs with h1 | h1
  · exact h s h1
  · rw [h1]; exact hy
theorem place_inv {n m : Nat} {d : Dv} (h : DvInv n m d) (page : Int) (hp : 0 ≤ page ∧ page < (n : Int)) (s : ByteArray) (hs : s.size = 256) (k : Nat) (hk : k ≤ 256) : DvInv n m (placeR d page s k) := by
  have hpl : page.toNat < d.pages.length := by rw [h.num]; omega
  refine ⟨by unfold placeR; simp only [List.length_set]; exact h.num, set_all h.all ?_, without_asc _ h.asc, Nat.le_trans (without_le _ _) h.few⟩
  have h1 : (d.pages.getD page.toNat ⟨#[]⟩).size = 256 := by rw [List.getD_eq_getElem?_getD, List.getElem?_eq_getElem hpl]; exact h.all _ (List.getElem_mem hpl)
  rw [ByteArray.size_append, ByteArray.size_extract, ByteArray.size_extract, h1, hs]
  omega
theorem happen_inv {n m : Nat} {d : Dv} (h : DvInv n m d) (x : Flt) : DvInv n (m + 1) (happenR d x) := by
  have hw : DvInv n (m + 1) d := ⟨h.num, h.all, h.asc, Nat.le_succ_of_le h.few⟩
  unfold happenR
  split
  · refine ⟨by simp only [List.length_modify]; exact h.num, fun s hs => ?_, hw.asc, hw.few⟩
    obtain ⟨i, hi, rfl⟩ := List.getElem_of_mem hs
    simp only [List.length_modify] at hi
    simp only [List.getElem_modify]
    split
    · rw [rot_size]; exact h.all _ (List.getElem_mem hi)
    · exact h.all _ (List.getElem_mem hi)
  · split
    · exact ⟨h.num, h.all, with_asc _ h.asc, Nat.le_trans (with_len _ _) (Nat.succ_le_succ h.few)⟩
    · split
      · exact ⟨hw.num, hw.all, hw.asc, hw.few⟩
      · exact hw
theorem land_inv {n m : Nat} {d : Dv} (h : DvInv n m d) (page : Int) (hp : 0 ≤ page ∧ page < (n : Int)) (s : ByteArray) (hs : s.size = 256) : ∀ l : List Flt, (∀ x ∈ l, (0 ≤ x.target ∧ x.target < (n : Int)) ∧ (0 ≤ x.byte ∧ x.byte < 256)) → DvInv n m (landR d page s l)
  | [], _ => place_inv h page hp s hs 256 (Nat.le_refl _)
  | x :: l, hl => by
    have hx := hl x (List.mem_cons_self ..)
    unfold landR
    split
    · exact h
    · split
      · exact place_inv h _ hx.1 s hs 256 (Nat.le_refl _)
      · split
        · exact place_inv h page hp s hs _ (by omega)
        · exact land_inv h page hp s hs l (fun y hy => hl y (List.mem_cons_of_mem _ hy))
theorem fold_inv {n : Nat} : ∀ (l : List Flt) {m : Nat} {d : Dv}, DvInv n m d → DvInv n (m + l.length) (l.foldl happenR d)
  | [], _, _, h => h
  | x :: l, m, d, h => by
    have := fold_inv l (happen_inv h x)
    rw [List.length_cons, show m + (l.length + 1) = m + 1 + l.length from by omega]
    exact this
theorem dput_place {d : Dv} (s : ByteArray) (k n : Nat) (hs : s.size = 256) (hn : n ≤ 256) : dputR d k (s.extract 0 n) = placeR d k s n := by
  unfold dputR placeR
  rw [ByteArray.size_extract, hs, Int.toNat_natCast, show min n 256 - 0 = n from by omega]
theorem extract_all (s : ByteArray) (hs : s.size = 256) : s.extract 0 256 = s := by
  have := ByteArray.extract_zero_size (b := s)
  rw [hs] at this
  exact this
/-- carryOut at what fate says -/
theorem carry_any {w0 W : World} {M : List Th} {b : Nat} {p u f : Value} {d : Dv} {n m : Nat} (s : ByteArray) (k : Nat) (l : List Flt) (h : Hp w0 (DvTh b p u f d M) W) (hi : DvInv n m d) (hn : n ≤ 1000) (hm : m ≤ 1000) (hk : k < n) (hs : s.size = 256) (hl : ∀ x ∈ l, (0 ≤ x.target ∧ x.target < (n : Int)) ∧ (0 ≤ x.byte ∧ x.byte < 256)) :
    Calls Try.prog 44 #[.pointer (some ⟨b, 0, none⟩), .int .i64 k, .string s, fateV l] W fun e W' => e = .returned (.tuple #[]) ∧ ∃ u', Hp w0 (DvTh b p u' f (landR d k s l) M) W' := by
  have hnum := hi.num
  have hfew := hi.few
  induction l with
  | nil =>
    have := carry_whole s h k (by omega) hi.all hs (by omega) (by omega)
    have e : landR d k s [] = dputR d k s := by
      show placeR d k s 256 = _
      rw [← dput_place s k 256 hs (Nat.le_refl _), extract_all s hs]
    rw [e]
    exact this
  | cons x l ih =>
    have hx := hl x (List.mem_cons_self ..)
    unfold fateV landR
    by_cases k1 : x.kind = 1
    · rw [if_pos k1, if_pos k1]
      exact carry_lost s k h
    rw [if_neg k1, if_neg k1]
    by_cases k2 : x.kind = 2
    · rw [if_pos k2, if_pos k2]
      obtain ⟨t, ht⟩ := Int.eq_ofNat_of_zero_le hx.1.1
      have := carry_astray s h t (by have := hx.1.2; omega) hi.all hs (by omega) (by omega) (page := (k : Int))
      rw [ht, ← dput_place s t 256 hs (Nat.le_refl _), extract_all s hs]
      exact this
    rw [if_neg k2, if_neg k2]
    by_cases k3 : x.kind = 3
    · rw [if_pos k3, if_pos k3]
      obtain ⟨t, ht⟩ := Int.eq_ofNat_of_zero_le hx.2.1
      have ht2 : t ≤ 256 := by have := hx.2.2; omega
      have := carry_torn s h k (by omega) hi.all hs (by omega) (by omega) t ht2
      rw [ht, Int.toNat_natCast, ← dput_place s k t hs ht2]
      exact this
    rw [if_neg k3, if_neg k3]
    exact ih (fun y hy => hl y (List.mem_cons_of_mem _ hy))
theorem enters_w1 : EntersF 42 := enters_of Try.func42 (by kernel_rfl) rfl
set_option maxHeartbeats 4000000 in
theorem w1_any (x : Flt) (n : Int) (B : Nat) (W : World) (hc : W.cell? ⟨B, 1, none⟩ = some (.int .i64 n)) :
    Calls Try.prog 42 #[.agg (fltCells x).toArray, .pointer (some ⟨B, 0, none⟩)] W fun e w' => e = .returned (.bool (decide (¬ x.at_ = n))) ∧ Below W.heap.size W w' := by
  obtain ⟨kd, at_, pg, tg, by_, ms⟩ := x
  have HB : Hid (Below W.heap.size W (W.alloc (.cells #[.int .i64 kd, .int .i64 at_, .int .i64 pg, .int .i64 tg, .int .i64 by_, .int .u8 ms] 29))) := (Below.refl _ _).alloc (Nat.le_refl _) _
  have hc2 : (W.alloc (.cells #[.int .i64 kd, .int .i64 at_, .int .i64 pg, .int .i64 tg, .int .i64 by_, .int .u8 ms] 29)).cell? ⟨B, 1, none⟩ = some (.int .i64 n) := (HB.out.cell (p := ⟨B, 1, none⟩) (World.block_lt_of_cell? W _ hc)).trans hc
  clear hc
  show Calls Try.prog 42 #[.agg #[.int .i64 kd, .int .i64 at_, .int .i64 pg, .int .i64 tg, .int .i64 by_, .int .u8 ms], .pointer (some ⟨B, 0, none⟩)] W fun e w' => e = .returned (.bool (decide (¬ at_ = n))) ∧ Below W.heap.size W w'
  by_cases h : at_ = n
  · have h1 : (at_ != n) = false := by simp [h]
    have HD : Hid (decide (¬ at_ = n) = false) := by show _ = _; simp [h]
    clear h
    go_enter Try.func42, Try.ntmps42
    go_wp2
    go_ret
    exact ⟨by rw [HD.out]; rfl, HB.out⟩
  · have h1 : (at_ != n) = true := by simp [h]
    have HD : Hid (decide (¬ at_ = n) = true) := by show _ = _; simp [h]
    clear h
    go_enter Try.func42, Try.ntmps42
    go_wp2
    go_ret
    exact ⟨by rw [HD.out]; rfl, HB.out⟩
theorem enters_w2 : EntersF 43 := enters_of Try.func43 (by kernel_rfl) rfl
set_option maxHeartbeats 4000000 in
theorem w2_any (x : Flt) (n : Int) (B : Nat) (W : World) (hc : W.cell? ⟨B, 1, none⟩ = some (.int .i64 n)) :
    Calls Try.prog 43 #[.agg (fltCells x).toArray, .pointer (some ⟨B, 0, none⟩)] W fun e w' => e = .returned (.bool (decide (x.at_ = n))) ∧ Below W.heap.size W w' := by
  obtain ⟨kd, at_, pg, tg, by_, ms⟩ := x
  have HB : Hid (Below W.heap.size W (W.alloc (.cells #[.int .i64 kd, .int .i64 at_, .int .i64 pg, .int .i64 tg, .int .i64 by_, .int .u8 ms] 29))) := (Below.refl _ _).alloc (Nat.le_refl _) _
  have hc2 : (W.alloc (.cells #[.int .i64 kd, .int .i64 at_, .int .i64 pg, .int .i64 tg, .int .i64 by_, .int .u8 ms] 29)).cell? ⟨B, 1, none⟩ = some (.int .i64 n) := (HB.out.cell (p := ⟨B, 1, none⟩) (World.block_lt_of_cell? W _ hc)).trans hc
  clear hc
  show Calls Try.prog 43 #[.agg #[.int .i64 kd, .int .i64 at_, .int .i64 pg, .int .i64 tg, .int .i64 by_, .int .u8 ms], .pointer (some ⟨B, 0, none⟩)] W fun e w' => e = .returned (.bool (decide (at_ = n))) ∧ Below W.heap.size W w'
  by_cases h : at_ = n
  · have h1 : (at_ == n) = true := by simp [h]
    have HD : Hid (decide (at_ = n) = true) := by show _ = _; simp [h]
    clear h
    go_enter Try.func43, Try.ntmps43
    go_wp2
    go_ret
    exact ⟨by rw [HD.out]; rfl, HB.out⟩
  · have h1 : (at_ == n) = false := by simp [h]
    have HD : Hid (decide (at_ = n) = false) := by show _ = _; simp [h]
    clear h
    go_enter Try.func43, Try.ntmps43
    go_wp2
    go_ret
    exact ⟨by rw [HD.out]; rfl, HB.out⟩
end Go.Proofs.Ytlmbnofkmmehoaa
