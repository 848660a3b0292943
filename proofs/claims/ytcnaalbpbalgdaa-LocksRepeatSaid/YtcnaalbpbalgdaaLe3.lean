/- texts of a claim, one after the other: the reference's Mode, Waiting, place and Same, the reference's Cancel, Drop and Release, what reads, its spare cut off, is appended to: the whole is new, the reference's Request -/
import Derived.Test.YtcnaalbpbalgdaaLe2
import Derived.Deep.CutBlock
import Derived.Test.YtcnaalbpbalgdaaLe1
import Derived.ArgAppend
/- the reference's Mode, Waiting, place and Same -/
namespace Go.Proofs.Ytcnaalbpbalgdaa
open Go.RowKit
set_option maxRecDepth 20000
set_option linter.unusedSimpArgs false
set_option linter.unusedVariables false

theorem wfind_first {l : List Gr} {i : Nat} {tx : Int} {x : Gr} (h : ∀ q, q < i → ∀ z, l[q]? = some z → z.tx ≠ tx) (hx : l[i]? = some x) (hk : x.tx = tx) : wfind l tx = some x := by
  have hlt := (List.getElem?_eq_some_iff.1 hx).1
  have e : l = l.take i ++ x :: l.drop (i + 1) := split_at hx
  unfold wfind
  rw [e, List.find?_append, List.find?_cons, decide_eq_true hk]
  have : (l.take i).find? (fun x => decide (x.tx = tx)) = none := by
    rw [List.find?_eq_none]
    intro z hz
    have := mem_take_of (P := fun z => z.tx ≠ tx) h z hz
    simpa using this
  rw [this]; rfl
theorem wfind_last {l : List Gr} {tx : Int} (h : ∀ q, q < l.length → ∀ z, l[q]? = some z → z.tx ≠ tx) : wfind l tx = none := by
  refine wfind_none_of (fun x hx => ?_)
  obtain ⟨q, hq, rfl⟩ := List.getElem_of_mem hx
  exact h q hq _ (List.getElem?_eq_getElem hq)
set_option maxHeartbeats 4000000 in
theorem rWaiting_any {h v : Value} {t : Tb} {R : List Rng} (tx : Int) (w : World) (ht : TbRd h v t R) (hR : RdIn w R) (hg : GoodTb t) :
    Calls Try.prog 25 #[.agg (tbCells h v).toArray, .int .i64 tx] w fun e w' => e = .returned (.tuple #[.agg (grCells (waitR t tx).1).toArray, .bool (waitR t tx).2]) ∧ Below w.heap.size w w' := by
  obtain ⟨a, cap, rfl, hnc, hcm⟩ := ht.1.shape
  obtain ⟨a2, cap2, rfl, hnc2, hcm2⟩ := ht.2.shape
  have HT := Lib.hid ht
  have HR := Lib.hid hR
  have HG := Lib.hid hg
  have HVa : Hid (∀ W, Below w.heap.size w W → Calls Try.prog 13 #[.agg (tbCells (.slice a t.held.length cap) (.slice a2 t.wait.length cap2)).toArray] W fun e w' => e = .returned (.bool (tbOkB t)) ∧ Below W.heap.size W w') := fun W hb => rlkvalid_any W HT.out (HR.out.below hb) HG.out
  have HMo : Hid (∀ W, Below w.heap.size w W → ∀ tx k, GoodLk k → Calls Try.prog 38 #[.agg (tbCells (.slice a t.held.length cap) (.slice a2 t.wait.length cap2)).toArray, .int .i64 tx, .agg (lkCells k).toArray] W fun e w' => e = .returned (.int .i64 (modeR t.held tx k.page k.slot)) ∧ Below W.heap.size W w') := fun W hb tx k hk => rmode_any tx k W HT.out (HR.out.below hb) HG.out hk
  have HNw := Lib.hid hg.few.2
  have HV : Hid (waitR t tx = if tbOkB t = true then ((wfind t.wait tx).getD grNil, (wfind t.wait tx).isSome) else (grNil, false)) := rfl
  clear HMo ht hR hg
  have h1 := ((Hp.start w).put 25 (tbCells (.slice a t.held.length cap) (.slice a2 t.wait.length cap2))).put 29 (grCells grNil)
  simp only [World.size_alloc, List.nil_append, List.cons_append] at h1
  have HS0 : Hid (Hp w [.ob w.heap.size 25 (tbCells (.slice a t.held.length cap) (.slice a2 t.wait.length cap2)), .ob (w.heap.size + 1) 29 (grCells grNil)] ((w.alloc (.cells (tbCells (.slice a t.held.length cap) (.slice a2 t.wait.length cap2)).toArray 25)).alloc (.cells #[.int .i64 0, .int .i64 0, .int .i64 0, .int .i64 0] 29))) := h1
  clear h1
  obtain ⟨fsHUG, huHUG⟩ := under_gr
  have HUG := Lib.hid huHUG
  clear huHUG
  obtain ⟨fsHUK, huHUK⟩ := under_lk
  have HUK := Lib.hid huHUK
  clear huHUK
  obtain ⟨fsHUT, huHUT⟩ := under_tb
  have HUT := Lib.hid huHUT
  clear huHUT
  generalize tbOkB t = ok at *
  go_enter Try.func25, Try.ntmps25
  go_upto_region 1 with (fail)
  generalize ((w.alloc (.cells (tbCells (.slice a t.held.length cap) (.slice a2 t.wait.length cap2)).toArray 25)).alloc (.cells #[.int .i64 0, .int .i64 0, .int .i64 0, .int .i64 0] 29)) = w1 at *
  generalize w.heap.size + 1 = b2 at *
  have b0 : w1.cell? ⟨w.heap.size, 0, none⟩ = some (.slice a t.held.length cap) := (HS0.out).at 0 rfl 0 rfl
  have b1 : w1.cell? ⟨w.heap.size, 1, none⟩ = some (.slice a2 t.wait.length cap2) := (HS0.out).at 0 rfl 1 rfl
  go_wp2_with fail
  refine (HVa.out _ HS0.out.old).mono ?_
  rintro e w2 ⟨rfl, hb⟩
  have HS1 := Lib.hid (HS0.out.calls hb)
  clear b0 b1 HS0 hb
  have hnm : (t.wait.length : Int) ≤ 100000 := by have := HNw.out; omega
  cases ok
  · have HE : Hid (waitR t tx = (grNil, false)) := Lib.hid (by rw [HV.out]; rfl)
    go_wp2_with (first | ((with_reducible refine wpList_build_v (d := some 29) 29 (.agg (grCells grNil).toArray) ?_ ?_); (intro W; simp only [List.map_toArray, List.map_cons, List.map_nil]; exact build_gr0 W); simp only [Act.put, List.setIfInBounds_toArray, List.set_cons_zero, List.set_cons_succ]) | ((with_reducible refine wpList_store_ob 29 (.tmp 4) b2 (grCells grNil) (grCells grNil) 29 ?_ ?_ ?_ ?_ ?_ ?_ ?_); (exact rfl); (exact rfl); (exact (HS1.out).get 1 rfl); (exact info_gr); (exact rfl); (exact (oneCell_gr _)); skip))
    have HS21 : Hid (Hp w [.ob (w.heap.size) 25 (tbCells (.slice a t.held.length cap) (.slice a2 t.wait.length cap2)), .ob b2 29 (grCells grNil)] (w2.setRow b2 (grCells grNil).toArray)) := (HS1.out).row 1 rfl (grCells grNil)
    clear HS1
    generalize (w2.setRow b2 (grCells grNil).toArray) = w21 at *
    refine bodyPost_ret (results_ob_tmp Try.results25 _ _ b2 (grCells grNil) 29 _ rfl ((HS21.out).get 1 rfl) HUG.out rfl info_gr) rfl ?_
    exact ⟨by rw [HE.out]; rfl, (HS21.out).old⟩
  · go_wp2_with fail
    go_loopw [6] (fun iv wr => ∃ i : Nat, i ≤ t.wait.length ∧ iv = .int .i64 i ∧ (∀ q, q < i → ∀ z, t.wait[q]? = some z → z.tx ≠ tx) ∧ Hp w [.ob w.heap.size 25 (tbCells (.slice a t.held.length cap) (.slice a2 t.wait.length cap2)), .ob b2 29 (grCells grNil)] wr) (fun iv _ => t.wait.length - (intOf iv).toNat)
    case atStart => exact ⟨0, by omega, rfl, fun q h => absurd h (by omega), HS1.out⟩
    case round =>
      clear HS1
      obtain ⟨i, hi, rfl, hf, hs⟩ := hrel
      have HY := Lib.hid hs
      have HF := Lib.hid hf
      have b1 : wr.cell? ⟨w.heap.size, 1, none⟩ = some (.slice a2 t.wait.length cap2) := hs.at 0 rfl 1 rfl
      clear hs hf
      by_cases hlt : i < t.wait.length
      · obtain ⟨g1, off1, rfl, hrw⟩ := HT.out.2.base (by omega)
        have HRw := Lib.hid hrw
        obtain ⟨x, hx⟩ : ∃ x, t.wait[i]? = some x := ⟨_, List.getElem?_eq_getElem hlt⟩
        have HXi := Lib.hid hx
        have hii : (i : Int) < (t.wait.length : Int) := by omega
        have hi0 : (0 : Int) ≤ (i : Int) := by omega
        have HLt := Lib.hid hlt
        have c0 : wr.cell? ⟨g1, off1 + i * 4, none⟩ = some (.int .i64 x.tx) := HRw.out wr (HR.out.below HY.out.old) (i * 4 + 0) _ (grRow_at t.wait i x hx 0 _ rfl)
        clear hrw hx hi hlt
        by_cases hk : x.tx = tx
        · obtain ⟨e1, n1⟩ := eq_facts hk
          have HE : Hid (waitR t tx = (x, true)) := Lib.hid (by have hv := HV.out; simp only [if_true] at hv; rw [hv, wfind_first HF.out HXi.out hk]; rfl)
          clear hk HF
          go_wp2_with (first | ((with_reducible refine wpList_load_at 29 (.tmp 27) g1 ((off1 + i * 4)) (grCells x) HUG.out ?_ ?_ ?_ ?_ ?_); (exact rfl); (exact (elem_rng (HRw.out _ (HR.out.below (HY.out).old)) HXi.out)); (exact rfl); (exact info_gr); simp only [Act.put, List.setIfInBounds_toArray, List.set_cons_zero, List.set_cons_succ]) | ((with_reducible refine wpList_store_ob 29 (.tmp 4) b2 (grCells x) (grCells grNil) 29 ?_ ?_ ?_ ?_ ?_ ?_ ?_); (exact rfl); (exact rfl); (exact (HY.out).get 1 rfl); (exact info_gr); (exact rfl); (exact (oneCell_gr _)); skip))
          have HS41 : Hid (Hp w [.ob (w.heap.size) 25 (tbCells (.slice a t.held.length cap) (.slice (some ⟨g1, off1, none⟩) t.wait.length cap2)), .ob b2 29 (grCells x)] (wr.setRow b2 (grCells x).toArray)) := (HY.out).row 1 rfl (grCells x)
          clear HY
          generalize (wr.setRow b2 (grCells x).toArray) = w41 at *
          refine bodyPost_ret (results_ob_tmp Try.results25 _ _ b2 (grCells x) 29 _ rfl ((HS41.out).get 1 rfl) HUG.out rfl info_gr) rfl ?_
          exact ⟨by rw [HE.out]; rfl, (HS41.out).old⟩
        · obtain ⟨e1, n1⟩ := ne_facts hk
          have HK := Lib.hid hk
          clear hk
          go_wp2_with fail
          go_roundw
          case rel =>
            refine ⟨i + 1, HLt.out, by go_num, fun q hq z hz => ?_, HY.out⟩
            rcases Nat.lt_or_ge q i with h3 | h3
            · exact HF.out q h3 z hz
            · obtain rfl : q = i := by omega
              rw [HXi.out] at hz
              rw [← Option.some.inj hz]; exact HK.out
          case measure => simp [intOf]; try (have := HLt.out; omega)
      · obtain rfl : i = t.wait.length := by omega
        have HE : Hid (waitR t tx = (grNil, false)) := Lib.hid (by have hv := HV.out; simp only [if_true] at hv; rw [hv, wfind_last HF.out]; rfl)
        clear hlt hi HF
        go_wp2_with (first | ((with_reducible refine wpList_build_v (d := some 29) 29 (.agg (grCells grNil).toArray) ?_ ?_); (intro W; simp only [List.map_toArray, List.map_cons, List.map_nil]; exact build_gr0 W); simp only [Act.put, List.setIfInBounds_toArray, List.set_cons_zero, List.set_cons_succ]) | ((with_reducible refine wpList_store_ob 29 (.tmp 4) b2 (grCells grNil) (grCells grNil) 29 ?_ ?_ ?_ ?_ ?_ ?_ ?_); (exact rfl); (exact rfl); (exact (HY.out).get 1 rfl); (exact info_gr); (exact rfl); (exact (oneCell_gr _)); skip))
        have HS21 : Hid (Hp w [.ob (w.heap.size) 25 (tbCells (.slice a t.held.length cap) (.slice a2 t.wait.length cap2)), .ob b2 29 (grCells grNil)] (wr.setRow b2 (grCells grNil).toArray)) := (HY.out).row 1 rfl (grCells grNil)
        clear HY
        generalize (wr.setRow b2 (grCells grNil).toArray) = w61 at *
        refine bodyPost_ret (results_ob_tmp Try.results25 _ _ b2 (grCells grNil) 29 _ rfl ((HS21.out).get 1 rfl) HUG.out rfl info_gr) rfl ?_
        exact ⟨by rw [HE.out]; rfl, (HS21.out).old⟩
theorem findIdx_first {l : List Gr} {P : Gr → Bool} {i : Nat} {x : Gr} (h : ∀ q, q < i → ∀ z, l[q]? = some z → P z = false) (hx : l[i]? = some x) (hp : P x = true) : l.findIdx P = i := by
  have hlt := (List.getElem?_eq_some_iff.1 hx).1
  rw [List.findIdx_eq hlt]
  refine ⟨by rw [(List.getElem?_eq_some_iff.1 hx).2]; exact hp, fun q hq => ?_⟩
  exact h q hq _ (List.getElem?_eq_getElem (by omega))
theorem findIdx_none {l : List Gr} {P : Gr → Bool} (h : ∀ q, q < l.length → ∀ z, l[q]? = some z → P z = false) : l.findIdx P = l.length := by
  rw [List.findIdx_eq_length]
  intro x hx
  obtain ⟨q, hq, rfl⟩ := List.getElem_of_mem hx
  exact h q hq _ (List.getElem?_eq_getElem hq)
def wantB (h : List Gr) (g w : Gr) : Bool := decide (w.page = g.page) && (decide (w.slot = g.slot) && decide (modeG h w = 0))
set_option maxHeartbeats 8000000 in
theorem rplace_any {h v : Value} {t : Tb} {R : List Rng} (g : Gr) (w : World) (ht : TbRd h v t R) (hR : RdIn w R) (hg : GoodTb t) (hk : GoodGr g) :
    Calls Try.prog 46 #[.agg (tbCells h v).toArray, .agg (grCells g).toArray] w fun e w' => e = .returned (.int .i64 (wplaceR t.held t.wait g : Nat)) ∧ Below w.heap.size w w' := by
  obtain ⟨a, cap, rfl, hnc, hcm⟩ := ht.1.shape
  obtain ⟨a2, cap2, rfl, hnc2, hcm2⟩ := ht.2.shape
  have HT := Lib.hid ht
  have HR := Lib.hid hR
  have HG := Lib.hid hg
  have HVa : Hid (∀ W, Below w.heap.size w W → Calls Try.prog 13 #[.agg (tbCells (.slice a t.held.length cap) (.slice a2 t.wait.length cap2)).toArray] W fun e w' => e = .returned (.bool (tbOkB t)) ∧ Below W.heap.size W w') := fun W hb => rlkvalid_any W HT.out (HR.out.below hb) HG.out
  have HMo : Hid (∀ W, Below w.heap.size w W → ∀ tx k, GoodLk k → Calls Try.prog 38 #[.agg (tbCells (.slice a t.held.length cap) (.slice a2 t.wait.length cap2)).toArray, .int .i64 tx, .agg (lkCells k).toArray] W fun e w' => e = .returned (.int .i64 (modeR t.held tx k.page k.slot)) ∧ Below W.heap.size W w') := fun W hb tx k hk => rmode_any tx k W HT.out (HR.out.below hb) HG.out hk
  have HNw := Lib.hid hg.few.2
  have HK := Lib.hid hk
  have HV : Hid (wplaceR t.held t.wait g = if modeG t.held g = 0 then t.wait.length else t.wait.findIdx (wantB t.held g)) := rfl
  have HMg : Hid (∀ W, Below w.heap.size w W → Calls Try.prog 38 #[.agg (tbCells (.slice a t.held.length cap) (.slice a2 t.wait.length cap2)).toArray, .int .i64 g.tx, .agg (lkCells g.lock).toArray] W fun e w' => e = .returned (.int .i64 (modeG t.held g)) ∧ Below W.heap.size W w') := fun W hb => HMo.out W hb g.tx g.lock hk.lock
  clear HVa ht hR hg hk
  have h1 := ((Hp.start w).put 25 (tbCells (.slice a t.held.length cap) (.slice a2 t.wait.length cap2))).put 29 (grCells g)
  simp only [World.size_alloc, List.nil_append, List.cons_append] at h1
  have HS0 : Hid (Hp w [.ob w.heap.size 25 (tbCells (.slice a t.held.length cap) (.slice a2 t.wait.length cap2)), .ob (w.heap.size + 1) 29 (grCells g)] ((w.alloc (.cells (tbCells (.slice a t.held.length cap) (.slice a2 t.wait.length cap2)).toArray 25)).alloc (.cells (grCells g).toArray 29))) := h1
  clear h1
  obtain ⟨fsHUG, huHUG⟩ := under_gr
  have HUG := Lib.hid huHUG
  clear huHUG
  obtain ⟨fsHUK, huHUK⟩ := under_lk
  have HUK := Lib.hid huHUK
  clear huHUK
  obtain ⟨fsHUT, huHUT⟩ := under_tb
  have HUT := Lib.hid huHUT
  clear huHUT
  generalize modeG t.held g = mg at *
  obtain ⟨S, hS⟩ : ∃ S, wplaceR t.held t.wait g = S := ⟨_, rfl⟩
  rw [hS] at HV
  rw [hS]
  clear hS
  go_enter Try.func46, Try.ntmps46
  go_upto_region 1 with (fail)
  generalize ((w.alloc (.cells (tbCells (.slice a t.held.length cap) (.slice a2 t.wait.length cap2)).toArray 25)).alloc (.cells (grCells g).toArray 29)) = w1 at *
  generalize w.heap.size + 1 = b2 at *
  have hnm : (t.wait.length : Int) ≤ 100000 := by have := HNw.out; omega
  have b0 : w1.cell? ⟨w.heap.size, 0, none⟩ = some (.slice a t.held.length cap) := (HS0.out).at 0 rfl 0 rfl
  have b1 : w1.cell? ⟨w.heap.size, 1, none⟩ = some (.slice a2 t.wait.length cap2) := (HS0.out).at 0 rfl 1 rfl
  have g0 : w1.cell? ⟨b2, 0, none⟩ = some (.int .i64 g.tx) := HS0.out.at 1 rfl 0 rfl
  have g1 : w1.cell? ⟨b2, 1, none⟩ = some (.int .i64 g.page) := HS0.out.at 1 rfl 1 rfl
  have g2 : w1.cell? ⟨b2, 2, none⟩ = some (.int .i64 g.slot) := HS0.out.at 1 rfl 2 rfl
  go_wp2_with fail
  refine (HMg.out _ HS0.out.old).mono ?_
  rintro e w2 ⟨rfl, hb⟩
  have HS1 := Lib.hid (HS0.out.calls hb)
  clear b0 b1 g0 g1 g2 HS0 hb HMg
  have b1 : w2.cell? ⟨w.heap.size, 1, none⟩ = some (.slice a2 t.wait.length cap2) := HS1.out.at 0 rfl 1 rfl
  by_cases hmg : mg = 0
  · obtain ⟨e1, n1⟩ := eq_facts hmg
    have HE : Hid (S = t.wait.length) := Lib.hid (by rw [HV.out, if_pos hmg])
    clear hmg
    go_wp2_with fail
    go_ret
    exact ⟨by rw [HE.out]; rfl, HS1.out.old⟩
  · obtain ⟨e1, n1⟩ := ne_facts hmg
    have HS2 : Hid (S = t.wait.findIdx (wantB t.held g)) := Lib.hid (by rw [HV.out, if_neg hmg])
    clear hmg
    go_wp2_with fail
    clear b1
    go_loopw [5] (fun iv wr => ∃ i : Nat, i ≤ t.wait.length ∧ iv = .int .i64 i ∧ (∀ q, q < i → ∀ z, t.wait[q]? = some z → wantB t.held g z = false) ∧ Hp w [.ob w.heap.size 25 (tbCells (.slice a t.held.length cap) (.slice a2 t.wait.length cap2)), .ob b2 29 (grCells g)] wr) (fun iv _ => t.wait.length - (intOf iv).toNat)
    case atStart => exact ⟨0, by omega, rfl, fun q h => absurd h (by omega), HS1.out⟩
    case round =>
      clear HS1
      obtain ⟨i, hi, rfl, hf, hs⟩ := hrel
      have HY := Lib.hid hs
      have HF := Lib.hid hf
      have b1 : wr.cell? ⟨w.heap.size, 1, none⟩ = some (.slice a2 t.wait.length cap2) := hs.at 0 rfl 1 rfl
      clear hs hf
      by_cases hlt : i < t.wait.length
      · obtain ⟨g1, off1, rfl, hrw⟩ := HT.out.2.base (by omega)
        have HRw := Lib.hid hrw
        obtain ⟨x, hx⟩ : ∃ x, t.wait[i]? = some x := ⟨_, List.getElem?_eq_getElem hlt⟩
        have HXi := Lib.hid hx
        have HGx := Lib.hid (HG.out.wait x (List.mem_of_getElem? hx))
        have hii : (i : Int) < (t.wait.length : Int) := by omega
        have hi0 : (0 : Int) ≤ (i : Int) := by omega
        have HLt := Lib.hid hlt
        have HMx : Hid (∀ W, Below w.heap.size w W → Calls Try.prog 38 #[.agg (tbCells (.slice a t.held.length cap) (.slice (some ⟨g1, off1, none⟩) t.wait.length cap2)).toArray, .int .i64 x.tx, .agg (lkCells x.lock).toArray] W fun e w' => e = .returned (.int .i64 (modeG t.held x)) ∧ Below W.heap.size W w') := fun W hb => HMo.out W hb x.tx x.lock HGx.out.lock
        have hqe : ∀ W, Sem.run Try.prog (binOp .eql 27 (.agg #[.int .i64 x.page, .int .i64 x.slot]) (.agg #[.int .i64 g.page, .int .i64 g.slot])) W = .ok (.bool (sameV x.lock g.lock)) W := fun W => run_eql (equal_lk x.lock g.lock HGx.out.lock HK.out.lock) W
        have hss : sameV x.lock g.lock = (decide (x.page = g.page) && decide (x.slot = g.slot)) := lock_same x g.lock
        have hwt : wantB t.held g x = ((decide (x.page = g.page) && decide (x.slot = g.slot)) && decide (modeG t.held x = 0)) := by unfold wantB; rw [Bool.and_assoc]
        have hNo : wantB t.held g x = false → ∀ q, q < i + 1 → ∀ z, t.wait[q]? = some z → wantB t.held g z = false := fun h q hq z hz => by
          rcases Nat.lt_or_ge q i with h3 | h3
          · exact HF.out q h3 z hz
          · obtain rfl : q = i := by omega
            rw [HXi.out] at hz
            rw [← Option.some.inj hz]; exact h
        have hYes : wantB t.held g x = true → S = i := fun h => by rw [HS2.out]; exact findIdx_first HF.out HXi.out h
        rw [← hss] at hwt
        have HNo := Lib.hid hNo
        have HYes := Lib.hid hYes
        clear hrw hx hi hlt hss hNo hYes HMo HF
        generalize modeG t.held x = mx at *
        generalize wantB t.held g x = wb at *
        generalize sameV x.lock g.lock = sl at *
        have HWt := Lib.hid hwt
        clear hwt
        go_upto_region 7 with (first | ((with_reducible refine wpList_load_at 29 (.tmp 27) g1 ((off1 + i * 4)) (grCells x) HUG.out ?_ ?_ ?_ ?_ ?_); (exact rfl); (exact (elem_rng (HRw.out _ (HR.out.below (HY.out).old)) HXi.out)); (exact rfl); (exact info_gr); simp only [Act.put, List.setIfInBounds_toArray, List.set_cons_zero, List.set_cons_succ]) | ((with_reducible refine wpList_alloc_ob 29 (grCells grNil) ?_ ?_); (exact alloc_gr); simp only [Act.put, List.setIfInBounds_toArray, List.set_cons_zero, List.set_cons_succ]) | ((with_reducible refine wpList_store_ob 29 (.tmp 6) (wr.heap.size) (grCells x) (grCells grNil) 29 ?_ ?_ ?_ ?_ ?_ ?_ ?_); (exact rfl); (exact rfl); (exact ((HY.out).put 29 (grCells grNil)).get 2 rfl); (exact info_gr); (exact rfl); (exact (oneCell_gr _)); skip))
        have HS41 : Hid (Hp w [.ob (w.heap.size) 25 (tbCells (.slice a t.held.length cap) (.slice (some ⟨g1, off1, none⟩) t.wait.length cap2)), .ob b2 29 (grCells g), .ob (wr.heap.size) 29 (grCells x)] ((wr.alloc (.cells (grCells grNil).toArray 29)).setRow (wr.heap.size) (grCells x).toArray)) := ((HY.out).put 29 (grCells grNil)).row 2 rfl (grCells x)
        clear HY
        generalize ((wr.alloc (.cells (grCells grNil).toArray 29)).setRow (wr.heap.size) (grCells x).toArray) = w41 at *
        generalize wr.heap.size = B1 at *
        clear b1
        have x0 : w41.cell? ⟨B1, 0, none⟩ = some (.int .i64 x.tx) := HS41.out.at 2 rfl 0 rfl
        have x1 : w41.cell? ⟨B1, 1, none⟩ = some (.int .i64 x.page) := HS41.out.at 2 rfl 1 rfl
        have x2 : w41.cell? ⟨B1, 2, none⟩ = some (.int .i64 x.slot) := HS41.out.at 2 rfl 2 rfl
        have y1 : w41.cell? ⟨b2, 1, none⟩ = some (.int .i64 g.page) := HS41.out.at 1 rfl 1 rfl
        have y2 : w41.cell? ⟨b2, 2, none⟩ = some (.int .i64 g.slot) := HS41.out.at 1 rfl 2 rfl
        have b0 : w41.cell? ⟨w.heap.size, 0, none⟩ = some (.slice a t.held.length cap) := HS41.out.at 0 rfl 0 rfl
        have b1 : w41.cell? ⟨w.heap.size, 1, none⟩ = some (.slice (some ⟨g1, off1, none⟩) t.wait.length cap2) := HS41.out.at 0 rfl 1 rfl
        cases sl
        case false =>
          have HN1 := Lib.hid (HNo.out (by rw [HWt.out]; rfl))
          clear HWt HYes HNo
          go_wp2_with fail
          have HY2 := Lib.hid (HS41.out.forget (L := [.ob w.heap.size 25 (tbCells (.slice a t.held.length cap) (.slice (some ⟨g1, off1, none⟩) t.wait.length cap2)), .ob b2 29 (grCells g)]) (M := [.ob B1 29 (grCells x)]))
          go_roundw
          case rel => exact ⟨i + 1, HLt.out, by go_num, HN1.out, HY2.out⟩
          case measure => simp [intOf]; try (have := HLt.out; omega)
        case true =>
          go_wp2_with fail
          refine (HMx.out _ HS41.out.old).mono ?_
          rintro e w9 ⟨rfl, hb⟩
          have HS9 := Lib.hid (HS41.out.calls hb)
          clear x0 x1 x2 y1 y2 b0 b1 HS41 hb
          by_cases hmx : mx = 0
          · obtain ⟨e3, n3⟩ := eq_facts hmx
            have HE := Lib.hid (HYes.out (by rw [HWt.out, decide_eq_true hmx]; rfl))
            clear hmx
            go_wp2_with fail
            go_ret
            exact ⟨by rw [HE.out]; rfl, HS9.out.old⟩
          · obtain ⟨e3, n3⟩ := ne_facts hmx
            have HN1 := Lib.hid (HNo.out (by rw [HWt.out, decide_eq_false hmx]; rfl))
            clear hmx
            go_wp2_with fail
            have HY2 := Lib.hid (HS9.out.forget (L := [.ob w.heap.size 25 (tbCells (.slice a t.held.length cap) (.slice (some ⟨g1, off1, none⟩) t.wait.length cap2)), .ob b2 29 (grCells g)]) (M := [.ob B1 29 (grCells x)]))
            go_roundw
            case rel => exact ⟨i + 1, HLt.out, by go_num, HN1.out, HY2.out⟩
            case measure => simp [intOf]; try (have := HLt.out; omega)
      · obtain rfl : i = t.wait.length := by omega
        have HE : Hid (S = t.wait.length) := Lib.hid (by rw [HS2.out]; exact findIdx_none HF.out)
        clear hlt hi HF
        go_wp2_with fail
        go_ret
        exact ⟨by rw [HE.out]; rfl, HY.out.old⟩
theorem neq_gr {a : Gr} (ha : GoodGr a) (W : World) : Sem.run Try.prog (binOp .neq 29 (.agg (grCells a).toArray) (.agg (grCells a).toArray)) W = .ok (.bool false) W := by
  have := run_neq (equal_gr a a ha ha) W
  rw [sameV_iff.2 rfl] at this
  exact this
set_option maxHeartbeats 8000000 in
theorem rsame_grs {v v' : Value} {l : List Gr} {R R' : List Rng} (w : World) (h : GrRd v l R) (hR : RdIn w R) (h' : GrRd v' l R') (hR' : RdIn w R') (hg : ∀ x ∈ l, GoodGr x) (hf : l.length ≤ 100000) :
    Calls Try.prog 48 #[v, v'] w fun e w' => e = .returned (.bool true) ∧ Below w.heap.size w w' := by
  have HGe := Lib.hid hg
  have HL := Lib.hid hf
  obtain ⟨a, cap, rfl, _, _, HPa⟩ := SlRd.open h hR
  obtain ⟨b, cap2, rfl, _, _, HPb⟩ := SlRd.open h' hR'
  obtain ⟨fsHUG, huHUG⟩ := under_gr
  have HUG := Lib.hid huHUG
  clear huHUG
  clear h hR h' hR' hg hf
  have HQ : Hid (Below w.heap.size w w) := Lib.hid (Below.refl _ _)
  go_enter Try.func48, Try.ntmps48
  go_wp2_with fail
  go_loopw [5] (fun si wr => ∃ i : Nat, i ≤ l.length ∧ si = .int .i64 i ∧ Below w.heap.size w wr) (fun si _ => l.length - (intOf si).toNat)
  case atStart => exact ⟨0, Nat.zero_le _, rfl, HQ.out⟩
  case round =>
    obtain ⟨i, hi, rfl, hs⟩ := hrel
    clear HQ
    have HQ := Lib.hid hs
    clear hs
    have hi0 : (0 : Int) ≤ (i : Int) := by omega
    have him : (i : Int) ≤ 100000 := by have := HL.out; omega
    by_cases hlt : i < l.length
    · have hii : (i : Int) < (l.length : Int) := by omega
      have HLt := Lib.hid hlt
      obtain ⟨g, og, rfl, hr⟩ := HPa.out (by omega)
      obtain ⟨g2, og2, rfl, hr2⟩ := HPb.out (by omega)
      obtain ⟨x, hx⟩ : ∃ x, l[i]? = some x := ⟨_, List.getElem?_eq_getElem hlt⟩
      have hxx := neq_gr (HGe.out x (List.mem_of_getElem? hx))
      simp only [grCells] at hxx
      have c0 : wr.cell? ⟨g, og + i * 4, none⟩ = some (.int .i64 x.tx) := hr wr HQ.out (i * 4 + 0) _ (grRow_at l i x hx 0 _ rfl)
      have c1 : wr.cell? ⟨g, og + i * 4 + 1, none⟩ = some (.int .i64 x.page) := hr wr HQ.out (i * 4 + 1) _ (grRow_at l i x hx 1 _ rfl)
      have c2 : wr.cell? ⟨g, og + i * 4 + 2, none⟩ = some (.int .i64 x.slot) := hr wr HQ.out (i * 4 + 2) _ (grRow_at l i x hx 2 _ rfl)
      have c3 : wr.cell? ⟨g, og + i * 4 + 3, none⟩ = some (.int .i64 x.mode) := hr wr HQ.out (i * 4 + 3) _ (grRow_at l i x hx 3 _ rfl)
      have d0 : wr.cell? ⟨g2, og2 + i * 4, none⟩ = some (.int .i64 x.tx) := hr2 wr HQ.out (i * 4 + 0) _ (grRow_at l i x hx 0 _ rfl)
      have d1 : wr.cell? ⟨g2, og2 + i * 4 + 1, none⟩ = some (.int .i64 x.page) := hr2 wr HQ.out (i * 4 + 1) _ (grRow_at l i x hx 1 _ rfl)
      have d2 : wr.cell? ⟨g2, og2 + i * 4 + 2, none⟩ = some (.int .i64 x.slot) := hr2 wr HQ.out (i * 4 + 2) _ (grRow_at l i x hx 2 _ rfl)
      have d3 : wr.cell? ⟨g2, og2 + i * 4 + 3, none⟩ = some (.int .i64 x.mode) := hr2 wr HQ.out (i * 4 + 3) _ (grRow_at l i x hx 3 _ rfl)
      clear hr hr2 hx hi hlt
      go_wp2_with fail
      go_quiet (fail)
      have HQ2 : Hid (Below w.heap.size w (wr.drewN nq)) := Lib.hid ⟨HQ.out.os, HQ.out.tape, HQ.out.output, HQ.out.size, HQ.out.block⟩
      clear HQ c0 c1 c2 c3 d0 d1 d2 d3
      generalize wr.drewN nq = w2 at *
      go_wp2_with fail
      go_roundw
      case rel => exact ⟨i + 1, HLt.out, by go_num, HQ2.out⟩
      case measure => simp [intOf]; try (have := HLt.out; omega)
    · have hii : ¬ (i : Int) < (l.length : Int) := by omega
      clear hlt hi
      go_wp2_with fail
      go_ret
      exact ⟨rfl, HQ.out⟩
set_option maxHeartbeats 8000000 in
theorem rSame_tb {h v h' v' : Value} {t : Tb} {R R' : List Rng} (w : World) (ht : TbRd h v t R) (hR : RdIn w R) (ht' : TbRd h' v' t R') (hR' : RdIn w R') (hg : GoodTb t) :
    Calls Try.prog 19 #[.agg (tbCells h v).toArray, .agg (tbCells h' v').toArray] w fun e w' => e = .returned (.bool true) ∧ Below w.heap.size w w' := by
  have HS1 : Hid (∀ W, Below w.heap.size w W → Calls Try.prog 48 #[h, h'] W fun e w' => e = .returned (.bool true) ∧ Below W.heap.size W w') := fun W hb => rsame_grs W ht.1 (hR.below hb) ht'.1 (hR'.below hb) hg.held hg.few.1
  have HS2 : Hid (∀ W, Below w.heap.size w W → Calls Try.prog 48 #[v, v'] W fun e w' => e = .returned (.bool true) ∧ Below W.heap.size W w') := fun W hb => rsame_grs W ht.2 (hR.below hb) ht'.2 (hR'.below hb) hg.wait hg.few.2
  obtain ⟨a, cap, rfl, _, _⟩ := ht.1.shape
  obtain ⟨a2, cap2, rfl, _, _⟩ := ht.2.shape
  obtain ⟨b, dap, rfl, _, _⟩ := ht'.1.shape
  obtain ⟨c2, dap2, rfl, _, _⟩ := ht'.2.shape
  have h1 := ((Hp.start w).put 25 (tbCells (.slice a t.held.length cap) (.slice a2 t.wait.length cap2))).put 25 (tbCells (.slice b t.held.length dap) (.slice c2 t.wait.length dap2))
  simp only [World.size_alloc, List.nil_append, List.cons_append] at h1
  have HS0 : Hid (Hp w [.ob w.heap.size 25 (tbCells (.slice a t.held.length cap) (.slice a2 t.wait.length cap2)), .ob (w.heap.size + 1) 25 (tbCells (.slice b t.held.length dap) (.slice c2 t.wait.length dap2))] ((w.alloc (.cells (tbCells (.slice a t.held.length cap) (.slice a2 t.wait.length cap2)).toArray 25)).alloc (.cells (tbCells (.slice b t.held.length dap) (.slice c2 t.wait.length dap2)).toArray 25))) := h1
  clear h1 ht hR ht' hR' hg
  go_enter Try.func19, Try.ntmps19
  go_upto_region 1 with (fail)
  generalize ((w.alloc (.cells (tbCells (.slice a t.held.length cap) (.slice a2 t.wait.length cap2)).toArray 25)).alloc (.cells (tbCells (.slice b t.held.length dap) (.slice c2 t.wait.length dap2)).toArray 25)) = w1 at *
  generalize w.heap.size + 1 = b2 at *
  have a0 := HS0.out.at 0 rfl 0 rfl
  have a1 := HS0.out.at 0 rfl 1 rfl
  have d0 := HS0.out.at 1 rfl 0 rfl
  have d1 := HS0.out.at 1 rfl 1 rfl
  go_wp2_with fail
  refine (HS1.out _ HS0.out.old).mono ?_
  rintro e w4 ⟨rfl, hb⟩
  have HS3 := Lib.hid (HS0.out.calls hb)
  clear hb a0 a1 d0 d1 HS0
  have a0 := HS3.out.at 0 rfl 0 rfl
  have a1 := HS3.out.at 0 rfl 1 rfl
  have d0 := HS3.out.at 1 rfl 0 rfl
  have d1 := HS3.out.at 1 rfl 1 rfl
  go_wp2_with fail
  refine (HS2.out _ HS3.out.old).mono ?_
  rintro e w5 ⟨rfl, hb⟩
  have HS4 := Lib.hid (HS3.out.calls hb)
  clear hb a0 a1 d0 d1 HS3
  go_wp2_with fail
  go_ret
  exact ⟨rfl, HS4.out.old⟩
end Go.Proofs.Ytcnaalbpbalgdaa
/- the reference's Cancel, Drop and Release -/
namespace Go.Proofs.Ytcnaalbpbalgdaa
open Go.RowKit
open Go.Act renaming put → z0
open List renaming setIfInBounds_toArray → z1, set_cons_zero → z2, set_cons_succ → z3
set_option maxRecDepth 20000
set_option linter.unusedSimpArgs false
set_option linter.unusedVariables false

theorem build_tb2 (a b : Option Addr) (n c m d : Nat) (W : World) : Sem.run Try.prog (Instr.build 25 #[(0, .slice a n c), (1, .slice b m d)]) W = .ok (.agg (tbCells (.slice a n c) (.slice b m d)).toArray) W := by kernel_rfl
abbrev qRfLk8_0 : Oper := { dst := some 9, op := Op.fieldAddr 25 (Operand.tmp 2) 0, type := 0, pos := "ref.go:189", after := #[], guard := none }
abbrev qRfLk8_1 : Oper := { dst := some 10, op := Op.load 23 (Operand.tmp 9), type := 23, pos := "ref.go:189", after := #[{ on := 0, ground := Ground.data }], guard := none }
abbrev qRfLk8_2 : Oper := { dst := some 11, op := Op.fieldAddr 25 (Operand.tmp 2) 1, type := 0, pos := "ref.go:189", after := #[], guard := none }
abbrev qRfLk8_3 : Oper := { dst := some 12, op := Op.load 23 (Operand.tmp 11), type := 23, pos := "ref.go:189", after := #[{ on := 2, ground := Ground.data }], guard := none }
abbrev qRfLk8_4 : Oper := { dst := some 13, op := Op.move (Operand.tmp 1), type := 3, pos := "ref.go:189", after := #[], guard := none }
abbrev qRfLk8_5 : Oper := { dst := some 14, op := Op.build 27 #[], type := 27, pos := "ref.go:189", after := #[], guard := none }
abbrev qRfLk8_6 : Oper := { dst := some 15, op := Op.call { callee := Callee.value (Operand.func 51), args := #[Operand.tmp 12, Operand.tmp 13, Operand.const (Value.bool false), Operand.tmp 14], argTypes := #[23, 3, 4, 27] }, type := 23, pos := "ref.go:189", after := #[{ on := 3, ground := Ground.data }, { on := 4, ground := Ground.data }, { on := 5, ground := Ground.data }], guard := none }
abbrev qRfLk8_7 : Oper := { dst := some 16, op := Op.build 25 #[(0, Operand.tmp 10), (1, Operand.tmp 15)], type := 25, pos := "ref.go:189", after := #[{ on := 1, ground := Ground.data }, { on := 6, ground := Ground.data }], guard := none }
abbrev qRfLk8_8 : Oper := { dst := some 17, op := Op.call { callee := Callee.value (Operand.func 47), args := #[Operand.tmp 16], argTypes := #[25] }, type := 25, pos := "ref.go:189", after := #[{ on := 7, ground := Ground.data }, { on := 6, ground := Ground.chain }], guard := none }
abbrev qRfLk8_9 : Oper := { dst := none, op := Op.store 25 (Operand.tmp 4) (Operand.tmp 17), type := 0, pos := "ref.go:189", after := #[{ on := 8, ground := Ground.data }, { on := 8, ground := Ground.chain }, { on := 0, ground := Ground.phase }, { on := 1, ground := Ground.phase }, { on := 2, ground := Ground.phase }, { on := 3, ground := Ground.phase }, { on := 4, ground := Ground.phase }, { on := 5, ground := Ground.phase }, { on := 6, ground := Ground.phase }, { on := 7, ground := Ground.phase }, { on := 8, ground := Ground.phase }], guard := none }
abbrev qRfLk8_10 : Oper := { dst := some 9, op := Op.fieldAddr 25 (Operand.tmp 2) 0, type := 0, pos := "ref.go:205", after := #[], guard := none }
abbrev qRfLk8_11 : Oper := { dst := some 10, op := Op.load 23 (Operand.tmp 9), type := 23, pos := "ref.go:205", after := #[{ on := 0, ground := Ground.data }], guard := none }
abbrev qRfLk8_12 : Oper := { dst := some 11, op := Op.move (Operand.tmp 1), type := 3, pos := "ref.go:205", after := #[], guard := none }
abbrev qRfLk8_13 : Oper := { dst := some 12, op := Op.build 27 #[], type := 27, pos := "ref.go:205", after := #[], guard := none }
abbrev qRfLk8_14 : Oper := { dst := some 14, op := Op.fieldAddr 25 (Operand.tmp 2) 1, type := 0, pos := "ref.go:205", after := #[], guard := none }
abbrev qRfLk8_15 : Oper := { dst := some 15, op := Op.load 23 (Operand.tmp 14), type := 23, pos := "ref.go:205", after := #[{ on := 5, ground := Ground.data }], guard := none }
abbrev qRfLk8_16 : Oper := { dst := some 16, op := Op.move (Operand.tmp 1), type := 3, pos := "ref.go:205", after := #[], guard := none }
abbrev qRfLk8_17 : Oper := { dst := some 17, op := Op.build 27 #[], type := 27, pos := "ref.go:205", after := #[], guard := none }
abbrev qRfLk8_18 : Oper := { dst := some 13, op := Op.call { callee := Callee.value (Operand.func 51), args := #[Operand.tmp 10, Operand.tmp 11, Operand.const (Value.bool false), Operand.tmp 12], argTypes := #[23, 3, 4, 27] }, type := 23, pos := "ref.go:205", after := #[{ on := 1, ground := Ground.data }, { on := 2, ground := Ground.data }, { on := 3, ground := Ground.data }], guard := none }
abbrev qRfLk8_19 : Oper := { dst := some 18, op := Op.call { callee := Callee.value (Operand.func 51), args := #[Operand.tmp 15, Operand.tmp 16, Operand.const (Value.bool false), Operand.tmp 17], argTypes := #[23, 3, 4, 27] }, type := 23, pos := "ref.go:205", after := #[{ on := 6, ground := Ground.data }, { on := 7, ground := Ground.data }, { on := 8, ground := Ground.data }, { on := 4, ground := Ground.chain }], guard := none }
abbrev qRfLk8_20 : Oper := { dst := some 19, op := Op.build 25 #[(0, Operand.tmp 13), (1, Operand.tmp 18)], type := 25, pos := "ref.go:205", after := #[{ on := 4, ground := Ground.data }, { on := 9, ground := Ground.data }], guard := none }
abbrev qRfLk8_21 : Oper := { dst := some 20, op := Op.call { callee := Callee.value (Operand.func 47), args := #[Operand.tmp 19], argTypes := #[25] }, type := 25, pos := "ref.go:205", after := #[{ on := 10, ground := Ground.data }, { on := 9, ground := Ground.chain }], guard := none }
abbrev qRfLk8_22 : Oper := { dst := none, op := Op.store 25 (Operand.tmp 4) (Operand.tmp 20), type := 0, pos := "ref.go:205", after := #[{ on := 11, ground := Ground.data }, { on := 11, ground := Ground.chain }, { on := 0, ground := Ground.phase }, { on := 1, ground := Ground.phase }, { on := 2, ground := Ground.phase }, { on := 3, ground := Ground.phase }, { on := 4, ground := Ground.phase }, { on := 5, ground := Ground.phase }, { on := 6, ground := Ground.phase }, { on := 7, ground := Ground.phase }, { on := 8, ground := Ground.phase }, { on := 9, ground := Ground.phase }, { on := 10, ground := Ground.phase }, { on := 11, ground := Ground.phase }], guard := none }
set_option maxHeartbeats 8000000 in
theorem rcancel_any {h v : Value} {t : Tb} {R : List Rng} (tx : Int) (w : World) (ht : TbRd h v t R) (hR : RdIn w R) (hg : GoodTb t) :
  Calls Try.prog 27 #[.agg (tbCells h v).toArray, .int .i64 tx] w (TbPost w R (cancelR t tx)) := by
 obtain ⟨a, cap, rfl, hnc, hcm⟩ := ht.1.shape
 obtain ⟨a2, cap2, rfl, hnc2, hcm2⟩ := ht.2.shape
 have HT := Lib.hid ht
 have HR := Lib.hid hR
 have HVa : Hid (∀ W, Below w.heap.size w W → Calls Try.prog 13 #[.agg (tbCells (.slice a t.held.length cap) (.slice a2 t.wait.length cap2)).toArray] W fun e w' => e = .returned (.bool (tbOkB t)) ∧ Below W.heap.size W w') := fun W hb => rlkvalid_any W ht (hR.below hb) hg
 have HLw : Hid (∀ W, Below w.heap.size w W → Calls Try.prog 51 #[.slice a2 t.wait.length cap2, .int .i64 tx, .bool false, .agg (lkCells lkNil).toArray] W (GrPost W (leftTx t.wait tx))) := fun W hb => by rw [← left_all t.wait tx 0 0]; exact rleft_any tx false lkNil W ht.2 (hR.below hb) hg.wait hg.few.2 ⟨by decide, by decide⟩
 have HV : Hid (cancelR t tx = if tbOkB t = true then settleR ⟨t.held, leftTx t.wait tx⟩ else t) := rfl
 have HSe : Hid (tbOkB t = true → ∀ W {h v : Value} {Q : List Rng}, TbRd h v ⟨t.held, leftTx t.wait tx⟩ Q → RdIn W Q → Calls Try.prog 47 #[.agg (tbCells h v).toArray] W (TbPost W Q (settleR ⟨t.held, leftTx t.wait tx⟩))) := fun hk W h v Q h1 h2 => rsettle_any W h1 h2 (cancel_in (tbOkB_iff.1 hk) tx) (by have h1 := (tbOkB_iff.1 hk).few; have h2 := leftTx_len t.wait tx; show t.held.length + (leftTx t.wait tx).length ≤ 2000; omega)
 clear ht hR hg
 have h1 := ((((Hp.startrd w R HR.out).put 25 (tbCells (.slice a t.held.length cap) (.slice a2 t.wait.length cap2)))).put 25 (tbCells (.slice none 0 0) (.slice none 0 0)))
 simp only [World.size_alloc, List.nil_append, List.cons_append] at h1
 have h2 := h1.pull [1, 2, 0] (M := [.ob w.heap.size 25 (tbCells (.slice a t.held.length cap) (.slice a2 t.wait.length cap2)), .ob (w.heap.size + 1) 25 (tbCells (.slice none 0 0) (.slice none 0 0)), .rd R]) rfl (pull_nd h1.nd [1, 2, 0] rfl (by decide))
 have HS0 : Hid (Hp w [.ob w.heap.size 25 (tbCells (.slice a t.held.length cap) (.slice a2 t.wait.length cap2)), .ob (w.heap.size + 1) 25 (tbCells (.slice none 0 0) (.slice none 0 0)), .rd R] ((w.alloc (.cells (tbCells (.slice a t.held.length cap) (.slice a2 t.wait.length cap2)).toArray 25)).alloc (.cells #[.slice none 0 0, .slice none 0 0] 25))) := h2
 clear h1 h2
 obtain ⟨fsHUG, huHUG⟩ := under_gr
 have HUG := Lib.hid huHUG
 clear huHUG
 obtain ⟨fsHUK, huHUK⟩ := under_lk
 have HUK := Lib.hid huHUK
 clear huHUK
 obtain ⟨fsHUT, huHUT⟩ := under_tb
 have HUT := Lib.hid huHUT
 clear huHUT
 generalize tbOkB t = ok at *
 go_enter Try.func27, Try.ntmps27
 go_upto_region 1 with (fail)
 generalize ((w.alloc (.cells (tbCells (.slice a t.held.length cap) (.slice a2 t.wait.length cap2)).toArray 25)).alloc (.cells #[.slice none 0 0, .slice none 0 0] 25)) = w1 at *
 generalize (w.heap.size + 1) = b2 at *
 have b0 : w1.cell? ⟨w.heap.size, 0, none⟩ = some (.slice a t.held.length cap) := HS0.out.at 0 rfl 0 rfl
 have b1 : w1.cell? ⟨w.heap.size, 1, none⟩ = some (.slice a2 t.wait.length cap2) := HS0.out.at 0 rfl 1 rfl
 go_wp2_with fail
 refine (HVa.out _ HS0.out.old).mono ?_
 rintro e w2 ⟨rfl, hb⟩
 have HS1 := Lib.hid (HS0.out.calls hb)
 clear b0 b1 HS0 hb HVa
 cases ok
 ·have HE : Hid (cancelR t tx = t) := Lib.hid (by rw [HV.out]; rfl)
  go_wp2_with (first | ((with_reducible refine wpList_load_ob 25 (.tmp 2) (w.heap.size) (tbCells (.slice a t.held.length cap) (.slice a2 t.wait.length cap2)) 25 HUT.out ?_ ?_ ?_ ?_ ?_); (exact rfl); (exact (HS1.out).get 0 rfl); (exact rfl); (exact info_tb); simp only [Act.put, List.setIfInBounds_toArray, List.set_cons_zero, List.set_cons_succ]) | ((with_reducible refine wpList_store_ob 25 (.tmp 4) b2 (tbCells (.slice a t.held.length cap) (.slice a2 t.wait.length cap2)) (tbCells (.slice none 0 0) (.slice none 0 0)) 25 ?_ ?_ ?_ ?_ ?_ ?_ ?_); (exact rfl); (exact rfl); (exact (HS1.out).get 1 rfl); (exact info_tb); (exact rfl); (exact (oneCell_tb _ _ _ _ _ _)); skip))
  have HS41 : Hid (Hp w [.ob (w.heap.size) 25 (tbCells (.slice a t.held.length cap) (.slice a2 t.wait.length cap2)), .ob b2 25 (tbCells (.slice a t.held.length cap) (.slice a2 t.wait.length cap2)), .rd R] (w2.setRow b2 (tbCells (.slice a t.held.length cap) (.slice a2 t.wait.length cap2)).toArray)) := (HS1.out).row 1 rfl (tbCells (.slice a t.held.length cap) (.slice a2 t.wait.length cap2))
  clear HS1
  generalize (w2.setRow b2 (tbCells (.slice a t.held.length cap) (.slice a2 t.wait.length cap2)).toArray) = w41 at *
  refine bodyPost_ret (results_ob Try.results27 _ _ b2 (tbCells (.slice a t.held.length cap) (.slice a2 t.wait.length cap2)) 25 _ rfl ((HS41.out).get 1 rfl) HUT.out rfl info_tb) rfl ?_
  rw [HE.out]
  exact ⟨_, _, R, rfl, HT.out, (HS41.out).reads 2 rfl, fun r hr => .inr (List.mem_map.2 ⟨r, hr, rfl⟩), (HS41.out).old⟩
 ·have HE : Hid (cancelR t tx = settleR ⟨t.held, leftTx t.wait tx⟩) := Lib.hid (by rw [HV.out]; first | rfl | simp)
  have HSt := Lib.hid (HSe.out (by first | trivial | rfl))
  clear HSe HV
  go_wp2_with fail
  refine wp_region_held_drew (S := fun w' => w'.rangeAt w.heap.size 0 (tbCells (.slice a t.held.length cap) (.slice a2 t.wait.length cap2))) (by kernel_rfl) ((fun j v hv => by rw [Nat.zero_add]; exact ((HS1.out).drew).at 0 rfl j hv)) (fun hHeld => ?_)
  refine tk 0 qRfLk8_0 (some 9) (v := ?q101v) (Or.inl ⟨by rfl, ?q101h⟩) hHeld ?q101r
  case q101h => (intro wq hSw; clear hSw; go_simp; try with_reducible rfl)
  try simp only [z0, z1, z2, z3]
  refine tk 1 qRfLk8_1 (some 10) (v := .slice a t.held.length cap) (Or.inl ⟨by rfl, ?q102h⟩) hHeld ?q102r
  case q102h => (intro wq hSw; have lq := (hSw) 0 (.slice a t.held.length cap) rfl; simp only [Nat.zero_add] at lq; clear hSw; go_simp; try with_reducible rfl)
  try simp only [z0, z1, z2, z3]
  refine tk 2 qRfLk8_2 (some 11) (v := ?q103v) (Or.inl ⟨by rfl, ?q103h⟩) hHeld ?q103r
  case q103h => (intro wq hSw; clear hSw; go_simp; try with_reducible rfl)
  try simp only [z0, z1, z2, z3]
  refine tk 3 qRfLk8_3 (some 12) (v := .slice a2 t.wait.length cap2) (Or.inl ⟨by rfl, ?q104h⟩) hHeld ?q104r
  case q104h => (intro wq hSw; have lq := (hSw) 1 (.slice a2 t.wait.length cap2) rfl; simp only [Nat.zero_add] at lq; clear hSw; go_simp; try with_reducible rfl)
  try simp only [z0, z1, z2, z3]
  refine tk 4 qRfLk8_4 (some 13) (v := ?q105v) (Or.inl ⟨by rfl, ?q105h⟩) hHeld ?q105r
  case q105h => (intro wq hSw; clear hSw; go_simp; try with_reducible rfl)
  try simp only [z0, z1, z2, z3]
  refine tk 5 qRfLk8_5 (some 14) (yieldsIf_build_v (by rfl) 27 (.agg (lkCells lkNil).toArray) rfl (fun W => by simp only [List.map_toArray, List.map_cons, List.map_nil]; exact build_lk0 W)) hHeld ?_
  try simp only [z0, z1, z2, z3]
  refine tn 6 qRfLk8_6 (fun K hK => ?_)
  go_simp
  go_wp2_with (go_at_call 51; refine (HLw.out _ ((HS1.out).drew).old).mono ?_; rintro e w61 ⟨vh, R2, rfl, hrd2, hin2, hnew2, hb⟩)
  have hnew3 : ∀ r ∈ R2, w.heap.size ≤ r.1 := fun r hr => Nat.le_trans ((HS1.out).drew).old.size (hnew2 r hr)
  obtain ⟨a3, c3, rfl, hc3, hm3⟩ := hrd2.shape
  have H2 := Lib.hid hrd2
  have N2 := Lib.hid hnew3
  have HS61 : Hid (Hp w [.ob (w.heap.size) 25 (tbCells (.slice a t.held.length cap) (.slice a2 t.wait.length cap2)), .ob b2 25 (tbCells (.slice none 0 0) (.slice none 0 0)), .rd R, .rd R2] w61) := ((HS1.out).drew).addrd hb R2 hin2 (fun r hr => .inl (hnew2 r hr))
  refine hK.out _ _ ((fun j v hv => by rw [Nat.zero_add]; exact (HS61.out).at 0 rfl j hv)) (fun hHeld => ?_)
  clear hK K hb hin2 hrd2 hnew2 hnew3
  try simp only [z0, z1, z2, z3]
  refine tk 7 qRfLk8_7 (some 16) (yieldsIf_build_v (by rfl) 25 (.agg (tbCells (.slice a t.held.length cap) (.slice a3 (leftTx t.wait tx).length c3)).toArray) rfl (fun W => by simp only [List.map_toArray, List.map_cons, List.map_nil]; exact build_tb2 _ _ _ _ _ _ W)) hHeld ?_
  try simp only [z0, z1, z2, z3]
  refine tn 8 qRfLk8_8 (fun K hK => ?_)
  go_simp
  go_wp2_with (go_at_call 47; refine (HSt.out _ (Q := R ++ R2) ⟨SlRd.mono HT.out.1 (fun r hr => by simp [hr]), SlRd.mono H2.out (fun r hr => by simp [hr])⟩ (RdIn.append ((HS61.out).reads 2 rfl) ((HS61.out).reads 3 rfl))).mono ?_; rintro e w62 ⟨h9, v9, R9, rfl, hrd2, hin2, hnew2, hb⟩)
  have hnew3 : ∀ r ∈ R9, w.heap.size ≤ r.1 ∨ r.1 ∈ R.map (·.1) := fun r hr => by
   rcases hnew2 r hr with h | h
   ·exact .inl (Nat.le_trans (HS61.out).old.size h)
   ·obtain ⟨q, hq, hqe⟩ := List.mem_map.1 h
    rw [← hqe]
    rcases List.mem_append.1 hq with hq | hq
    ·exact .inr (List.mem_map.2 ⟨q, hq, rfl⟩)
    ·exact .inl (N2.out q hq)
  obtain ⟨a9, c9, rfl, _, _⟩ := hrd2.1.shape
  obtain ⟨d9, e9, rfl, _, _⟩ := hrd2.2.shape
  have H9 := Lib.hid hrd2
  have N9 := Lib.hid hnew3
  have HS62 : Hid (Hp w [.ob (w.heap.size) 25 (tbCells (.slice a t.held.length cap) (.slice a2 t.wait.length cap2)), .ob b2 25 (tbCells (.slice none 0 0) (.slice none 0 0)), .rd R, .rd R2, .rd R9] w62) := (HS61.out).addrd hb R9 hin2 (fun r hr => (hnew2 r hr).elim .inl (fun h => .inr (by obtain ⟨q, hq, hqe⟩ := List.mem_map.1 h; rcases List.mem_append.1 hq with hq | hq; exact ⟨.rd R, List.mem_of_getElem? (i := 2) rfl, List.mem_map.2 ⟨q, hq, hqe⟩⟩; exact ⟨.rd R2, List.mem_of_getElem? (i := 3) rfl, List.mem_map.2 ⟨q, hq, hqe⟩⟩)))
  refine hK.out _ _ ((fun j v hv => by rw [Nat.zero_add]; exact (HS62.out).at 0 rfl j hv)) (fun hHeld => ?_)
  clear hK K hb hin2 hrd2 hnew2 hnew3
  try simp only [z0, z1, z2, z3]
  refine tn 9 qRfLk8_9 (fun K hK => ?_)
  rw [if_pos (by rfl)]
  refine wp_store_ob 25 (.tmp 4) (.tmp 17) b2 (tbCells (.slice a9 (settleR ⟨t.held, leftTx t.wait tx⟩).held.length c9) (.slice d9 (settleR ⟨t.held, leftTx t.wait tx⟩).wait.length e9)) (tbCells (.slice none 0 0) (.slice none 0 0)) 25 rfl rfl rfl rfl ((HS62.out).get 1 rfl) (info_tb) (rfl) ((oneCell_tb _ _ _ _ _ _)) ?_
  have HS63 : Hid (Hp w [.ob (w.heap.size) 25 (tbCells (.slice a t.held.length cap) (.slice a2 t.wait.length cap2)), .ob b2 25 (tbCells (.slice a9 (settleR ⟨t.held, leftTx t.wait tx⟩).held.length c9) (.slice d9 (settleR ⟨t.held, leftTx t.wait tx⟩).wait.length e9)), .rd R, .rd R2, .rd R9] (w62.setRow b2 (tbCells (.slice a9 (settleR ⟨t.held, leftTx t.wait tx⟩).held.length c9) (.slice d9 (settleR ⟨t.held, leftTx t.wait tx⟩).wait.length e9)).toArray)) := (HS62.out).row 1 rfl (tbCells (.slice a9 (settleR ⟨t.held, leftTx t.wait tx⟩).held.length c9) (.slice d9 (settleR ⟨t.held, leftTx t.wait tx⟩).wait.length e9))
  refine hK.out _ _ ((fun j v hv => by rw [Nat.zero_add]; exact (HS63.out).at 0 rfl j hv)) (fun hHeld => ?_)
  clear hK K
  generalize (w62.setRow b2 (tbCells (.slice a9 (settleR ⟨t.held, leftTx t.wait tx⟩).held.length c9) (.slice d9 (settleR ⟨t.held, leftTx t.wait tx⟩).wait.length e9)).toArray) = w63 at *
  try simp only [z0, z1, z2, z3]
  refine wpAnyH_done (by kernel_rfl) ?_ _
  clear hHeld
  go_wp2_with fail
  refine bodyPost_ret (results_ob Try.results27 _ _ b2 (tbCells (.slice a9 (settleR ⟨t.held, leftTx t.wait tx⟩).held.length c9) (.slice d9 (settleR ⟨t.held, leftTx t.wait tx⟩).wait.length e9)) 25 _ rfl ((HS63.out).get 1 rfl) HUT.out rfl info_tb) rfl ?_
  rw [HE.out]
  exact ⟨_, _, R9, rfl, H9.out, (HS63.out).reads 4 rfl, N9.out, (HS63.out).old⟩
set_option maxHeartbeats 8000000 in
theorem rrelease_any {h v : Value} {t : Tb} {R : List Rng} (tx : Int) (w : World) (ht : TbRd h v t R) (hR : RdIn w R) (hg : GoodTb t) :
  Calls Try.prog 29 #[.agg (tbCells h v).toArray, .int .i64 tx] w (TbPost w R (releaseR t tx)) := by
 obtain ⟨a, cap, rfl, hnc, hcm⟩ := ht.1.shape
 obtain ⟨a2, cap2, rfl, hnc2, hcm2⟩ := ht.2.shape
 have HT := Lib.hid ht
 have HR := Lib.hid hR
 have HVa : Hid (∀ W, Below w.heap.size w W → Calls Try.prog 13 #[.agg (tbCells (.slice a t.held.length cap) (.slice a2 t.wait.length cap2)).toArray] W fun e w' => e = .returned (.bool (tbOkB t)) ∧ Below W.heap.size W w') := fun W hb => rlkvalid_any W ht (hR.below hb) hg
 have HLf : Hid (∀ W, Below w.heap.size w W → Calls Try.prog 51 #[.slice a t.held.length cap, .int .i64 tx, .bool false, .agg (lkCells lkNil).toArray] W (GrPost W (leftTx t.held tx))) := fun W hb => by rw [← left_all t.held tx 0 0]; exact rleft_any tx false lkNil W ht.1 (hR.below hb) hg.held hg.few.1 ⟨by decide, by decide⟩
 have HLw : Hid (∀ W, Below w.heap.size w W → Calls Try.prog 51 #[.slice a2 t.wait.length cap2, .int .i64 tx, .bool false, .agg (lkCells lkNil).toArray] W (GrPost W (leftTx t.wait tx))) := fun W hb => by rw [← left_all t.wait tx 0 0]; exact rleft_any tx false lkNil W ht.2 (hR.below hb) hg.wait hg.few.2 ⟨by decide, by decide⟩
 have HV : Hid (releaseR t tx = if tbOkB t = true then settleR ⟨leftTx t.held tx, leftTx t.wait tx⟩ else t) := rfl
 have HSe : Hid (tbOkB t = true → ∀ W {h v : Value} {Q : List Rng}, TbRd h v ⟨leftTx t.held tx, leftTx t.wait tx⟩ Q → RdIn W Q → Calls Try.prog 47 #[.agg (tbCells h v).toArray] W (TbPost W Q (settleR ⟨leftTx t.held tx, leftTx t.wait tx⟩))) := fun hk W h v Q h1 h2 => rsettle_any W h1 h2 (release_in (tbOkB_iff.1 hk) tx) (by have h1 := (tbOkB_iff.1 hk).few; have h2 := leftTx_len t.wait tx; have h3 := leftTx_len t.held tx; show (leftTx t.held tx).length + (leftTx t.wait tx).length ≤ 2000; omega)
 clear ht hR hg
 have h1 := ((((Hp.startrd w R HR.out).put 25 (tbCells (.slice a t.held.length cap) (.slice a2 t.wait.length cap2)))).put 25 (tbCells (.slice none 0 0) (.slice none 0 0)))
 simp only [World.size_alloc, List.nil_append, List.cons_append] at h1
 have h2 := h1.pull [1, 2, 0] (M := [.ob w.heap.size 25 (tbCells (.slice a t.held.length cap) (.slice a2 t.wait.length cap2)), .ob (w.heap.size + 1) 25 (tbCells (.slice none 0 0) (.slice none 0 0)), .rd R]) rfl (pull_nd h1.nd [1, 2, 0] rfl (by decide))
 have HS0 : Hid (Hp w [.ob w.heap.size 25 (tbCells (.slice a t.held.length cap) (.slice a2 t.wait.length cap2)), .ob (w.heap.size + 1) 25 (tbCells (.slice none 0 0) (.slice none 0 0)), .rd R] ((w.alloc (.cells (tbCells (.slice a t.held.length cap) (.slice a2 t.wait.length cap2)).toArray 25)).alloc (.cells #[.slice none 0 0, .slice none 0 0] 25))) := h2
 clear h1 h2
 obtain ⟨fsHUG, huHUG⟩ := under_gr
 have HUG := Lib.hid huHUG
 clear huHUG
 obtain ⟨fsHUK, huHUK⟩ := under_lk
 have HUK := Lib.hid huHUK
 clear huHUK
 obtain ⟨fsHUT, huHUT⟩ := under_tb
 have HUT := Lib.hid huHUT
 clear huHUT
 generalize tbOkB t = ok at *
 go_enter Try.func29, Try.ntmps29
 go_upto_region 1 with (fail)
 generalize ((w.alloc (.cells (tbCells (.slice a t.held.length cap) (.slice a2 t.wait.length cap2)).toArray 25)).alloc (.cells #[.slice none 0 0, .slice none 0 0] 25)) = w1 at *
 generalize (w.heap.size + 1) = b2 at *
 have b0 : w1.cell? ⟨w.heap.size, 0, none⟩ = some (.slice a t.held.length cap) := HS0.out.at 0 rfl 0 rfl
 have b1 : w1.cell? ⟨w.heap.size, 1, none⟩ = some (.slice a2 t.wait.length cap2) := HS0.out.at 0 rfl 1 rfl
 go_wp2_with fail
 refine (HVa.out _ HS0.out.old).mono ?_
 rintro e w2 ⟨rfl, hb⟩
 have HS1 := Lib.hid (HS0.out.calls hb)
 clear b0 b1 HS0 hb HVa
 cases ok
 ·have HE : Hid (releaseR t tx = t) := Lib.hid (by rw [HV.out]; rfl)
  go_wp2_with (first | ((with_reducible refine wpList_load_ob 25 (.tmp 2) (w.heap.size) (tbCells (.slice a t.held.length cap) (.slice a2 t.wait.length cap2)) 25 HUT.out ?_ ?_ ?_ ?_ ?_); (exact rfl); (exact (HS1.out).get 0 rfl); (exact rfl); (exact info_tb); simp only [Act.put, List.setIfInBounds_toArray, List.set_cons_zero, List.set_cons_succ]) | ((with_reducible refine wpList_store_ob 25 (.tmp 4) b2 (tbCells (.slice a t.held.length cap) (.slice a2 t.wait.length cap2)) (tbCells (.slice none 0 0) (.slice none 0 0)) 25 ?_ ?_ ?_ ?_ ?_ ?_ ?_); (exact rfl); (exact rfl); (exact (HS1.out).get 1 rfl); (exact info_tb); (exact rfl); (exact (oneCell_tb _ _ _ _ _ _)); skip))
  have HS41 : Hid (Hp w [.ob (w.heap.size) 25 (tbCells (.slice a t.held.length cap) (.slice a2 t.wait.length cap2)), .ob b2 25 (tbCells (.slice a t.held.length cap) (.slice a2 t.wait.length cap2)), .rd R] (w2.setRow b2 (tbCells (.slice a t.held.length cap) (.slice a2 t.wait.length cap2)).toArray)) := (HS1.out).row 1 rfl (tbCells (.slice a t.held.length cap) (.slice a2 t.wait.length cap2))
  clear HS1
  generalize (w2.setRow b2 (tbCells (.slice a t.held.length cap) (.slice a2 t.wait.length cap2)).toArray) = w41 at *
  refine bodyPost_ret (results_ob Try.results29 _ _ b2 (tbCells (.slice a t.held.length cap) (.slice a2 t.wait.length cap2)) 25 _ rfl ((HS41.out).get 1 rfl) HUT.out rfl info_tb) rfl ?_
  rw [HE.out]
  exact ⟨_, _, R, rfl, HT.out, (HS41.out).reads 2 rfl, fun r hr => .inr (List.mem_map.2 ⟨r, hr, rfl⟩), (HS41.out).old⟩
 ·have HE : Hid (releaseR t tx = settleR ⟨leftTx t.held tx, leftTx t.wait tx⟩) := Lib.hid (by rw [HV.out]; first | rfl | simp)
  have HSt := Lib.hid (HSe.out (by first | trivial | rfl))
  clear HSe HV
  go_wp2_with fail
  refine wp_region_held_drew (S := fun w' => w'.rangeAt w.heap.size 0 (tbCells (.slice a t.held.length cap) (.slice a2 t.wait.length cap2))) (by kernel_rfl) ((fun j v hv => by rw [Nat.zero_add]; exact ((HS1.out).drew).at 0 rfl j hv)) (fun hHeld => ?_)
  refine tk 0 qRfLk8_10 (some 9) (v := ?q101v) (Or.inl ⟨by rfl, ?q101h⟩) hHeld ?q101r
  case q101h => (intro wq hSw; clear hSw; go_simp; try with_reducible rfl)
  try simp only [z0, z1, z2, z3]
  refine tk 1 qRfLk8_11 (some 10) (v := .slice a t.held.length cap) (Or.inl ⟨by rfl, ?q102h⟩) hHeld ?q102r
  case q102h => (intro wq hSw; have lq := (hSw) 0 (.slice a t.held.length cap) rfl; simp only [Nat.zero_add] at lq; clear hSw; go_simp; try with_reducible rfl)
  try simp only [z0, z1, z2, z3]
  refine tk 2 qRfLk8_12 (some 11) (v := ?q103v) (Or.inl ⟨by rfl, ?q103h⟩) hHeld ?q103r
  case q103h => (intro wq hSw; clear hSw; go_simp; try with_reducible rfl)
  try simp only [z0, z1, z2, z3]
  refine tk 3 qRfLk8_13 (some 12) (yieldsIf_build_v (by rfl) 27 (.agg (lkCells lkNil).toArray) rfl (fun W => by simp only [List.map_toArray, List.map_cons, List.map_nil]; exact build_lk0 W)) hHeld ?_
  try simp only [z0, z1, z2, z3]
  refine tk 5 qRfLk8_14 (some 14) (v := ?q105v) (Or.inl ⟨by rfl, ?q105h⟩) hHeld ?q105r
  case q105h => (intro wq hSw; clear hSw; go_simp; try with_reducible rfl)
  try simp only [z0, z1, z2, z3]
  refine tk 6 qRfLk8_15 (some 15) (v := .slice a2 t.wait.length cap2) (Or.inl ⟨by rfl, ?q106h⟩) hHeld ?q106r
  case q106h => (intro wq hSw; have lq := (hSw) 1 (.slice a2 t.wait.length cap2) rfl; simp only [Nat.zero_add] at lq; clear hSw; go_simp; try with_reducible rfl)
  try simp only [z0, z1, z2, z3]
  refine tk 7 qRfLk8_16 (some 16) (v := ?q107v) (Or.inl ⟨by rfl, ?q107h⟩) hHeld ?q107r
  case q107h => (intro wq hSw; clear hSw; go_simp; try with_reducible rfl)
  try simp only [z0, z1, z2, z3]
  refine tk 8 qRfLk8_17 (some 17) (yieldsIf_build_v (by rfl) 27 (.agg (lkCells lkNil).toArray) rfl (fun W => by simp only [List.map_toArray, List.map_cons, List.map_nil]; exact build_lk0 W)) hHeld ?_
  try simp only [z0, z1, z2, z3]
  refine tn 4 qRfLk8_18 (fun K hK => ?_)
  go_simp
  go_wp2_with (go_at_call 51; refine (HLf.out _ ((HS1.out).drew).old).mono ?_; rintro e w61 ⟨vh, R2, rfl, hrd2, hin2, hnew2, hb⟩)
  have hnew3 : ∀ r ∈ R2, w.heap.size ≤ r.1 := fun r hr => Nat.le_trans ((HS1.out).drew).old.size (hnew2 r hr)
  obtain ⟨a3, c3, rfl, hc3, hm3⟩ := hrd2.shape
  have H2 := Lib.hid hrd2
  have N2 := Lib.hid hnew3
  have HS61 : Hid (Hp w [.ob (w.heap.size) 25 (tbCells (.slice a t.held.length cap) (.slice a2 t.wait.length cap2)), .ob b2 25 (tbCells (.slice none 0 0) (.slice none 0 0)), .rd R, .rd R2] w61) := ((HS1.out).drew).addrd hb R2 hin2 (fun r hr => .inl (hnew2 r hr))
  refine hK.out _ _ ((fun j v hv => by rw [Nat.zero_add]; exact (HS61.out).at 0 rfl j hv)) (fun hHeld => ?_)
  clear hK K hb hin2 hrd2 hnew2 hnew3
  try simp only [z0, z1, z2, z3]
  refine tn 9 qRfLk8_19 (fun K hK => ?_)
  go_simp
  go_wp2_with (go_at_call 51; refine (HLw.out _ (HS61.out).old).mono ?_; rintro e w62 ⟨vh, R3, rfl, hrd2, hin2, hnew2, hb⟩)
  have hnew3 : ∀ r ∈ R3, w.heap.size ≤ r.1 := fun r hr => Nat.le_trans (HS61.out).old.size (hnew2 r hr)
  obtain ⟨a4, c4, rfl, hc4, hm4⟩ := hrd2.shape
  have H3 := Lib.hid hrd2
  have N3 := Lib.hid hnew3
  have HS62 : Hid (Hp w [.ob (w.heap.size) 25 (tbCells (.slice a t.held.length cap) (.slice a2 t.wait.length cap2)), .ob b2 25 (tbCells (.slice none 0 0) (.slice none 0 0)), .rd R, .rd R2, .rd R3] w62) := (HS61.out).addrd hb R3 hin2 (fun r hr => .inl (hnew2 r hr))
  refine hK.out _ _ ((fun j v hv => by rw [Nat.zero_add]; exact (HS62.out).at 0 rfl j hv)) (fun hHeld => ?_)
  clear hK K hb hin2 hrd2 hnew2 hnew3
  try simp only [z0, z1, z2, z3]
  refine tk 10 qRfLk8_20 (some 19) (yieldsIf_build_v (by rfl) 25 (.agg (tbCells (.slice a3 (leftTx t.held tx).length c3) (.slice a4 (leftTx t.wait tx).length c4)).toArray) rfl (fun W => by simp only [List.map_toArray, List.map_cons, List.map_nil]; exact build_tb2 _ _ _ _ _ _ W)) hHeld ?_
  try simp only [z0, z1, z2, z3]
  refine tn 11 qRfLk8_21 (fun K hK => ?_)
  go_simp
  go_wp2_with (go_at_call 47; refine (HSt.out _ (Q := R2 ++ R3) ⟨SlRd.mono H2.out (fun r hr => by simp [hr]), SlRd.mono H3.out (fun r hr => by simp [hr])⟩ (RdIn.append ((HS62.out).reads 3 rfl) ((HS62.out).reads 4 rfl))).mono ?_; rintro e w63 ⟨h9, v9, R9, rfl, hrd2, hin2, hnew2, hb⟩)
  have hnew3 : ∀ r ∈ R9, w.heap.size ≤ r.1 ∨ r.1 ∈ R.map (·.1) := fun r hr => by
   rcases hnew2 r hr with h | h
   ·exact .inl (Nat.le_trans (HS62.out).old.size h)
   ·obtain ⟨q, hq, hqe⟩ := List.mem_map.1 h
    rw [← hqe]
    rcases List.mem_append.1 hq with hq | hq
    ·exact .inl (N2.out q hq)
    ·exact .inl (N3.out q hq)
  obtain ⟨a9, c9, rfl, _, _⟩ := hrd2.1.shape
  obtain ⟨d9, e9, rfl, _, _⟩ := hrd2.2.shape
  have H9 := Lib.hid hrd2
  have N9 := Lib.hid hnew3
  have HS63 : Hid (Hp w [.ob (w.heap.size) 25 (tbCells (.slice a t.held.length cap) (.slice a2 t.wait.length cap2)), .ob b2 25 (tbCells (.slice none 0 0) (.slice none 0 0)), .rd R, .rd R2, .rd R3, .rd R9] w63) := (HS62.out).addrd hb R9 hin2 (fun r hr => (hnew2 r hr).elim .inl (fun h => .inr (by obtain ⟨q, hq, hqe⟩ := List.mem_map.1 h; rcases List.mem_append.1 hq with hq | hq; exact ⟨.rd R2, List.mem_of_getElem? (i := 3) rfl, List.mem_map.2 ⟨q, hq, hqe⟩⟩; exact ⟨.rd R3, List.mem_of_getElem? (i := 4) rfl, List.mem_map.2 ⟨q, hq, hqe⟩⟩)))
  refine hK.out _ _ ((fun j v hv => by rw [Nat.zero_add]; exact (HS63.out).at 0 rfl j hv)) (fun hHeld => ?_)
  clear hK K hb hin2 hrd2 hnew2 hnew3
  try simp only [z0, z1, z2, z3]
  refine tn 12 qRfLk8_22 (fun K hK => ?_)
  rw [if_pos (by rfl)]
  refine wp_store_ob 25 (.tmp 4) (.tmp 20) b2 (tbCells (.slice a9 (settleR ⟨leftTx t.held tx, leftTx t.wait tx⟩).held.length c9) (.slice d9 (settleR ⟨leftTx t.held tx, leftTx t.wait tx⟩).wait.length e9)) (tbCells (.slice none 0 0) (.slice none 0 0)) 25 rfl rfl rfl rfl ((HS63.out).get 1 rfl) (info_tb) (rfl) ((oneCell_tb _ _ _ _ _ _)) ?_
  have HS64 : Hid (Hp w [.ob (w.heap.size) 25 (tbCells (.slice a t.held.length cap) (.slice a2 t.wait.length cap2)), .ob b2 25 (tbCells (.slice a9 (settleR ⟨leftTx t.held tx, leftTx t.wait tx⟩).held.length c9) (.slice d9 (settleR ⟨leftTx t.held tx, leftTx t.wait tx⟩).wait.length e9)), .rd R, .rd R2, .rd R3, .rd R9] (w63.setRow b2 (tbCells (.slice a9 (settleR ⟨leftTx t.held tx, leftTx t.wait tx⟩).held.length c9) (.slice d9 (settleR ⟨leftTx t.held tx, leftTx t.wait tx⟩).wait.length e9)).toArray)) := (HS63.out).row 1 rfl (tbCells (.slice a9 (settleR ⟨leftTx t.held tx, leftTx t.wait tx⟩).held.length c9) (.slice d9 (settleR ⟨leftTx t.held tx, leftTx t.wait tx⟩).wait.length e9))
  refine hK.out _ _ ((fun j v hv => by rw [Nat.zero_add]; exact (HS64.out).at 0 rfl j hv)) (fun hHeld => ?_)
  clear hK K
  generalize (w63.setRow b2 (tbCells (.slice a9 (settleR ⟨leftTx t.held tx, leftTx t.wait tx⟩).held.length c9) (.slice d9 (settleR ⟨leftTx t.held tx, leftTx t.wait tx⟩).wait.length e9)).toArray) = w64 at *
  try simp only [z0, z1, z2, z3]
  refine wpAnyH_done (by kernel_rfl) ?_ _
  clear hHeld
  go_wp2_with fail
  refine bodyPost_ret (results_ob Try.results29 _ _ b2 (tbCells (.slice a9 (settleR ⟨leftTx t.held tx, leftTx t.wait tx⟩).held.length c9) (.slice d9 (settleR ⟨leftTx t.held tx, leftTx t.wait tx⟩).wait.length e9)) 25 _ rfl ((HS64.out).get 1 rfl) HUT.out rfl info_tb) rfl ?_
  rw [HE.out]
  exact ⟨_, _, R9, rfl, H9.out, (HS64.out).reads 5 rfl, N9.out, (HS64.out).old⟩
end Go.Proofs.Ytcnaalbpbalgdaa
/- what reads, its spare cut off, is appended to: the whole is new -/
namespace Go.Proofs.Ytcnaalbpbalgdaa
open Go.RowKit
set_option maxRecDepth 20000

theorem results_cell_tmp2 {fn : Func} {p u u2 : Tmp} {ty : TypeId} (h : fn.results = #[.cell p ty, .tmp u, .tmp u2]) (tmps : Array Value) (P : Program) (w : World) :
    (results fn tmps).run P w =
      ((asAddr (tmps.getD p undef)).run P w).andThen fun a w₁ => ((loadVar ty a).run P w₁).andThen fun v w₂ => .ok (.tuple #[v, tmps.getD u undef, tmps.getD u2 undef]) w₂ := by
  simp only [results, h]
  simp [Sem.run_bind, Result.andThen]
theorem results_ob_tmp2 {fn : Func} {p u u2 : Tmp} {t : TypeId} (h : fn.results = #[.cell p t, .tmp u, .tmp u2]) (tmps : Array Value) (w : World) (g : Nat) (cs : List Value) (t0 : TypeId) (ds : TypeDesc)
    (hp : tmps.getD p undef = .pointer (some ⟨g, 0, none⟩)) (hg : w.heap[g]? = some (.cells cs.toArray t0 (0, 0))) (hu : Try.prog.underlying t = some ds) (hd : ds.isRow = true) (hi : (Try.prog.info? t).map (·.size) = some cs.length) :
    (results fn tmps).run Try.prog w = .ok (.tuple #[.agg cs.toArray, tmps.getD u undef, tmps.getD u2 undef]) w := by
  rw [results_cell_tmp2 h, hp]
  simp [asAddr, run_loadVar_row w g t0 t cs.toArray (0, 0) ds hg hu (by cases ds <;> simp_all) (by rw [List.size_toArray]; exact hi), Result.andThen]
end Go.Proofs.Ytcnaalbpbalgdaa
/- the reference's Request -/
namespace Go.Proofs.Ytcnaalbpbalgdaa
open Go.RowKit
open Go.Act renaming put → z0
open List renaming setIfInBounds_toArray → z1, set_cons_zero → z2, set_cons_succ → z3
set_option maxRecDepth 20000
set_option linter.unusedSimpArgs false
set_option linter.unusedVariables false

theorem waitR_good {t : Tb} (hg : GoodTb t) (tx : Int) : GoodGr (waitR t tx).1 := by
 unfold waitR
 split
 ·cases h : wfind t.wait tx with
  | none => exact grNil_good
  | some x => exact hg.wait x (wfind_some h).1
 ·exact grNil_good
theorem grEq_same (a b : Gr) : sameV a b = grEqB a b := by rw [Bool.eq_iff_iff, sameV_iff, grEqB_iff]
theorem added_eq (t : Tb) (g : Gr) : addedR t g = ⟨t.held, t.wait.take (wplaceR t.held t.wait g) ++ ([g] ++ t.wait.drop (wplaceR t.held t.wait g))⟩ := rfl
theorem place_le (h l : List Gr) (g : Gr) : wplaceR h l g ≤ l.length := by
 unfold wplaceR
 split
 ·exact Nat.le_refl _
 ·exact List.findIdx_le_length
abbrev qRfLk9_0 : Oper := { dst := some 34, op := Op.load 25 (Operand.tmp 2), type := 25, pos := "ref.go:161", after := #[], guard := none }
abbrev qRfLk9_1 : Oper := { dst := some 35, op := Op.fieldAddr 29 (Operand.tmp 3) 0, type := 0, pos := "ref.go:161", after := #[], guard := none }
abbrev qRfLk9_2 : Oper := { dst := some 36, op := Op.load 3 (Operand.tmp 35), type := 3, pos := "ref.go:161", after := #[{ on := 1, ground := Ground.data }], guard := none }
abbrev qRfLk9_3 : Oper := { dst := some 37, op := Op.fieldAddr 29 (Operand.tmp 3) 1, type := 0, pos := "ref.go:161", after := #[], guard := none }
abbrev qRfLk9_4 : Oper := { dst := some 38, op := Op.load 27 (Operand.tmp 37), type := 27, pos := "ref.go:161", after := #[{ on := 3, ground := Ground.data }], guard := none }
abbrev qRfLk9_5 : Oper := { dst := some 40, op := Op.fieldAddr 29 (Operand.tmp 3) 2, type := 0, pos := "ref.go:161", after := #[], guard := none }
abbrev qRfLk9_6 : Oper := { dst := some 41, op := Op.load 3 (Operand.tmp 40), type := 3, pos := "ref.go:161", after := #[{ on := 6, ground := Ground.data }], guard := none }
abbrev qRfLk9_7 : Oper := { dst := some 39, op := Op.call { callee := Callee.value (Operand.func 38), args := #[Operand.tmp 34, Operand.tmp 36, Operand.tmp 38], argTypes := #[25, 3, 27] }, type := 3, pos := "ref.go:161", after := #[{ on := 0, ground := Ground.data }, { on := 2, ground := Ground.data }, { on := 4, ground := Ground.data }], guard := none }
abbrev qRfLk9_8 : Oper := { dst := some 42, op := Op.binOp BinOp.geq 3 (Operand.tmp 39) (Operand.tmp 41) 3, type := 4, pos := "ref.go:161", after := #[{ on := 5, ground := Ground.data }, { on := 7, ground := Ground.data }], guard := none }
abbrev qRfLk9_9 : Oper := { dst := some 56, op := Op.fieldAddr 25 (Operand.tmp 2) 1, type := 0, pos := "ref.go:168", after := #[], guard := none }
abbrev qRfLk9_10 : Oper := { dst := some 58, op := Op.move (Operand.tmp 9), type := 3, pos := "ref.go:168", after := #[], guard := none }
abbrev qRfLk9_11 : Oper := { dst := some 61, op := Op.load 29 (Operand.tmp 3), type := 29, pos := "ref.go:168", after := #[], guard := none }
abbrev qRfLk9_12 : Oper := { dst := some 64, op := Op.fieldAddr 25 (Operand.tmp 2) 1, type := 0, pos := "ref.go:168", after := #[], guard := none }
abbrev qRfLk9_13 : Oper := { dst := some 66, op := Op.move (Operand.tmp 9), type := 3, pos := "ref.go:168", after := #[], guard := none }
abbrev qRfLk9_14 : Oper := { dst := some 57, op := Op.load 23 (Operand.tmp 56), type := 23, pos := "ref.go:168", after := #[{ on := 0, ground := Ground.data }], guard := none }
abbrev qRfLk9_15 : Oper := { dst := some 62, op := Op.buildSlice 23 1 #[(0, Operand.tmp 61)], type := 23, pos := "ref.go:168", after := #[{ on := 5, ground := Ground.data }], guard := none }
abbrev qRfLk9_16 : Oper := { dst := some 65, op := Op.load 23 (Operand.tmp 64), type := 23, pos := "ref.go:168", after := #[{ on := 8, ground := Ground.data }], guard := none }
abbrev qRfLk9_17 : Oper := { dst := some 59, op := Op.slice 23 (Operand.tmp 57) none (some (Operand.tmp 58)) none, type := 23, pos := "ref.go:168", after := #[{ on := 1, ground := Ground.data }, { on := 2, ground := Ground.data }], guard := none }
abbrev qRfLk9_18 : Oper := { dst := some 60, op := Op.call { callee := Callee.builtin Builtin.append, args := #[Operand.const (Value.slice none 0 0), Operand.tmp 59], argTypes := #[23, 23] }, type := 23, pos := "ref.go:168", after := #[{ on := 3, ground := Ground.data }], guard := none }
abbrev qRfLk9_19 : Oper := { dst := some 63, op := Op.call { callee := Callee.builtin Builtin.append, args := #[Operand.tmp 60, Operand.tmp 62], argTypes := #[23, 23] }, type := 23, pos := "ref.go:168", after := #[{ on := 4, ground := Ground.data }, { on := 6, ground := Ground.data }, { on := 4, ground := Ground.chain }], guard := none }
abbrev qRfLk9_20 : Oper := { dst := some 67, op := Op.slice 23 (Operand.tmp 65) (some (Operand.tmp 66)) none none, type := 23, pos := "ref.go:168", after := #[{ on := 9, ground := Ground.data }, { on := 10, ground := Ground.data }], guard := none }
abbrev qRfLk9_21 : Oper := { dst := some 68, op := Op.call { callee := Callee.builtin Builtin.append, args := #[Operand.tmp 63, Operand.tmp 67], argTypes := #[23, 23] }, type := 23, pos := "ref.go:168", after := #[{ on := 7, ground := Ground.data }, { on := 11, ground := Ground.data }, { on := 7, ground := Ground.chain }], guard := none }
abbrev qRfLk9_22 : Oper := { dst := some 69, op := Op.fieldAddr 25 (Operand.tmp 2) 1, type := 0, pos := "ref.go:168", after := #[{ on := 0, ground := Ground.phase }, { on := 1, ground := Ground.phase }, { on := 2, ground := Ground.phase }, { on := 3, ground := Ground.phase }, { on := 4, ground := Ground.phase }, { on := 5, ground := Ground.phase }, { on := 6, ground := Ground.phase }, { on := 7, ground := Ground.phase }, { on := 8, ground := Ground.phase }, { on := 9, ground := Ground.phase }, { on := 10, ground := Ground.phase }, { on := 11, ground := Ground.phase }, { on := 12, ground := Ground.phase }], guard := none }
abbrev qRfLk9_23 : Oper := { dst := none, op := Op.store 23 (Operand.tmp 69) (Operand.tmp 68), type := 0, pos := "ref.go:168", after := #[{ on := 13, ground := Ground.data }, { on := 12, ground := Ground.data }, { on := 12, ground := Ground.chain }, { on := 0, ground := Ground.phase }, { on := 1, ground := Ground.phase }, { on := 2, ground := Ground.phase }, { on := 3, ground := Ground.phase }, { on := 4, ground := Ground.phase }, { on := 5, ground := Ground.phase }, { on := 6, ground := Ground.phase }, { on := 7, ground := Ground.phase }, { on := 8, ground := Ground.phase }, { on := 9, ground := Ground.phase }, { on := 10, ground := Ground.phase }, { on := 11, ground := Ground.phase }, { on := 12, ground := Ground.phase }], guard := none }
abbrev qRfLk9_24 : Oper := { dst := some 72, op := Op.load 25 (Operand.tmp 2), type := 25, pos := "ref.go:170", after := #[], guard := none }
abbrev qRfLk9_25 : Oper := { dst := some 73, op := Op.load 25 (Operand.tmp 2), type := 25, pos := "ref.go:170", after := #[], guard := none }
abbrev qRfLk9_26 : Oper := { dst := some 74, op := Op.fieldAddr 29 (Operand.tmp 3) 0, type := 0, pos := "ref.go:170", after := #[], guard := none }
abbrev qRfLk9_27 : Oper := { dst := some 75, op := Op.load 3 (Operand.tmp 74), type := 3, pos := "ref.go:170", after := #[{ on := 2, ground := Ground.data }], guard := none }
abbrev qRfLk9_28 : Oper := { dst := some 76, op := Op.fieldAddr 29 (Operand.tmp 3) 1, type := 0, pos := "ref.go:170", after := #[], guard := none }
abbrev qRfLk9_29 : Oper := { dst := some 77, op := Op.load 27 (Operand.tmp 76), type := 27, pos := "ref.go:170", after := #[{ on := 4, ground := Ground.data }], guard := none }
abbrev qRfLk9_30 : Oper := { dst := some 79, op := Op.fieldAddr 29 (Operand.tmp 3) 2, type := 0, pos := "ref.go:170", after := #[{ on := 10, ground := Ground.gcOnly Departure.lateStores }], guard := none }
abbrev qRfLk9_31 : Oper := { dst := some 80, op := Op.load 3 (Operand.tmp 79), type := 3, pos := "ref.go:170", after := #[{ on := 7, ground := Ground.data }, { on := 10, ground := Ground.gcOnly Departure.lateStores }], guard := none }
abbrev qRfLk9_32 : Oper := { dst := some 78, op := Op.call { callee := Callee.value (Operand.func 38), args := #[Operand.tmp 73, Operand.tmp 75, Operand.tmp 77], argTypes := #[25, 3, 27] }, type := 3, pos := "ref.go:170", after := #[{ on := 1, ground := Ground.data }, { on := 3, ground := Ground.data }, { on := 5, ground := Ground.data }], guard := none }
abbrev qRfLk9_33 : Oper := { dst := some 81, op := Op.binOp BinOp.geq 3 (Operand.tmp 78) (Operand.tmp 80) 3, type := 4, pos := "ref.go:170", after := #[{ on := 6, ground := Ground.data }, { on := 8, ground := Ground.data }, { on := 10, ground := Ground.gcOnly Departure.lateStores }], guard := none }
abbrev qRfLk9_34 : Oper := { dst := none, op := Op.store 25 (Operand.tmp 4) (Operand.tmp 72), type := 0, pos := "ref.go:170", after := #[{ on := 0, ground := Ground.data }, { on := 6, ground := Ground.chain }, { on := 0, ground := Ground.phase }, { on := 1, ground := Ground.textOnly Departure.lateStores }, { on := 2, ground := Ground.textOnly Departure.lateStores }, { on := 3, ground := Ground.textOnly Departure.lateStores }, { on := 4, ground := Ground.textOnly Departure.lateStores }, { on := 5, ground := Ground.textOnly Departure.lateStores }, { on := 6, ground := Ground.textOnly Departure.lateStoresUnsure }, { on := 7, ground := Ground.textOnly Departure.lateStores }, { on := 8, ground := Ground.textOnly Departure.lateStores }, { on := 9, ground := Ground.textOnly Departure.lateStores }], guard := none }
abbrev qRfLk9_35 : Oper := { dst := some 5, op := Op.assign (Operand.tmp 81), type := 4, pos := "ref.go:170", after := #[{ on := 9, ground := Ground.data }, { on := 10, ground := Ground.chain }, { on := 0, ground := Ground.phase }, { on := 1, ground := Ground.phase }, { on := 2, ground := Ground.phase }, { on := 3, ground := Ground.phase }, { on := 4, ground := Ground.phase }, { on := 5, ground := Ground.phase }, { on := 6, ground := Ground.phase }, { on := 7, ground := Ground.phase }, { on := 8, ground := Ground.phase }, { on := 9, ground := Ground.phase }, { on := 10, ground := Ground.phase }], guard := none }
abbrev qRfLk9_36 : Oper := { dst := some 6, op := Op.assign (Operand.const (Value.int IntKind.i64 0)), type := 40, pos := "ref.go:170", after := #[{ on := 11, ground := Ground.chain }, { on := 0, ground := Ground.phase }, { on := 1, ground := Ground.phase }, { on := 2, ground := Ground.phase }, { on := 3, ground := Ground.phase }, { on := 4, ground := Ground.phase }, { on := 5, ground := Ground.phase }, { on := 6, ground := Ground.phase }, { on := 7, ground := Ground.phase }, { on := 8, ground := Ground.phase }, { on := 9, ground := Ground.phase }, { on := 10, ground := Ground.phase }, { on := 11, ground := Ground.phase }], guard := none }
set_option maxHeartbeats 16000000 in
theorem rrequest_any {h v : Value} {t : Tb} {R : List Rng} (g : Gr) (w : World) (ht : TbRd h v t R) (hR : RdIn w R) (hg : GoodTb t) (hk : GoodGr g) :
  Calls Try.prog 18 #[.agg (tbCells h v).toArray, .agg (grCells g).toArray] w (TbPost3 w R (requestR t g)) := by
 obtain ⟨a, cap, rfl, hnc, hcm⟩ := ht.1.shape
 obtain ⟨a2, cap2, rfl, hnc2, hcm2⟩ := ht.2.shape
 have HT := Lib.hid ht
 have HR := Lib.hid hR
 have HK := Lib.hid hk
 have HUX := Lib.hid under_grs
 have HVa : Hid (∀ W, Below w.heap.size w W → Calls Try.prog 13 #[.agg (tbCells (.slice a t.held.length cap) (.slice a2 t.wait.length cap2)).toArray] W fun e w' => e = .returned (.bool (tbOkB t)) ∧ Below W.heap.size W w') := fun W hb => rlkvalid_any W ht (hR.below hb) hg
 have HGr : Hid (∀ W, Calls Try.prog 35 #[.agg (grCells g).toArray] W fun e w' => e = .returned (.bool (grOkB g)) ∧ Below W.heap.size W w') := fun W => rgrant_any g W
 have HWa : Hid (∀ W, Below w.heap.size w W → Calls Try.prog 25 #[.agg (tbCells (.slice a t.held.length cap) (.slice a2 t.wait.length cap2)).toArray, .int .i64 g.tx] W fun e w' => e = .returned (.tuple #[.agg (grCells (waitR t g.tx).1).toArray, .bool (waitR t g.tx).2]) ∧ Below W.heap.size W w') := fun W hb => rWaiting_any g.tx W ht (hR.below hb) hg
 have HMo : Hid (∀ W, Below w.heap.size w W → Calls Try.prog 38 #[.agg (tbCells (.slice a t.held.length cap) (.slice a2 t.wait.length cap2)).toArray, .int .i64 g.tx, .agg (lkCells g.lock).toArray] W fun e w' => e = .returned (.int .i64 (modeG t.held g)) ∧ Below W.heap.size W w') := fun W hb => rmode_any g.tx g.lock W ht (hR.below hb) hg hk.lock
 have HPl : Hid (∀ W, Below w.heap.size w W → Calls Try.prog 46 #[.agg (tbCells (.slice a t.held.length cap) (.slice a2 t.wait.length cap2)).toArray, .agg (grCells g).toArray] W fun e w' => e = .returned (.int .i64 (wplaceR t.held t.wait g : Nat)) ∧ Below W.heap.size W w') := fun W hb => rplace_any g W ht (hR.below hb) hg hk
 have HGw := Lib.hid (waitR_good hg g.tx)
 have HLen : Hid (tbOkB t = true → t.held.length + t.wait.length ≤ 1024) := fun h => (tbOkB_iff.1 h).few
 have HAd : Hid (tbOkB t = true → grOkB g = true → (waitR t g.tx).2 = false → ¬ g.mode ≤ modeG t.held g → TbIn (addedR t g)) := fun h1 h2 h3 h4 => by
  have hok := tbOkB_iff.1 h1
  rw [waitR_of hok] at h3
  refine added_in hok (grOkB_iff.1 h2) (wfind_none ?_) (by omega)
  simpa using h3
 have HD : Hid (requestR t g = if tbOkB t = false then (tbNil, false, 17)
  else if grOkB g = false then (tbNil, false, 1)
  else if (waitR t g.tx).2 = true then (if grEqB (waitR t g.tx).1 g = true then (t, false, 0) else (tbNil, false, 15))
  else if g.mode ≤ modeG t.held g then (t, true, 0)
  else if t.held.length + t.wait.length = 1024 then (tbNil, false, 21)
  else (settleR (addedR t g), decide (g.mode ≤ modeG (settleR (addedR t g)).held g), 0)) := rfl
 have hfew := hg.few
 clear ht hg hk
 have h1 := (((Hp.startrd w R hR).put 25 (tbCells (.slice a t.held.length cap) (.slice a2 t.wait.length cap2))).put 29 (grCells g)).put 25 (tbCells (.slice none 0 0) (.slice none 0 0))
 simp only [World.size_alloc, List.nil_append, List.cons_append] at h1
 have h2 := h1.pull [1, 2, 3, 0] (M := [.ob w.heap.size 25 (tbCells (.slice a t.held.length cap) (.slice a2 t.wait.length cap2)), .ob (w.heap.size + 1) 29 (grCells g), .ob (w.heap.size + 1 + 1) 25 (tbCells (.slice none 0 0) (.slice none 0 0)), .rd R]) rfl (pull_nd h1.nd [1, 2, 3, 0] rfl (by decide))
 have HS0 : Hid (Hp w [.ob w.heap.size 25 (tbCells (.slice a t.held.length cap) (.slice a2 t.wait.length cap2)), .ob (w.heap.size + 1) 29 (grCells g), .ob (w.heap.size + 1 + 1) 25 (tbCells (.slice none 0 0) (.slice none 0 0)), .rd R] (((w.alloc (.cells (tbCells (.slice a t.held.length cap) (.slice a2 t.wait.length cap2)).toArray 25)).alloc (.cells (grCells g).toArray 29)).alloc (.cells #[.slice none 0 0, .slice none 0 0] 25))) := h2
 clear h1 h2 hR
 obtain ⟨fsHUG, huHUG⟩ := under_gr
 have HUG := Lib.hid huHUG
 clear huHUG
 obtain ⟨fsHUK, huHUK⟩ := under_lk
 have HUK := Lib.hid huHUK
 clear huHUK
 obtain ⟨fsHUT, huHUT⟩ := under_tb
 have HUT := Lib.hid huHUT
 clear huHUT
 generalize tbOkB t = ok at *
 generalize grOkB g = gk at *
 generalize modeG t.held g = mo at *
 obtain ⟨wx, wb, hwx⟩ : ∃ wx wb, waitR t g.tx = (wx, wb) := ⟨_, _, rfl⟩
 rw [hwx] at HWa HGw HAd HD
 clear hwx
 simp only at HWa HGw HAd HD
 obtain ⟨rq, hrq⟩ : ∃ rq, requestR t g = rq := ⟨_, rfl⟩
 rw [hrq] at HD
 rw [hrq]
 clear hrq
 go_enter Try.func18, Try.ntmps18
 go_upto_region 1 with (fail)
 generalize (((w.alloc (.cells (tbCells (.slice a t.held.length cap) (.slice a2 t.wait.length cap2)).toArray 25)).alloc (.cells (grCells g).toArray 29)).alloc (.cells #[.slice none 0 0, .slice none 0 0] 25)) = w1 at *
 generalize w.heap.size + 1 + 1 = b4 at *
 generalize w.heap.size + 1 = b3 at *
 have b0 : w1.cell? ⟨w.heap.size, 0, none⟩ = some (.slice a t.held.length cap) := HS0.out.at 0 rfl 0 rfl
 have b1 : w1.cell? ⟨w.heap.size, 1, none⟩ = some (.slice a2 t.wait.length cap2) := HS0.out.at 0 rfl 1 rfl
 go_wp2_with fail
 refine (HVa.out _ HS0.out.old).mono ?_
 rintro e w21 ⟨rfl, hb⟩
 have HQ21 := Lib.hid (HS0.out.calls hb)
 clear hb b0 b1 HVa HS0
 cases ok
 ·skip
  go_wp2_with (first | ((with_reducible refine wpList_build_v (d := some 13) 25 (.agg (tbCells (.slice none 0 0) (.slice none 0 0)).toArray) ?_ ?_); (intro W; simp only [List.map_toArray, List.map_cons, List.map_nil]; exact build_tb0 W); simp only [Act.put, List.setIfInBounds_toArray, List.set_cons_zero, List.set_cons_succ]) | ((with_reducible refine wpList_store_ob 25 (.tmp 4) b4 (tbCells (.slice none 0 0) (.slice none 0 0)) (tbCells (.slice none 0 0) (.slice none 0 0)) 25 ?_ ?_ ?_ ?_ ?_ ?_ ?_); (exact rfl); (exact rfl); (exact (HQ21.out).get 2 rfl); (exact info_tb); (exact rfl); (exact (oneCell_tb _ _ _ _ _ _)); skip))
  have HS42 : Hid (Hp w [.ob (w.heap.size) 25 (tbCells (.slice a t.held.length cap) (.slice a2 t.wait.length cap2)), .ob b3 29 (grCells g), .ob b4 25 (tbCells (.slice none 0 0) (.slice none 0 0)), .rd R] (w21.setRow b4 (tbCells (.slice none 0 0) (.slice none 0 0)).toArray)) := (HQ21.out).row 2 rfl (tbCells (.slice none 0 0) (.slice none 0 0))
  clear HQ21
  generalize (w21.setRow b4 (tbCells (.slice none 0 0) (.slice none 0 0)).toArray) = w42 at *
  refine bodyPost_ret (results_ob_tmp2 Try.results18 _ _ b4 (tbCells (.slice none 0 0) (.slice none 0 0)) 25 _ rfl ((HS42.out).get 2 rfl) HUT.out rfl info_tb) rfl ?_
  exact TbPost3.none (by rw [HD.out]; rfl) (HS42.out).old
 have g0 : w21.cell? ⟨b3, 0, none⟩ = some (.int .i64 g.tx) := HQ21.out.at 1 rfl 0 rfl
 have g1 : w21.cell? ⟨b3, 1, none⟩ = some (.int .i64 g.page) := HQ21.out.at 1 rfl 1 rfl
 have g2 : w21.cell? ⟨b3, 2, none⟩ = some (.int .i64 g.slot) := HQ21.out.at 1 rfl 2 rfl
 have g3 : w21.cell? ⟨b3, 3, none⟩ = some (.int .i64 g.mode) := HQ21.out.at 1 rfl 3 rfl
 go_wp2_with fail
 refine (HGr.out _).mono ?_
 rintro e w42 ⟨rfl, hb⟩
 have HQ42 := Lib.hid (HQ21.out.calls hb)
 clear hb g0 g1 g2 g3 HGr HQ21
 cases gk
 ·skip
  go_wp2_with (first | ((with_reducible refine wpList_build_v (d := some 17) 25 (.agg (tbCells (.slice none 0 0) (.slice none 0 0)).toArray) ?_ ?_); (intro W; simp only [List.map_toArray, List.map_cons, List.map_nil]; exact build_tb0 W); simp only [Act.put, List.setIfInBounds_toArray, List.set_cons_zero, List.set_cons_succ]) | ((with_reducible refine wpList_store_ob 25 (.tmp 4) b4 (tbCells (.slice none 0 0) (.slice none 0 0)) (tbCells (.slice none 0 0) (.slice none 0 0)) 25 ?_ ?_ ?_ ?_ ?_ ?_ ?_); (exact rfl); (exact rfl); (exact (HQ42.out).get 2 rfl); (exact info_tb); (exact rfl); (exact (oneCell_tb _ _ _ _ _ _)); skip))
  have HS63 : Hid (Hp w [.ob (w.heap.size) 25 (tbCells (.slice a t.held.length cap) (.slice a2 t.wait.length cap2)), .ob b3 29 (grCells g), .ob b4 25 (tbCells (.slice none 0 0) (.slice none 0 0)), .rd R] (w42.setRow b4 (tbCells (.slice none 0 0) (.slice none 0 0)).toArray)) := (HQ42.out).row 2 rfl (tbCells (.slice none 0 0) (.slice none 0 0))
  clear HQ42
  generalize (w42.setRow b4 (tbCells (.slice none 0 0) (.slice none 0 0)).toArray) = w63 at *
  refine bodyPost_ret (results_ob_tmp2 Try.results18 _ _ b4 (tbCells (.slice none 0 0) (.slice none 0 0)) 25 _ rfl ((HS63.out).get 2 rfl) HUT.out rfl info_tb) rfl ?_
  exact TbPost3.none (by rw [HD.out]; rfl) (HS63.out).old
 have HLn : Hid (t.held.length + t.wait.length ≤ 1024) := Lib.hid (HLen.out (by first | trivial | rfl))
 have b0 : w42.cell? ⟨w.heap.size, 0, none⟩ = some (.slice a t.held.length cap) := HQ42.out.at 0 rfl 0 rfl
 have b1 : w42.cell? ⟨w.heap.size, 1, none⟩ = some (.slice a2 t.wait.length cap2) := HQ42.out.at 0 rfl 1 rfl
 have g0 : w42.cell? ⟨b3, 0, none⟩ = some (.int .i64 g.tx) := HQ42.out.at 1 rfl 0 rfl
 have g1 : w42.cell? ⟨b3, 1, none⟩ = some (.int .i64 g.page) := HQ42.out.at 1 rfl 1 rfl
 have g2 : w42.cell? ⟨b3, 2, none⟩ = some (.int .i64 g.slot) := HQ42.out.at 1 rfl 2 rfl
 have g3 : w42.cell? ⟨b3, 3, none⟩ = some (.int .i64 g.mode) := HQ42.out.at 1 rfl 3 rfl
 go_wp2_with fail
 refine (HWa.out _ HQ42.out.old).mono ?_
 rintro e w63 ⟨rfl, hb⟩
 have HQ63 := Lib.hid (HQ42.out.calls hb)
 clear hb b0 b1 g0 g1 g2 g3 HWa HQ42
 go_upto_region 6 with (first | ((with_reducible refine wpList_alloc_ob 29 (grCells grNil) ?_ ?_); (exact alloc_gr); simp only [Act.put, List.setIfInBounds_toArray, List.set_cons_zero, List.set_cons_succ]) | ((with_reducible refine wpList_store_ob 29 (.tmp 7) (w63.heap.size) (grCells wx) (grCells grNil) 29 ?_ ?_ ?_ ?_ ?_ ?_ ?_); (exact rfl); (exact rfl); (exact ((HQ63.out).put 29 (grCells grNil)).get 4 rfl); (exact info_gr); (exact rfl); (exact (oneCell_gr _)); skip))
 have HS84 : Hid (Hp w [.ob (w.heap.size) 25 (tbCells (.slice a t.held.length cap) (.slice a2 t.wait.length cap2)), .ob b3 29 (grCells g), .ob b4 25 (tbCells (.slice none 0 0) (.slice none 0 0)), .rd R, .ob (w63.heap.size) 29 (grCells wx)] ((w63.alloc (.cells (grCells grNil).toArray 29)).setRow (w63.heap.size) (grCells wx).toArray)) := ((HQ63.out).put 29 (grCells grNil)).row 4 rfl (grCells wx)
 clear HQ63
 generalize ((w63.alloc (.cells (grCells grNil).toArray 29)).setRow (w63.heap.size) (grCells wx).toArray) = w84 at *
 generalize w63.heap.size = B84 at *
 cases wb
 case true =>
  have hqe : ∀ W, Sem.run Try.prog (binOp .neq 29 (.agg (grCells wx).toArray) (.agg (grCells g).toArray)) W = .ok (.bool (!sameV wx g)) W := fun W => run_neq (equal_gr wx g HGw.out HK.out) W
  have hsm := grEq_same wx g
  simp only [grCells] at hqe
  have x0 : w84.cell? ⟨B84, 0, none⟩ = some (.int .i64 wx.tx) := HS84.out.at 4 rfl 0 rfl
  have x1 : w84.cell? ⟨B84, 1, none⟩ = some (.int .i64 wx.page) := HS84.out.at 4 rfl 1 rfl
  have x2 : w84.cell? ⟨B84, 2, none⟩ = some (.int .i64 wx.slot) := HS84.out.at 4 rfl 2 rfl
  have x3 : w84.cell? ⟨B84, 3, none⟩ = some (.int .i64 wx.mode) := HS84.out.at 4 rfl 3 rfl
  have g0 : w84.cell? ⟨b3, 0, none⟩ = some (.int .i64 g.tx) := HS84.out.at 1 rfl 0 rfl
  have g1 : w84.cell? ⟨b3, 1, none⟩ = some (.int .i64 g.page) := HS84.out.at 1 rfl 1 rfl
  have g2 : w84.cell? ⟨b3, 2, none⟩ = some (.int .i64 g.slot) := HS84.out.at 1 rfl 2 rfl
  have g3 : w84.cell? ⟨b3, 3, none⟩ = some (.int .i64 g.mode) := HS84.out.at 1 rfl 3 rfl
  cases hsv : sameV wx g
  ·have HE : Hid (rq = (tbNil, false, 15)) := Lib.hid (by rw [hsv] at hsm; rw [HD.out, ← hsm]; simp)
   rw [hsv] at hqe
   clear hsv hsm
   go_upto_region 7 with (fail)
   clear x0 x1 x2 x3 g0 g1 g2 g3 hqe
   go_wp2_with (first | ((with_reducible refine wpList_build_v (d := some 31) 25 (.agg (tbCells (.slice none 0 0) (.slice none 0 0)).toArray) ?_ ?_); (intro W; simp only [List.map_toArray, List.map_cons, List.map_nil]; exact build_tb0 W); simp only [Act.put, List.setIfInBounds_toArray, List.set_cons_zero, List.set_cons_succ]) | ((with_reducible refine wpList_store_ob 25 (.tmp 4) b4 (tbCells (.slice none 0 0) (.slice none 0 0)) (tbCells (.slice none 0 0) (.slice none 0 0)) 25 ?_ ?_ ?_ ?_ ?_ ?_ ?_); (exact rfl); (exact rfl); (exact (HS84.out).get 2 rfl); (exact info_tb); (exact rfl); (exact (oneCell_tb _ _ _ _ _ _)); skip))
   have HS110 : Hid (Hp w [.ob (w.heap.size) 25 (tbCells (.slice a t.held.length cap) (.slice a2 t.wait.length cap2)), .ob b3 29 (grCells g), .ob b4 25 (tbCells (.slice none 0 0) (.slice none 0 0)), .rd R, .ob B84 29 (grCells wx)] (w84.setRow b4 (tbCells (.slice none 0 0) (.slice none 0 0)).toArray)) := (HS84.out).row 2 rfl (tbCells (.slice none 0 0) (.slice none 0 0))
   clear HS84
   generalize (w84.setRow b4 (tbCells (.slice none 0 0) (.slice none 0 0)).toArray) = w110 at *
   refine bodyPost_ret (results_ob_tmp2 Try.results18 _ _ b4 (tbCells (.slice none 0 0) (.slice none 0 0)) 25 _ rfl ((HS110.out).get 2 rfl) HUT.out rfl info_tb) rfl ?_
   exact TbPost3.none (by exact HE.out) (HS110.out).old
  ·have HE : Hid (rq = (t, false, 0)) := Lib.hid (by rw [hsv] at hsm; rw [HD.out, ← hsm]; simp)
   rw [hsv] at hqe
   clear hsv hsm
   go_upto_region 9 with (fail)
   clear x0 x1 x2 x3 g0 g1 g2 g3 hqe
   go_wp2_with (first | ((with_reducible refine wpList_load_ob 25 (.tmp 2) (w.heap.size) (tbCells (.slice a t.held.length cap) (.slice a2 t.wait.length cap2)) 25 HUT.out ?_ ?_ ?_ ?_ ?_); (exact rfl); (exact (HS84.out).get 0 rfl); (exact rfl); (exact info_tb); simp only [Act.put, List.setIfInBounds_toArray, List.set_cons_zero, List.set_cons_succ]) | ((with_reducible refine wpList_store_ob 25 (.tmp 4) b4 (tbCells (.slice a t.held.length cap) (.slice a2 t.wait.length cap2)) (tbCells (.slice none 0 0) (.slice none 0 0)) 25 ?_ ?_ ?_ ?_ ?_ ?_ ?_); (exact rfl); (exact rfl); (exact (HS84.out).get 2 rfl); (exact info_tb); (exact rfl); (exact (oneCell_tb _ _ _ _ _ _)); skip))
   have HS130 : Hid (Hp w [.ob (w.heap.size) 25 (tbCells (.slice a t.held.length cap) (.slice a2 t.wait.length cap2)), .ob b3 29 (grCells g), .ob b4 25 (tbCells (.slice a t.held.length cap) (.slice a2 t.wait.length cap2)), .rd R, .ob B84 29 (grCells wx)] (w84.setRow b4 (tbCells (.slice a t.held.length cap) (.slice a2 t.wait.length cap2)).toArray)) := (HS84.out).row 2 rfl (tbCells (.slice a t.held.length cap) (.slice a2 t.wait.length cap2))
   clear HS84
   generalize (w84.setRow b4 (tbCells (.slice a t.held.length cap) (.slice a2 t.wait.length cap2)).toArray) = w130 at *
   refine bodyPost_ret (results_ob_tmp2 Try.results18 _ _ b4 (tbCells (.slice a t.held.length cap) (.slice a2 t.wait.length cap2)) 25 _ rfl ((HS130.out).get 2 rfl) HUT.out rfl info_tb) rfl ?_
   exact TbPost3.same (by exact HE.out) HT.out HR.out (HS130.out).old
 case false =>
  have HAd2 := Lib.hid (fun h => HAd.out (by first | trivial | rfl) (by first | trivial | rfl) (by first | trivial | rfl) h)
  have HD2 : Hid (rq = if g.mode ≤ mo then (t, true, 0) else if t.held.length + t.wait.length = 1024 then (tbNil, false, 21) else (settleR (addedR t g), decide (g.mode ≤ modeG (settleR (addedR t g)).held g), 0)) := Lib.hid (by rw [HD.out]; simp)
  clear HD HAd HLen
  go_wp2_with fail
  by_cases hmo : g.mode ≤ mo
  ·have HE : Hid (rq = (t, true, 0)) := Lib.hid (by rw [HD2.out, if_pos hmo])
   have dm : decide (g.mode ≤ mo) = true := decide_eq_true hmo
   clear hmo HD2
   refine wp_region_held_drew (S := fun w' => w'.rangeAt w.heap.size 0 (tbCells (.slice a t.held.length cap) (.slice a2 t.wait.length cap2)) ∧ w'.rangeAt b3 0 (grCells g)) (by kernel_rfl) (⟨(fun j v hv => by rw [Nat.zero_add]; exact ((HS84.out).drew).at 0 rfl j hv), (fun j v hv => by rw [Nat.zero_add]; exact ((HS84.out).drew).at 1 rfl j hv)⟩) (fun hHeld => ?_)
   refine tk 0 qRfLk9_0 (some 34) (yieldsIf_load_mid (by rfl) 25 (.tmp 2) rfl w.heap.size (0) rfl (tbCells (.slice a t.held.length cap) (.slice a2 t.wait.length cap2)) _ (fun _ h => h.1) HUT.out rfl (info_tb)) hHeld ?_
   try simp only [z0, z1, z2, z3]
   refine tk 1 qRfLk9_1 (some 35) (v := ?q602v) (Or.inl ⟨by rfl, ?q602h⟩) hHeld ?q602r
   case q602h => (intro wq hSw; clear hSw; go_simp; try with_reducible rfl)
   try simp only [z0, z1, z2, z3]
   refine tk 2 qRfLk9_2 (some 36) (v := .int .i64 g.tx) (Or.inl ⟨by rfl, ?q603h⟩) hHeld ?q603r
   case q603h => (intro wq hSw; have lq := (hSw.2) 0 (.int .i64 g.tx) rfl; simp only [Nat.zero_add] at lq; clear hSw; go_simp; try with_reducible rfl)
   try simp only [z0, z1, z2, z3]
   refine tk 3 qRfLk9_3 (some 37) (v := ?q604v) (Or.inl ⟨by rfl, ?q604h⟩) hHeld ?q604r
   case q604h => (intro wq hSw; clear hSw; go_simp; try with_reducible rfl)
   try simp only [z0, z1, z2, z3]
   refine tk 4 qRfLk9_4 (some 38) (yieldsIf_load_mid (by rfl) 27 (.tmp 37) rfl b3 (1) rfl (lkCells g.lock) _ (fun _ h => range_part (h.2) (mid_lk g)) HUK.out rfl (info_lk)) hHeld ?_
   try simp only [z0, z1, z2, z3]
   refine tk 6 qRfLk9_5 (some 40) (v := ?q606v) (Or.inl ⟨by rfl, ?q606h⟩) hHeld ?q606r
   case q606h => (intro wq hSw; clear hSw; go_simp; try with_reducible rfl)
   try simp only [z0, z1, z2, z3]
   refine tk 7 qRfLk9_6 (some 41) (v := .int .i64 g.mode) (Or.inl ⟨by rfl, ?q607h⟩) hHeld ?q607r
   case q607h => (intro wq hSw; have lq := (hSw.2) 3 (.int .i64 g.mode) rfl; simp only [Nat.zero_add] at lq; clear hSw; go_simp; try with_reducible rfl)
   try simp only [z0, z1, z2, z3]
   refine tn 5 qRfLk9_7 (fun K hK => ?_)
   go_simp
   go_wp2_with (go_at_call 38; refine (HMo.out _ ((HS84.out).drew).old).mono ?_; rintro e w150 ⟨rfl, hb⟩)
   have HS150 := Lib.hid (((HS84.out).drew).calls hb)
   refine hK.out _ _ (⟨(fun j v hv => by rw [Nat.zero_add]; exact (HS150.out).at 0 rfl j hv), (fun j v hv => by rw [Nat.zero_add]; exact (HS150.out).at 1 rfl j hv)⟩) (fun hHeld => ?_)
   clear hK K hb
   try simp only [z0, z1, z2, z3]
   refine tk 8 qRfLk9_8 (some 42) (v := .bool true) (Or.inl ⟨by rfl, ?q608h⟩) hHeld ?q608r
   case q608h => (intro wq hSw; clear hSw; go_simp; try with_reducible rfl)
   try simp only [z0, z1, z2, z3]
   refine wpAnyH_done (by kernel_rfl) ?_ _
   clear hHeld
   go_wp2_with (first | ((with_reducible refine wpList_load_ob 25 (.tmp 2) (w.heap.size) (tbCells (.slice a t.held.length cap) (.slice a2 t.wait.length cap2)) 25 HUT.out ?_ ?_ ?_ ?_ ?_); (exact rfl); (exact (HS150.out).get 0 rfl); (exact rfl); (exact info_tb); simp only [Act.put, List.setIfInBounds_toArray, List.set_cons_zero, List.set_cons_succ]) | ((with_reducible refine wpList_store_ob 25 (.tmp 4) b4 (tbCells (.slice a t.held.length cap) (.slice a2 t.wait.length cap2)) (tbCells (.slice none 0 0) (.slice none 0 0)) 25 ?_ ?_ ?_ ?_ ?_ ?_ ?_); (exact rfl); (exact rfl); (exact (HS150.out).get 2 rfl); (exact info_tb); (exact rfl); (exact (oneCell_tb _ _ _ _ _ _)); skip))
   have HS176 : Hid (Hp w [.ob (w.heap.size) 25 (tbCells (.slice a t.held.length cap) (.slice a2 t.wait.length cap2)), .ob b3 29 (grCells g), .ob b4 25 (tbCells (.slice a t.held.length cap) (.slice a2 t.wait.length cap2)), .rd R, .ob B84 29 (grCells wx)] (w150.setRow b4 (tbCells (.slice a t.held.length cap) (.slice a2 t.wait.length cap2)).toArray)) := (HS150.out).row 2 rfl (tbCells (.slice a t.held.length cap) (.slice a2 t.wait.length cap2))
   clear HS150
   generalize (w150.setRow b4 (tbCells (.slice a t.held.length cap) (.slice a2 t.wait.length cap2)).toArray) = w176 at *
   refine bodyPost_ret (results_ob_tmp2 Try.results18 _ _ b4 (tbCells (.slice a t.held.length cap) (.slice a2 t.wait.length cap2)) 25 _ rfl ((HS176.out).get 2 rfl) HUT.out rfl info_tb) rfl ?_
   exact TbPost3.same (by exact HE.out) HT.out HR.out (HS176.out).old
  have HD3 : Hid (rq = if t.held.length + t.wait.length = 1024 then (tbNil, false, 21) else (settleR (addedR t g), decide (g.mode ≤ modeG (settleR (addedR t g)).held g), 0)) := Lib.hid (by rw [HD2.out, if_neg hmo])
  have HIn := Lib.hid (HAd2.out (by omega))
  have dm : decide (g.mode ≤ mo) = false := decide_eq_false hmo
  clear hmo HD2 HAd2
  refine wp_region_held_drew (S := fun w' => w'.rangeAt w.heap.size 0 (tbCells (.slice a t.held.length cap) (.slice a2 t.wait.length cap2)) ∧ w'.rangeAt b3 0 (grCells g)) (by kernel_rfl) (⟨(fun j v hv => by rw [Nat.zero_add]; exact ((HS84.out).drew).at 0 rfl j hv), (fun j v hv => by rw [Nat.zero_add]; exact ((HS84.out).drew).at 1 rfl j hv)⟩) (fun hHeld => ?_)
  refine tk 0 qRfLk9_0 (some 34) (yieldsIf_load_mid (by rfl) 25 (.tmp 2) rfl w.heap.size (0) rfl (tbCells (.slice a t.held.length cap) (.slice a2 t.wait.length cap2)) _ (fun _ h => h.1) HUT.out rfl (info_tb)) hHeld ?_
  try simp only [z0, z1, z2, z3]
  refine tk 1 qRfLk9_1 (some 35) (v := ?q702v) (Or.inl ⟨by rfl, ?q702h⟩) hHeld ?q702r
  case q702h => (intro wq hSw; clear hSw; go_simp; try with_reducible rfl)
  try simp only [z0, z1, z2, z3]
  refine tk 2 qRfLk9_2 (some 36) (v := .int .i64 g.tx) (Or.inl ⟨by rfl, ?q703h⟩) hHeld ?q703r
  case q703h => (intro wq hSw; have lq := (hSw.2) 0 (.int .i64 g.tx) rfl; simp only [Nat.zero_add] at lq; clear hSw; go_simp; try with_reducible rfl)
  try simp only [z0, z1, z2, z3]
  refine tk 3 qRfLk9_3 (some 37) (v := ?q704v) (Or.inl ⟨by rfl, ?q704h⟩) hHeld ?q704r
  case q704h => (intro wq hSw; clear hSw; go_simp; try with_reducible rfl)
  try simp only [z0, z1, z2, z3]
  refine tk 4 qRfLk9_4 (some 38) (yieldsIf_load_mid (by rfl) 27 (.tmp 37) rfl b3 (1) rfl (lkCells g.lock) _ (fun _ h => range_part (h.2) (mid_lk g)) HUK.out rfl (info_lk)) hHeld ?_
  try simp only [z0, z1, z2, z3]
  refine tk 6 qRfLk9_5 (some 40) (v := ?q706v) (Or.inl ⟨by rfl, ?q706h⟩) hHeld ?q706r
  case q706h => (intro wq hSw; clear hSw; go_simp; try with_reducible rfl)
  try simp only [z0, z1, z2, z3]
  refine tk 7 qRfLk9_6 (some 41) (v := .int .i64 g.mode) (Or.inl ⟨by rfl, ?q707h⟩) hHeld ?q707r
  case q707h => (intro wq hSw; have lq := (hSw.2) 3 (.int .i64 g.mode) rfl; simp only [Nat.zero_add] at lq; clear hSw; go_simp; try with_reducible rfl)
  try simp only [z0, z1, z2, z3]
  refine tn 5 qRfLk9_7 (fun K hK => ?_)
  go_simp
  go_wp2_with (go_at_call 38; refine (HMo.out _ ((HS84.out).drew).old).mono ?_; rintro e w196 ⟨rfl, hb⟩)
  have HS196 := Lib.hid (((HS84.out).drew).calls hb)
  refine hK.out _ _ (⟨(fun j v hv => by rw [Nat.zero_add]; exact (HS196.out).at 0 rfl j hv), (fun j v hv => by rw [Nat.zero_add]; exact (HS196.out).at 1 rfl j hv)⟩) (fun hHeld => ?_)
  clear hK K hb
  try simp only [z0, z1, z2, z3]
  refine tk 8 qRfLk9_8 (some 42) (v := .bool false) (Or.inl ⟨by rfl, ?q708h⟩) hHeld ?q708r
  case q708h => (intro wq hSw; clear hSw; go_simp; try with_reducible rfl)
  try simp only [z0, z1, z2, z3]
  refine wpAnyH_done (by kernel_rfl) ?_ _
  clear hHeld HMo
  have b0 : w196.cell? ⟨w.heap.size, 0, none⟩ = some (.slice a t.held.length cap) := HS196.out.at 0 rfl 0 rfl
  have b1 : w196.cell? ⟨w.heap.size, 1, none⟩ = some (.slice a2 t.wait.length cap2) := HS196.out.at 0 rfl 1 rfl
  have hl0 : (0 : Int) ≤ (t.held.length : Int) := by omega
  have hl1 : (0 : Int) ≤ (t.wait.length : Int) := by omega
  have hsum : IntKind.i64.wrap ((t.held.length : Int) + (t.wait.length : Int)) = (t.held.length : Int) + (t.wait.length : Int) := IntWalk.i64_in _ (by have := HLn.out; omega)
  by_cases hfl : t.held.length + t.wait.length = 1024
  ·have HE : Hid (rq = (tbNil, false, 21)) := Lib.hid (by rw [HD3.out, if_pos hfl])
   have e1 : ((t.held.length : Int) + (t.wait.length : Int) == 1024) = true := by simp; omega
   clear hfl HD3
   go_upto_region 13 with (fail)
   clear b0 b1 hsum e1
   go_wp2_with (first | ((with_reducible refine wpList_build_v (d := some 52) 25 (.agg (tbCells (.slice none 0 0) (.slice none 0 0)).toArray) ?_ ?_); (intro W; simp only [List.map_toArray, List.map_cons, List.map_nil]; exact build_tb0 W); simp only [Act.put, List.setIfInBounds_toArray, List.set_cons_zero, List.set_cons_succ]) | ((with_reducible refine wpList_store_ob 25 (.tmp 4) b4 (tbCells (.slice none 0 0) (.slice none 0 0)) (tbCells (.slice none 0 0) (.slice none 0 0)) 25 ?_ ?_ ?_ ?_ ?_ ?_ ?_); (exact rfl); (exact rfl); (exact (HS196.out).get 2 rfl); (exact info_tb); (exact rfl); (exact (oneCell_tb _ _ _ _ _ _)); skip))
   have HS222 : Hid (Hp w [.ob (w.heap.size) 25 (tbCells (.slice a t.held.length cap) (.slice a2 t.wait.length cap2)), .ob b3 29 (grCells g), .ob b4 25 (tbCells (.slice none 0 0) (.slice none 0 0)), .rd R, .ob B84 29 (grCells wx)] (w196.setRow b4 (tbCells (.slice none 0 0) (.slice none 0 0)).toArray)) := (HS196.out).row 2 rfl (tbCells (.slice none 0 0) (.slice none 0 0))
   clear HS196
   generalize (w196.setRow b4 (tbCells (.slice none 0 0) (.slice none 0 0)).toArray) = w222 at *
   refine bodyPost_ret (results_ob_tmp2 Try.results18 _ _ b4 (tbCells (.slice none 0 0) (.slice none 0 0)) 25 _ rfl ((HS222.out).get 2 rfl) HUT.out rfl info_tb) rfl ?_
   exact TbPost3.none (by exact HE.out) (HS222.out).old
  have HE : Hid (rq = (settleR (addedR t g), decide (g.mode ≤ modeG (settleR (addedR t g)).held g), 0)) := Lib.hid (by rw [HD3.out, if_neg hfl])
  have e1 : ((t.held.length : Int) + (t.wait.length : Int) == 1024) = false := by simp; omega
  clear hfl HD3
  have g0 : w196.cell? ⟨b3, 0, none⟩ = some (.int .i64 g.tx) := HS196.out.at 1 rfl 0 rfl
  have g1 : w196.cell? ⟨b3, 1, none⟩ = some (.int .i64 g.page) := HS196.out.at 1 rfl 1 rfl
  have g2 : w196.cell? ⟨b3, 2, none⟩ = some (.int .i64 g.slot) := HS196.out.at 1 rfl 2 rfl
  have g3 : w196.cell? ⟨b3, 3, none⟩ = some (.int .i64 g.mode) := HS196.out.at 1 rfl 3 rfl
  go_wp2_with fail
  clear hsum e1
  refine (HPl.out _ HS196.out.old).mono ?_
  rintro e w222 ⟨rfl, hb⟩
  have HQ222 := Lib.hid (HS196.out.calls hb)
  clear hb b0 b1 g0 g1 g2 g3 HPl HS196
  go_wp2_with fail
  have hpl := place_le t.held t.wait g
  have HAe := Lib.hid (added_eq t g)
  obtain ⟨p, hp⟩ : ∃ p, wplaceR t.held t.wait g = p := ⟨_, rfl⟩
  rw [hp] at hpl HAe
  simp only [hp]
  clear hp
  obtain ⟨l6, hl6⟩ : ∃ l6, t.wait.take p ++ ([g] ++ t.wait.drop p) = l6 := ⟨_, rfl⟩
  have HL6 := Lib.hid hl6
  rw [hl6] at HAe
  obtain ⟨R5, ht5, hi5, hs5⟩ := gr_take HT.out.2 p hpl
  obtain ⟨R6, ht6, hi6, hs6⟩ := gr_drop HT.out.2 p hpl
  have HT5 := Lib.hid ht5
  have HI5 := Lib.hid hi5
  have HT6 := Lib.hid ht6
  have HI6 := Lib.hid hi6
  have hcw : (t.wait.length : Int) ≤ (cap2 : Int) := by omega
  have hpi : (p : Int) ≤ (t.wait.length : Int) := by omega
  have hpc : (p : Int) ≤ (cap2 : Int) := by omega
  have hp0 : (0 : Int) ≤ (p : Int) := by omega
  have HN0 := Lib.hid (HQ222.out.nil 29 4)
  clear ht5 hi5 hs5 ht6 hi6 hs6 hl6 HQ222
  go_cut [] (fun wz => ∃ (a6 : Option Addr) (c6 : Nat) (R7 : List Rng), GrRd (.slice a6 l6.length c6) l6 R7 ∧ (∀ r ∈ R7, w.heap.size ≤ r.1) ∧ Hp w [.ob (w.heap.size) 25 (tbCells (.slice a t.held.length cap) (.slice a6 l6.length c6)), .ob b3 29 (grCells g), .ob b4 25 (tbCells (.slice none 0 0) (.slice none 0 0)), .rd R, .ob B84 29 (grCells wx), .rd R7] wz)
  case first =>
   refine wp_region_held_drew (S := fun w' => w'.rangeAt b3 0 (grCells g)) (by kernel_rfl) ((fun j v hv => by rw [Nat.zero_add]; exact ((HN0.out).drew).at 1 rfl j hv)) (fun hHeld => ?_)
   refine tk 0 qRfLk9_9 (some 56) (v := ?q901v) (Or.inl ⟨by rfl, ?q901h⟩) hHeld ?q901r
   case q901h => (intro wq hSw; clear hSw; go_simp; try with_reducible rfl)
   try simp only [z0, z1, z2, z3]
   refine tk 2 qRfLk9_10 (some 58) (v := ?q902v) (Or.inl ⟨by rfl, ?q902h⟩) hHeld ?q902r
   case q902h => (intro wq hSw; clear hSw; go_simp; try with_reducible rfl)
   try simp only [z0, z1, z2, z3]
   refine tk 5 qRfLk9_11 (some 61) (yieldsIf_load_mid (by rfl) 29 (.tmp 3) rfl b3 (0) rfl (grCells g) _ (fun _ h => h) HUG.out rfl (info_gr)) hHeld ?_
   try simp only [z0, z1, z2, z3]
   refine tk 8 qRfLk9_12 (some 64) (v := ?q904v) (Or.inl ⟨by rfl, ?q904h⟩) hHeld ?q904r
   case q904h => (intro wq hSw; clear hSw; go_simp; try with_reducible rfl)
   try simp only [z0, z1, z2, z3]
   refine tk 10 qRfLk9_13 (some 66) (v := ?q905v) (Or.inl ⟨by rfl, ?q905h⟩) hHeld ?q905r
   case q905h => (intro wq hSw; clear hSw; go_simp; try with_reducible rfl)
   try simp only [z0, z1, z2, z3]
   refine wpAnyH_ready (rs := [1, 6, 9]) (by kernel_rfl) (by simp) ?_
   refine AllReadyH.cons (o := qRfLk9_14) rfl (fun K hK => ?_) (AllReadyH.cons (o := qRfLk9_15) rfl (fun K hK => ?_) (AllReadyH.cons (o := qRfLk9_16) rfl (fun K hK => ?_) (AllReadyH.nil)))
   ·have q0 := ((HN0.out).drew).at 0 rfl 1 rfl
    go_simp
    clear q0
    have HS243 : Hid (Hp w [.ob (w.heap.size) 25 (tbCells (.slice a t.held.length cap) (.slice a2 t.wait.length cap2)), .ob b3 29 (grCells g), .ob b4 25 (tbCells (.slice none 0 0) (.slice none 0 0)), .rd R, .ob B84 29 (grCells wx), .sl ((.slice none 0 0)) 29 4 (0) ([])] (w222.drew)) := (HN0.out).drew
    refine hK.out _ _ ((fun j v hv => by rw [Nat.zero_add]; exact (HS243.out).at 1 rfl j hv)) (fun hHeld => ?_)
    clear hK K
    generalize w222.drew = w243 at *
    try simp only [z0, z1, z2, z3]
    refine tk 3 qRfLk9_17 (some 59) (v := .slice a2 p cap2) (Or.inl ⟨by rfl, ?q906h⟩) hHeld ?q906r
    case q906h => (intro wq hSw; clear hSw; go_simp; try with_reducible rfl)
    try simp only [z0, z1, z2, z3]
    refine wpAnyH_ready (rs := [4, 6, 9]) (by kernel_rfl) (by simp) ?_
    refine AllReadyH.cons (o := qRfLk9_18) rfl (fun K hK => ?_) (AllReadyH.cons (o := qRfLk9_15) rfl (fun K hK => ?_) (AllReadyH.cons (o := qRfLk9_16) rfl (fun K hK => ?_) (AllReadyH.nil)))
    ·rw [if_pos (by rfl)]
     refine wp_append_sl (HS243.out) (.const (.slice none 0 0)) (.tmp 59) 23 rfl 5 (v := .slice none 0 0) (n := 0) (xs := []) rfl (xv := .slice a2 p cap2) (m := (t.wait.take p).length) (ys := grRow (t.wait.take p)) (R := R5) HT5.out (HI5.out _ ((HS243.out).reads 3 rfl)) HUX.out elem_gr rfl rfl (one_grs _) (by have := HLn.out; rw [List.length_take]; omega) ?_
     intro v5 w244 hs
     have hs2 : Hp w [.ob (w.heap.size) 25 (tbCells (.slice a t.held.length cap) (.slice a2 t.wait.length cap2)), .ob b3 29 (grCells g), .ob b4 25 (tbCells (.slice none 0 0) (.slice none 0 0)), .rd R, .ob B84 29 (grCells wx), .sl v5 29 4 ((t.wait.take p).length) (grRow (t.wait.take p))] w244 := by
      have h9 := hs
      simp only [Nat.zero_add, List.nil_append] at h9
      exact h9
     clear hs
     have HS244 : Hid (Hp w [.ob (w.heap.size) 25 (tbCells (.slice a t.held.length cap) (.slice a2 t.wait.length cap2)), .ob b3 29 (grCells g), .ob b4 25 (tbCells (.slice none 0 0) (.slice none 0 0)), .rd R, .ob B84 29 (grCells wx), .sl v5 29 4 ((t.wait.take p).length) (grRow (t.wait.take p))] w244) := hs2
     refine hK.out _ _ ((fun j v hv => by rw [Nat.zero_add]; exact (HS244.out).at 1 rfl j hv)) (fun hHeld => ?_)
     clear hK K hs2
     try simp only [z0, z1, z2, z3]
     refine wpAnyH_ready (rs := [6, 9]) (by kernel_rfl) (by simp) ?_
     refine AllReadyH.cons (o := qRfLk9_15) rfl (fun K hK => ?_) (AllReadyH.cons (o := qRfLk9_16) rfl (fun K hK => ?_) (AllReadyH.nil))
     ·rw [if_pos (by rfl)]
      refine wp_build_obs rfl elem_gr HUX.out [grCells g] (List.forall_mem_cons.2 ⟨rfl, (fun _ h => absurd h List.not_mem_nil)⟩) (Nat.succ_pos _) (by simp only [List.length_cons, List.length_nil]; omega) rfl (by simp only [List.map_toArray, List.map_cons, List.map_nil, List.zipIdx_cons, List.zipIdx_nil]; exact rfl) ?_
      have HS245 : Hid (Hp w [.ob (w.heap.size) 25 (tbCells (.slice a t.held.length cap) (.slice a2 t.wait.length cap2)), .ob b3 29 (grCells g), .ob b4 25 (tbCells (.slice none 0 0) (.slice none 0 0)), .rd R, .ob B84 29 (grCells wx), .sl v5 29 4 ((t.wait.take p).length) (grRow (t.wait.take p)), .ob (w244.heap.size) 29 (([grCells g] : List (List Value)).flatMap id)] (w244.alloc (.cells (([grCells g] : List (List Value)).flatMap id).toArray 29))) := (HS244.out).put 29 (([grCells g] : List (List Value)).flatMap id)
      refine hK.out _ _ ((fun j v hv => by rw [Nat.zero_add]; exact (HS245.out).at 1 rfl j hv)) (fun hHeld => ?_)
      clear hK K
      generalize (w244.alloc (.cells (([grCells g] : List (List Value)).flatMap id).toArray 29)) = w245 at *
      generalize w244.heap.size = B243 at *
      try simp only [z0, z1, z2, z3]
      refine wpAnyH_ready (rs := [7, 9]) (by kernel_rfl) (by simp) ?_
      refine AllReadyH.cons (o := qRfLk9_19) rfl (fun K hK => ?_) (AllReadyH.cons (o := qRfLk9_16) rfl (fun K hK => ?_) (AllReadyH.nil))
      ·rw [if_pos (by rfl)]
       refine wp_append_hp (HS245.out) (.tmp 60) (.tmp 62) 23 rfl 5 rfl 6 rfl HUX.out elem_gr 1 1 rfl rfl rfl (by intro u hu; simp only [List.flatMap_cons, List.flatMap_nil, List.append_nil, id] at hu; exact one_gr _ u hu) (by have := HLn.out; rw [List.length_take]; omega) ?_
       intro v246 w246 hs hnil
       have HS247 : Hid (Hp w [.ob (w.heap.size) 25 (tbCells (.slice a t.held.length cap) (.slice a2 t.wait.length cap2)), .ob b3 29 (grCells g), .ob b4 25 (tbCells (.slice none 0 0) (.slice none 0 0)), .rd R, .ob B84 29 (grCells wx), .sl v246 29 4 ((t.wait.take p).length + 1) ((grRow (t.wait.take p)) ++ (([grCells g] : List (List Value)).flatMap id)), .ob B243 29 (([grCells g] : List (List Value)).flatMap id)] w246) := hs
       refine hK.out _ _ ((fun j v hv => by rw [Nat.zero_add]; exact (HS247.out).at 1 rfl j hv)) (fun hHeld => ?_)
       clear hK K hs
       try simp only [z0, z1, z2, z3]
       refine tn 9 qRfLk9_16 (fun K hK => ?_)
       have q0 := (HS247.out).at 0 rfl 1 rfl
       go_simp
       clear q0
       have HS248 := HS247
       refine hK.out _ _ ((fun j v hv => by rw [Nat.zero_add]; exact (HS248.out).at 1 rfl j hv)) (fun hHeld => ?_)
       clear hK K
       try simp only [z0, z1, z2, z3]
       refine tk 11 qRfLk9_20 (some 67) (v := .slice (if cap2 = p then a2 else Option.map (fun x => Addr.add x (p * 4)) a2) (t.wait.length - p) (cap2 - p)) (Or.inl ⟨by rfl, ?q907h⟩) hHeld ?q907r
       case q907h => (intro wq hSw; clear hSw; go_simp; try with_reducible rfl)
       try simp only [z0, z1, z2, z3]
       refine tn 12 qRfLk9_21 (fun K hK => ?_)
       rw [if_pos (by rfl)]
       refine wp_append_sl (HS248.out) (.tmp 63) (.tmp 67) 23 rfl 5 (v := v246) (n := (t.wait.take p).length + 1) (xs := (grRow (t.wait.take p)) ++ (([grCells g] : List (List Value)).flatMap id)) rfl (xv := .slice (if cap2 = p then a2 else Option.map (fun x => Addr.add x (p * 4)) a2) (t.wait.length - p) (cap2 - p)) (m := (t.wait.drop p).length) (ys := grRow (t.wait.drop p)) (R := R6) HT6.out (HI6.out _ ((HS248.out).reads 3 rfl)) HUX.out elem_gr rfl rfl (one_grs _) (by have := HLn.out; rw [List.length_take, List.length_drop]; omega) ?_
       intro v6 w247 hs
       have hs2 : Hp w [.ob (w.heap.size) 25 (tbCells (.slice a t.held.length cap) (.slice a2 t.wait.length cap2)), .ob b3 29 (grCells g), .ob b4 25 (tbCells (.slice none 0 0) (.slice none 0 0)), .rd R, .ob B84 29 (grCells wx), .sl v6 29 4 (l6.length) (grRow l6), .ob B243 29 (([grCells g] : List (List Value)).flatMap id)] w247 := by
        rw [← HL6.out, grRow_append, grRow_append, grRow_one, List.length_append, List.length_append, ← List.append_assoc, ← Nat.add_assoc]
        exact hs
       clear hs
       have HS249 : Hid (Hp w [.ob (w.heap.size) 25 (tbCells (.slice a t.held.length cap) (.slice a2 t.wait.length cap2)), .ob b3 29 (grCells g), .ob b4 25 (tbCells (.slice none 0 0) (.slice none 0 0)), .rd R, .ob B84 29 (grCells wx), .sl v6 29 4 (l6.length) (grRow l6), .ob B243 29 (([grCells g] : List (List Value)).flatMap id)] w247) := hs2
       refine hK.out _ _ ((fun j v hv => by rw [Nat.zero_add]; exact (HS249.out).at 1 rfl j hv)) (fun hHeld => ?_)
       clear hK K hs2
       try simp only [z0, z1, z2, z3]
       refine tk 13 qRfLk9_22 (some 69) (v := ?q908v) (Or.inl ⟨by rfl, ?q908h⟩) hHeld ?q908r
       case q908h => (intro wq hSw; clear hSw; go_simp; try with_reducible rfl)
       try simp only [z0, z1, z2, z3]
       refine tn 14 qRfLk9_23 (fun K hK => ?_)
       rw [if_pos (by rfl)]
       obtain ⟨a6, c6, rfl⟩ := own_slice ((HS249.out).own 5 rfl)
       have q5 := (HS249.out).at 0 rfl 1 rfl
       have f5 := (HS249.out).frozen 0 rfl 1
       go_simp
       clear q5 f5
       have HS250 : Hid (Hp w [.ob (w.heap.size) 25 (tbCells (.slice a t.held.length cap) (.slice a6 l6.length c6)), .ob b3 29 (grCells g), .ob b4 25 (tbCells (.slice none 0 0) (.slice none 0 0)), .rd R, .ob B84 29 (grCells wx), .sl ((.slice a6 l6.length c6)) 29 4 (l6.length) (grRow l6), .ob B243 29 (([grCells g] : List (List Value)).flatMap id)] (w247.setCell ⟨w.heap.size, 1, none⟩ (.slice a6 l6.length c6))) := (HS249.out).set 0 rfl 1 (.slice a6 l6.length c6)
       refine hK.out _ _ ((fun j v hv => by rw [Nat.zero_add]; exact (HS250.out).at 1 rfl j hv)) (fun hHeld => ?_)
       clear hK K
       generalize (w247.setCell ⟨w.heap.size, 1, none⟩ (.slice a6 l6.length c6)) = w248 at *
       try simp only [z0, z1, z2, z3]
       refine wpAnyH_done (by kernel_rfl) ?_ _
       clear hHeld
       generalize (if cap2 = p then a2 else Option.map (fun x => Addr.add x (p * 4)) a2) = ap9 at *
       have HS251 : Hid (Hp w [.ob (w.heap.size) 25 (tbCells (.slice a t.held.length cap) (.slice a6 l6.length c6)), .ob b3 29 (grCells g), .ob b4 25 (tbCells (.slice none 0 0) (.slice none 0 0)), .rd R, .ob B84 29 (grCells wx), .sl ((.slice a6 l6.length c6)) 29 4 (l6.length) (grRow l6)] w248) := HS250.out.pull [0, 1, 2, 3, 4, 5] rfl (pull_nd HS250.out.nd [0, 1, 2, 3, 4, 5] rfl (by decide))
       clear HS250
       obtain ⟨R7, h7, hn7, hs7⟩ := Hp.ownrd2 (A := [.ob (w.heap.size) 25 (tbCells (.slice a t.held.length cap) (.slice a6 l6.length c6)), .ob b3 29 (grCells g), .ob b4 25 (tbCells (.slice none 0 0) (.slice none 0 0)), .rd R, .ob B84 29 (grCells wx)]) HS251.out
       go_wp2_with fail
       go_meet
       exact ⟨a6, c6, R7, h7, hn7, hs7⟩
      ·have q0 := (HS245.out).at 0 rfl 1 rfl
       go_simp
       clear q0
       have HS246 := HS245
       refine hK.out _ _ ((fun j v hv => by rw [Nat.zero_add]; exact (HS246.out).at 1 rfl j hv)) (fun hHeld => ?_)
       clear hK K
       try simp only [z0, z1, z2, z3]
       refine tk 11 qRfLk9_20 (some 67) (v := .slice (if cap2 = p then a2 else Option.map (fun x => Addr.add x (p * 4)) a2) (t.wait.length - p) (cap2 - p)) (Or.inl ⟨by rfl, ?q909h⟩) hHeld ?q909r
       case q909h => (intro wq hSw; clear hSw; go_simp; try with_reducible rfl)
       try simp only [z0, z1, z2, z3]
       refine tn 7 qRfLk9_19 (fun K hK => ?_)
       rw [if_pos (by rfl)]
       refine wp_append_hp (HS246.out) (.tmp 60) (.tmp 62) 23 rfl 5 rfl 6 rfl HUX.out elem_gr 1 1 rfl rfl rfl (by intro u hu; simp only [List.flatMap_cons, List.flatMap_nil, List.append_nil, id] at hu; exact one_gr _ u hu) (by have := HLn.out; rw [List.length_take]; omega) ?_
       intro v246 w246 hs hnil
       have HS248 : Hid (Hp w [.ob (w.heap.size) 25 (tbCells (.slice a t.held.length cap) (.slice a2 t.wait.length cap2)), .ob b3 29 (grCells g), .ob b4 25 (tbCells (.slice none 0 0) (.slice none 0 0)), .rd R, .ob B84 29 (grCells wx), .sl v246 29 4 ((t.wait.take p).length + 1) ((grRow (t.wait.take p)) ++ (([grCells g] : List (List Value)).flatMap id)), .ob B243 29 (([grCells g] : List (List Value)).flatMap id)] w246) := hs
       refine hK.out _ _ ((fun j v hv => by rw [Nat.zero_add]; exact (HS248.out).at 1 rfl j hv)) (fun hHeld => ?_)
       clear hK K hs
       try simp only [z0, z1, z2, z3]
       refine tn 12 qRfLk9_21 (fun K hK => ?_)
       rw [if_pos (by rfl)]
       refine wp_append_sl (HS248.out) (.tmp 63) (.tmp 67) 23 rfl 5 (v := v246) (n := (t.wait.take p).length + 1) (xs := (grRow (t.wait.take p)) ++ (([grCells g] : List (List Value)).flatMap id)) rfl (xv := .slice (if cap2 = p then a2 else Option.map (fun x => Addr.add x (p * 4)) a2) (t.wait.length - p) (cap2 - p)) (m := (t.wait.drop p).length) (ys := grRow (t.wait.drop p)) (R := R6) HT6.out (HI6.out _ ((HS248.out).reads 3 rfl)) HUX.out elem_gr rfl rfl (one_grs _) (by have := HLn.out; rw [List.length_take, List.length_drop]; omega) ?_
       intro v6 w247 hs
       have hs2 : Hp w [.ob (w.heap.size) 25 (tbCells (.slice a t.held.length cap) (.slice a2 t.wait.length cap2)), .ob b3 29 (grCells g), .ob b4 25 (tbCells (.slice none 0 0) (.slice none 0 0)), .rd R, .ob B84 29 (grCells wx), .sl v6 29 4 (l6.length) (grRow l6), .ob B243 29 (([grCells g] : List (List Value)).flatMap id)] w247 := by
        rw [← HL6.out, grRow_append, grRow_append, grRow_one, List.length_append, List.length_append, ← List.append_assoc, ← Nat.add_assoc]
        exact hs
       clear hs
       have HS249 : Hid (Hp w [.ob (w.heap.size) 25 (tbCells (.slice a t.held.length cap) (.slice a2 t.wait.length cap2)), .ob b3 29 (grCells g), .ob b4 25 (tbCells (.slice none 0 0) (.slice none 0 0)), .rd R, .ob B84 29 (grCells wx), .sl v6 29 4 (l6.length) (grRow l6), .ob B243 29 (([grCells g] : List (List Value)).flatMap id)] w247) := hs2
       refine hK.out _ _ ((fun j v hv => by rw [Nat.zero_add]; exact (HS249.out).at 1 rfl j hv)) (fun hHeld => ?_)
       clear hK K hs2
       try simp only [z0, z1, z2, z3]
       refine tk 13 qRfLk9_22 (some 69) (v := ?q910v) (Or.inl ⟨by rfl, ?q910h⟩) hHeld ?q910r
       case q910h => (intro wq hSw; clear hSw; go_simp; try with_reducible rfl)
       try simp only [z0, z1, z2, z3]
       refine tn 14 qRfLk9_23 (fun K hK => ?_)
       rw [if_pos (by rfl)]
       obtain ⟨a6, c6, rfl⟩ := own_slice ((HS249.out).own 5 rfl)
       have q5 := (HS249.out).at 0 rfl 1 rfl
       have f5 := (HS249.out).frozen 0 rfl 1
       go_simp
       clear q5 f5
       have HS250 : Hid (Hp w [.ob (w.heap.size) 25 (tbCells (.slice a t.held.length cap) (.slice a6 l6.length c6)), .ob b3 29 (grCells g), .ob b4 25 (tbCells (.slice none 0 0) (.slice none 0 0)), .rd R, .ob B84 29 (grCells wx), .sl ((.slice a6 l6.length c6)) 29 4 (l6.length) (grRow l6), .ob B243 29 (([grCells g] : List (List Value)).flatMap id)] (w247.setCell ⟨w.heap.size, 1, none⟩ (.slice a6 l6.length c6))) := (HS249.out).set 0 rfl 1 (.slice a6 l6.length c6)
       refine hK.out _ _ ((fun j v hv => by rw [Nat.zero_add]; exact (HS250.out).at 1 rfl j hv)) (fun hHeld => ?_)
       clear hK K
       generalize (w247.setCell ⟨w.heap.size, 1, none⟩ (.slice a6 l6.length c6)) = w248 at *
       try simp only [z0, z1, z2, z3]
       refine wpAnyH_done (by kernel_rfl) ?_ _
       clear hHeld
       generalize (if cap2 = p then a2 else Option.map (fun x => Addr.add x (p * 4)) a2) = ap9 at *
       have HS251 : Hid (Hp w [.ob (w.heap.size) 25 (tbCells (.slice a t.held.length cap) (.slice a6 l6.length c6)), .ob b3 29 (grCells g), .ob b4 25 (tbCells (.slice none 0 0) (.slice none 0 0)), .rd R, .ob B84 29 (grCells wx), .sl ((.slice a6 l6.length c6)) 29 4 (l6.length) (grRow l6)] w248) := HS250.out.pull [0, 1, 2, 3, 4, 5] rfl (pull_nd HS250.out.nd [0, 1, 2, 3, 4, 5] rfl (by decide))
       clear HS250
       obtain ⟨R7, h7, hn7, hs7⟩ := Hp.ownrd2 (A := [.ob (w.heap.size) 25 (tbCells (.slice a t.held.length cap) (.slice a6 l6.length c6)), .ob b3 29 (grCells g), .ob b4 25 (tbCells (.slice none 0 0) (.slice none 0 0)), .rd R, .ob B84 29 (grCells wx)]) HS251.out
       go_wp2_with fail
       go_meet
       exact ⟨a6, c6, R7, h7, hn7, hs7⟩
     ·have q0 := (HS244.out).at 0 rfl 1 rfl
      go_simp
      clear q0
      have HS245 := HS244
      refine hK.out _ _ ((fun j v hv => by rw [Nat.zero_add]; exact (HS245.out).at 1 rfl j hv)) (fun hHeld => ?_)
      clear hK K
      try simp only [z0, z1, z2, z3]
      refine tk 11 qRfLk9_20 (some 67) (v := .slice (if cap2 = p then a2 else Option.map (fun x => Addr.add x (p * 4)) a2) (t.wait.length - p) (cap2 - p)) (Or.inl ⟨by rfl, ?q911h⟩) hHeld ?q911r
      case q911h => (intro wq hSw; clear hSw; go_simp; try with_reducible rfl)
      try simp only [z0, z1, z2, z3]
      refine tn 6 qRfLk9_15 (fun K hK => ?_)
      rw [if_pos (by rfl)]
      refine wp_build_obs rfl elem_gr HUX.out [grCells g] (List.forall_mem_cons.2 ⟨rfl, (fun _ h => absurd h List.not_mem_nil)⟩) (Nat.succ_pos _) (by simp only [List.length_cons, List.length_nil]; omega) rfl (by simp only [List.map_toArray, List.map_cons, List.map_nil, List.zipIdx_cons, List.zipIdx_nil]; exact rfl) ?_
      have HS246 : Hid (Hp w [.ob (w.heap.size) 25 (tbCells (.slice a t.held.length cap) (.slice a2 t.wait.length cap2)), .ob b3 29 (grCells g), .ob b4 25 (tbCells (.slice none 0 0) (.slice none 0 0)), .rd R, .ob B84 29 (grCells wx), .sl v5 29 4 ((t.wait.take p).length) (grRow (t.wait.take p)), .ob (w244.heap.size) 29 (([grCells g] : List (List Value)).flatMap id)] (w244.alloc (.cells (([grCells g] : List (List Value)).flatMap id).toArray 29))) := (HS245.out).put 29 (([grCells g] : List (List Value)).flatMap id)
      refine hK.out _ _ ((fun j v hv => by rw [Nat.zero_add]; exact (HS246.out).at 1 rfl j hv)) (fun hHeld => ?_)
      clear hK K
      generalize (w244.alloc (.cells (([grCells g] : List (List Value)).flatMap id).toArray 29)) = w245 at *
      generalize w244.heap.size = B243 at *
      try simp only [z0, z1, z2, z3]
      refine tn 7 qRfLk9_19 (fun K hK => ?_)
      rw [if_pos (by rfl)]
      refine wp_append_hp (HS246.out) (.tmp 60) (.tmp 62) 23 rfl 5 rfl 6 rfl HUX.out elem_gr 1 1 rfl rfl rfl (by intro u hu; simp only [List.flatMap_cons, List.flatMap_nil, List.append_nil, id] at hu; exact one_gr _ u hu) (by have := HLn.out; rw [List.length_take]; omega) ?_
      intro v246 w246 hs hnil
      have HS248 : Hid (Hp w [.ob (w.heap.size) 25 (tbCells (.slice a t.held.length cap) (.slice a2 t.wait.length cap2)), .ob b3 29 (grCells g), .ob b4 25 (tbCells (.slice none 0 0) (.slice none 0 0)), .rd R, .ob B84 29 (grCells wx), .sl v246 29 4 ((t.wait.take p).length + 1) ((grRow (t.wait.take p)) ++ (([grCells g] : List (List Value)).flatMap id)), .ob B243 29 (([grCells g] : List (List Value)).flatMap id)] w246) := hs
      refine hK.out _ _ ((fun j v hv => by rw [Nat.zero_add]; exact (HS248.out).at 1 rfl j hv)) (fun hHeld => ?_)
      clear hK K hs
      try simp only [z0, z1, z2, z3]
      refine tn 12 qRfLk9_21 (fun K hK => ?_)
      rw [if_pos (by rfl)]
      refine wp_append_sl (HS248.out) (.tmp 63) (.tmp 67) 23 rfl 5 (v := v246) (n := (t.wait.take p).length + 1) (xs := (grRow (t.wait.take p)) ++ (([grCells g] : List (List Value)).flatMap id)) rfl (xv := .slice (if cap2 = p then a2 else Option.map (fun x => Addr.add x (p * 4)) a2) (t.wait.length - p) (cap2 - p)) (m := (t.wait.drop p).length) (ys := grRow (t.wait.drop p)) (R := R6) HT6.out (HI6.out _ ((HS248.out).reads 3 rfl)) HUX.out elem_gr rfl rfl (one_grs _) (by have := HLn.out; rw [List.length_take, List.length_drop]; omega) ?_
      intro v6 w247 hs
      have hs2 : Hp w [.ob (w.heap.size) 25 (tbCells (.slice a t.held.length cap) (.slice a2 t.wait.length cap2)), .ob b3 29 (grCells g), .ob b4 25 (tbCells (.slice none 0 0) (.slice none 0 0)), .rd R, .ob B84 29 (grCells wx), .sl v6 29 4 (l6.length) (grRow l6), .ob B243 29 (([grCells g] : List (List Value)).flatMap id)] w247 := by
       rw [← HL6.out, grRow_append, grRow_append, grRow_one, List.length_append, List.length_append, ← List.append_assoc, ← Nat.add_assoc]
       exact hs
      clear hs
      have HS249 : Hid (Hp w [.ob (w.heap.size) 25 (tbCells (.slice a t.held.length cap) (.slice a2 t.wait.length cap2)), .ob b3 29 (grCells g), .ob b4 25 (tbCells (.slice none 0 0) (.slice none 0 0)), .rd R, .ob B84 29 (grCells wx), .sl v6 29 4 (l6.length) (grRow l6), .ob B243 29 (([grCells g] : List (List Value)).flatMap id)] w247) := hs2
      refine hK.out _ _ ((fun j v hv => by rw [Nat.zero_add]; exact (HS249.out).at 1 rfl j hv)) (fun hHeld => ?_)
      clear hK K hs2
      try simp only [z0, z1, z2, z3]
      refine tk 13 qRfLk9_22 (some 69) (v := ?q912v) (Or.inl ⟨by rfl, ?q912h⟩) hHeld ?q912r
      case q912h => (intro wq hSw; clear hSw; go_simp; try with_reducible rfl)
      try simp only [z0, z1, z2, z3]
      refine tn 14 qRfLk9_23 (fun K hK => ?_)
      rw [if_pos (by rfl)]
      obtain ⟨a6, c6, rfl⟩ := own_slice ((HS249.out).own 5 rfl)
      have q5 := (HS249.out).at 0 rfl 1 rfl
      have f5 := (HS249.out).frozen 0 rfl 1
      go_simp
      clear q5 f5
      have HS250 : Hid (Hp w [.ob (w.heap.size) 25 (tbCells (.slice a t.held.length cap) (.slice a6 l6.length c6)), .ob b3 29 (grCells g), .ob b4 25 (tbCells (.slice none 0 0) (.slice none 0 0)), .rd R, .ob B84 29 (grCells wx), .sl ((.slice a6 l6.length c6)) 29 4 (l6.length) (grRow l6), .ob B243 29 (([grCells g] : List (List Value)).flatMap id)] (w247.setCell ⟨w.heap.size, 1, none⟩ (.slice a6 l6.length c6))) := (HS249.out).set 0 rfl 1 (.slice a6 l6.length c6)
      refine hK.out _ _ ((fun j v hv => by rw [Nat.zero_add]; exact (HS250.out).at 1 rfl j hv)) (fun hHeld => ?_)
      clear hK K
      generalize (w247.setCell ⟨w.heap.size, 1, none⟩ (.slice a6 l6.length c6)) = w248 at *
      try simp only [z0, z1, z2, z3]
      refine wpAnyH_done (by kernel_rfl) ?_ _
      clear hHeld
      generalize (if cap2 = p then a2 else Option.map (fun x => Addr.add x (p * 4)) a2) = ap9 at *
      have HS251 : Hid (Hp w [.ob (w.heap.size) 25 (tbCells (.slice a t.held.length cap) (.slice a6 l6.length c6)), .ob b3 29 (grCells g), .ob b4 25 (tbCells (.slice none 0 0) (.slice none 0 0)), .rd R, .ob B84 29 (grCells wx), .sl ((.slice a6 l6.length c6)) 29 4 (l6.length) (grRow l6)] w248) := HS250.out.pull [0, 1, 2, 3, 4, 5] rfl (pull_nd HS250.out.nd [0, 1, 2, 3, 4, 5] rfl (by decide))
      clear HS250
      obtain ⟨R7, h7, hn7, hs7⟩ := Hp.ownrd2 (A := [.ob (w.heap.size) 25 (tbCells (.slice a t.held.length cap) (.slice a6 l6.length c6)), .ob b3 29 (grCells g), .ob b4 25 (tbCells (.slice none 0 0) (.slice none 0 0)), .rd R, .ob B84 29 (grCells wx)]) HS251.out
      go_wp2_with fail
      go_meet
      exact ⟨a6, c6, R7, h7, hn7, hs7⟩
    ·rw [if_pos (by rfl)]
     refine wp_build_obs rfl elem_gr HUX.out [grCells g] (List.forall_mem_cons.2 ⟨rfl, (fun _ h => absurd h List.not_mem_nil)⟩) (Nat.succ_pos _) (by simp only [List.length_cons, List.length_nil]; omega) rfl (by simp only [List.map_toArray, List.map_cons, List.map_nil, List.zipIdx_cons, List.zipIdx_nil]; exact rfl) ?_
     have HS244 : Hid (Hp w [.ob (w.heap.size) 25 (tbCells (.slice a t.held.length cap) (.slice a2 t.wait.length cap2)), .ob b3 29 (grCells g), .ob b4 25 (tbCells (.slice none 0 0) (.slice none 0 0)), .rd R, .ob B84 29 (grCells wx), .sl ((.slice none 0 0)) 29 4 (0) ([]), .ob (w243.heap.size) 29 (([grCells g] : List (List Value)).flatMap id)] (w243.alloc (.cells (([grCells g] : List (List Value)).flatMap id).toArray 29))) := (HS243.out).put 29 (([grCells g] : List (List Value)).flatMap id)
     refine hK.out _ _ ((fun j v hv => by rw [Nat.zero_add]; exact (HS244.out).at 1 rfl j hv)) (fun hHeld => ?_)
     clear hK K
     generalize (w243.alloc (.cells (([grCells g] : List (List Value)).flatMap id).toArray 29)) = w244 at *
     generalize w243.heap.size = B243 at *
     try simp only [z0, z1, z2, z3]
     refine wpAnyH_ready (rs := [4, 9]) (by kernel_rfl) (by simp) ?_
     refine AllReadyH.cons (o := qRfLk9_18) rfl (fun K hK => ?_) (AllReadyH.cons (o := qRfLk9_16) rfl (fun K hK => ?_) (AllReadyH.nil))
     ·rw [if_pos (by rfl)]
      refine wp_append_sl (HS244.out) (.const (.slice none 0 0)) (.tmp 59) 23 rfl 5 (v := .slice none 0 0) (n := 0) (xs := []) rfl (xv := .slice a2 p cap2) (m := (t.wait.take p).length) (ys := grRow (t.wait.take p)) (R := R5) HT5.out (HI5.out _ ((HS244.out).reads 3 rfl)) HUX.out elem_gr rfl rfl (one_grs _) (by have := HLn.out; rw [List.length_take]; omega) ?_
      intro v5 w245 hs
      have hs2 : Hp w [.ob (w.heap.size) 25 (tbCells (.slice a t.held.length cap) (.slice a2 t.wait.length cap2)), .ob b3 29 (grCells g), .ob b4 25 (tbCells (.slice none 0 0) (.slice none 0 0)), .rd R, .ob B84 29 (grCells wx), .sl v5 29 4 ((t.wait.take p).length) (grRow (t.wait.take p)), .ob B243 29 (([grCells g] : List (List Value)).flatMap id)] w245 := by
       have h9 := hs
       simp only [Nat.zero_add, List.nil_append] at h9
       exact h9
      clear hs
      have HS245 : Hid (Hp w [.ob (w.heap.size) 25 (tbCells (.slice a t.held.length cap) (.slice a2 t.wait.length cap2)), .ob b3 29 (grCells g), .ob b4 25 (tbCells (.slice none 0 0) (.slice none 0 0)), .rd R, .ob B84 29 (grCells wx), .sl v5 29 4 ((t.wait.take p).length) (grRow (t.wait.take p)), .ob B243 29 (([grCells g] : List (List Value)).flatMap id)] w245) := hs2
      refine hK.out _ _ ((fun j v hv => by rw [Nat.zero_add]; exact (HS245.out).at 1 rfl j hv)) (fun hHeld => ?_)
      clear hK K hs2
      try simp only [z0, z1, z2, z3]
      refine wpAnyH_ready (rs := [7, 9]) (by kernel_rfl) (by simp) ?_
      refine AllReadyH.cons (o := qRfLk9_19) rfl (fun K hK => ?_) (AllReadyH.cons (o := qRfLk9_16) rfl (fun K hK => ?_) (AllReadyH.nil))
      ·rw [if_pos (by rfl)]
       refine wp_append_hp (HS245.out) (.tmp 60) (.tmp 62) 23 rfl 5 rfl 6 rfl HUX.out elem_gr 1 1 rfl rfl rfl (by intro u hu; simp only [List.flatMap_cons, List.flatMap_nil, List.append_nil, id] at hu; exact one_gr _ u hu) (by have := HLn.out; rw [List.length_take]; omega) ?_
       intro v246 w246 hs hnil
       have HS247 : Hid (Hp w [.ob (w.heap.size) 25 (tbCells (.slice a t.held.length cap) (.slice a2 t.wait.length cap2)), .ob b3 29 (grCells g), .ob b4 25 (tbCells (.slice none 0 0) (.slice none 0 0)), .rd R, .ob B84 29 (grCells wx), .sl v246 29 4 ((t.wait.take p).length + 1) ((grRow (t.wait.take p)) ++ (([grCells g] : List (List Value)).flatMap id)), .ob B243 29 (([grCells g] : List (List Value)).flatMap id)] w246) := hs
       refine hK.out _ _ ((fun j v hv => by rw [Nat.zero_add]; exact (HS247.out).at 1 rfl j hv)) (fun hHeld => ?_)
       clear hK K hs
       try simp only [z0, z1, z2, z3]
       refine tn 9 qRfLk9_16 (fun K hK => ?_)
       have q0 := (HS247.out).at 0 rfl 1 rfl
       go_simp
       clear q0
       have HS248 := HS247
       refine hK.out _ _ ((fun j v hv => by rw [Nat.zero_add]; exact (HS248.out).at 1 rfl j hv)) (fun hHeld => ?_)
       clear hK K
       try simp only [z0, z1, z2, z3]
       refine tk 11 qRfLk9_20 (some 67) (v := .slice (if cap2 = p then a2 else Option.map (fun x => Addr.add x (p * 4)) a2) (t.wait.length - p) (cap2 - p)) (Or.inl ⟨by rfl, ?q913h⟩) hHeld ?q913r
       case q913h => (intro wq hSw; clear hSw; go_simp; try with_reducible rfl)
       try simp only [z0, z1, z2, z3]
       refine tn 12 qRfLk9_21 (fun K hK => ?_)
       rw [if_pos (by rfl)]
       refine wp_append_sl (HS248.out) (.tmp 63) (.tmp 67) 23 rfl 5 (v := v246) (n := (t.wait.take p).length + 1) (xs := (grRow (t.wait.take p)) ++ (([grCells g] : List (List Value)).flatMap id)) rfl (xv := .slice (if cap2 = p then a2 else Option.map (fun x => Addr.add x (p * 4)) a2) (t.wait.length - p) (cap2 - p)) (m := (t.wait.drop p).length) (ys := grRow (t.wait.drop p)) (R := R6) HT6.out (HI6.out _ ((HS248.out).reads 3 rfl)) HUX.out elem_gr rfl rfl (one_grs _) (by have := HLn.out; rw [List.length_take, List.length_drop]; omega) ?_
       intro v6 w247 hs
       have hs2 : Hp w [.ob (w.heap.size) 25 (tbCells (.slice a t.held.length cap) (.slice a2 t.wait.length cap2)), .ob b3 29 (grCells g), .ob b4 25 (tbCells (.slice none 0 0) (.slice none 0 0)), .rd R, .ob B84 29 (grCells wx), .sl v6 29 4 (l6.length) (grRow l6), .ob B243 29 (([grCells g] : List (List Value)).flatMap id)] w247 := by
        rw [← HL6.out, grRow_append, grRow_append, grRow_one, List.length_append, List.length_append, ← List.append_assoc, ← Nat.add_assoc]
        exact hs
       clear hs
       have HS249 : Hid (Hp w [.ob (w.heap.size) 25 (tbCells (.slice a t.held.length cap) (.slice a2 t.wait.length cap2)), .ob b3 29 (grCells g), .ob b4 25 (tbCells (.slice none 0 0) (.slice none 0 0)), .rd R, .ob B84 29 (grCells wx), .sl v6 29 4 (l6.length) (grRow l6), .ob B243 29 (([grCells g] : List (List Value)).flatMap id)] w247) := hs2
       refine hK.out _ _ ((fun j v hv => by rw [Nat.zero_add]; exact (HS249.out).at 1 rfl j hv)) (fun hHeld => ?_)
       clear hK K hs2
       try simp only [z0, z1, z2, z3]
       refine tk 13 qRfLk9_22 (some 69) (v := ?q914v) (Or.inl ⟨by rfl, ?q914h⟩) hHeld ?q914r
       case q914h => (intro wq hSw; clear hSw; go_simp; try with_reducible rfl)
       try simp only [z0, z1, z2, z3]
       refine tn 14 qRfLk9_23 (fun K hK => ?_)
       rw [if_pos (by rfl)]
       obtain ⟨a6, c6, rfl⟩ := own_slice ((HS249.out).own 5 rfl)
       have q5 := (HS249.out).at 0 rfl 1 rfl
       have f5 := (HS249.out).frozen 0 rfl 1
       go_simp
       clear q5 f5
       have HS250 : Hid (Hp w [.ob (w.heap.size) 25 (tbCells (.slice a t.held.length cap) (.slice a6 l6.length c6)), .ob b3 29 (grCells g), .ob b4 25 (tbCells (.slice none 0 0) (.slice none 0 0)), .rd R, .ob B84 29 (grCells wx), .sl ((.slice a6 l6.length c6)) 29 4 (l6.length) (grRow l6), .ob B243 29 (([grCells g] : List (List Value)).flatMap id)] (w247.setCell ⟨w.heap.size, 1, none⟩ (.slice a6 l6.length c6))) := (HS249.out).set 0 rfl 1 (.slice a6 l6.length c6)
       refine hK.out _ _ ((fun j v hv => by rw [Nat.zero_add]; exact (HS250.out).at 1 rfl j hv)) (fun hHeld => ?_)
       clear hK K
       generalize (w247.setCell ⟨w.heap.size, 1, none⟩ (.slice a6 l6.length c6)) = w248 at *
       try simp only [z0, z1, z2, z3]
       refine wpAnyH_done (by kernel_rfl) ?_ _
       clear hHeld
       generalize (if cap2 = p then a2 else Option.map (fun x => Addr.add x (p * 4)) a2) = ap9 at *
       have HS251 : Hid (Hp w [.ob (w.heap.size) 25 (tbCells (.slice a t.held.length cap) (.slice a6 l6.length c6)), .ob b3 29 (grCells g), .ob b4 25 (tbCells (.slice none 0 0) (.slice none 0 0)), .rd R, .ob B84 29 (grCells wx), .sl ((.slice a6 l6.length c6)) 29 4 (l6.length) (grRow l6)] w248) := HS250.out.pull [0, 1, 2, 3, 4, 5] rfl (pull_nd HS250.out.nd [0, 1, 2, 3, 4, 5] rfl (by decide))
       clear HS250
       obtain ⟨R7, h7, hn7, hs7⟩ := Hp.ownrd2 (A := [.ob (w.heap.size) 25 (tbCells (.slice a t.held.length cap) (.slice a6 l6.length c6)), .ob b3 29 (grCells g), .ob b4 25 (tbCells (.slice none 0 0) (.slice none 0 0)), .rd R, .ob B84 29 (grCells wx)]) HS251.out
       go_wp2_with fail
       go_meet
       exact ⟨a6, c6, R7, h7, hn7, hs7⟩
      ·have q0 := (HS245.out).at 0 rfl 1 rfl
       go_simp
       clear q0
       have HS246 := HS245
       refine hK.out _ _ ((fun j v hv => by rw [Nat.zero_add]; exact (HS246.out).at 1 rfl j hv)) (fun hHeld => ?_)
       clear hK K
       try simp only [z0, z1, z2, z3]
       refine tk 11 qRfLk9_20 (some 67) (v := .slice (if cap2 = p then a2 else Option.map (fun x => Addr.add x (p * 4)) a2) (t.wait.length - p) (cap2 - p)) (Or.inl ⟨by rfl, ?q915h⟩) hHeld ?q915r
       case q915h => (intro wq hSw; clear hSw; go_simp; try with_reducible rfl)
       try simp only [z0, z1, z2, z3]
       refine tn 7 qRfLk9_19 (fun K hK => ?_)
       rw [if_pos (by rfl)]
       refine wp_append_hp (HS246.out) (.tmp 60) (.tmp 62) 23 rfl 5 rfl 6 rfl HUX.out elem_gr 1 1 rfl rfl rfl (by intro u hu; simp only [List.flatMap_cons, List.flatMap_nil, List.append_nil, id] at hu; exact one_gr _ u hu) (by have := HLn.out; rw [List.length_take]; omega) ?_
       intro v246 w246 hs hnil
       have HS248 : Hid (Hp w [.ob (w.heap.size) 25 (tbCells (.slice a t.held.length cap) (.slice a2 t.wait.length cap2)), .ob b3 29 (grCells g), .ob b4 25 (tbCells (.slice none 0 0) (.slice none 0 0)), .rd R, .ob B84 29 (grCells wx), .sl v246 29 4 ((t.wait.take p).length + 1) ((grRow (t.wait.take p)) ++ (([grCells g] : List (List Value)).flatMap id)), .ob B243 29 (([grCells g] : List (List Value)).flatMap id)] w246) := hs
       refine hK.out _ _ ((fun j v hv => by rw [Nat.zero_add]; exact (HS248.out).at 1 rfl j hv)) (fun hHeld => ?_)
       clear hK K hs
       try simp only [z0, z1, z2, z3]
       refine tn 12 qRfLk9_21 (fun K hK => ?_)
       rw [if_pos (by rfl)]
       refine wp_append_sl (HS248.out) (.tmp 63) (.tmp 67) 23 rfl 5 (v := v246) (n := (t.wait.take p).length + 1) (xs := (grRow (t.wait.take p)) ++ (([grCells g] : List (List Value)).flatMap id)) rfl (xv := .slice (if cap2 = p then a2 else Option.map (fun x => Addr.add x (p * 4)) a2) (t.wait.length - p) (cap2 - p)) (m := (t.wait.drop p).length) (ys := grRow (t.wait.drop p)) (R := R6) HT6.out (HI6.out _ ((HS248.out).reads 3 rfl)) HUX.out elem_gr rfl rfl (one_grs _) (by have := HLn.out; rw [List.length_take, List.length_drop]; omega) ?_
       intro v6 w247 hs
       have hs2 : Hp w [.ob (w.heap.size) 25 (tbCells (.slice a t.held.length cap) (.slice a2 t.wait.length cap2)), .ob b3 29 (grCells g), .ob b4 25 (tbCells (.slice none 0 0) (.slice none 0 0)), .rd R, .ob B84 29 (grCells wx), .sl v6 29 4 (l6.length) (grRow l6), .ob B243 29 (([grCells g] : List (List Value)).flatMap id)] w247 := by
        rw [← HL6.out, grRow_append, grRow_append, grRow_one, List.length_append, List.length_append, ← List.append_assoc, ← Nat.add_assoc]
        exact hs
       clear hs
       have HS249 : Hid (Hp w [.ob (w.heap.size) 25 (tbCells (.slice a t.held.length cap) (.slice a2 t.wait.length cap2)), .ob b3 29 (grCells g), .ob b4 25 (tbCells (.slice none 0 0) (.slice none 0 0)), .rd R, .ob B84 29 (grCells wx), .sl v6 29 4 (l6.length) (grRow l6), .ob B243 29 (([grCells g] : List (List Value)).flatMap id)] w247) := hs2
       refine hK.out _ _ ((fun j v hv => by rw [Nat.zero_add]; exact (HS249.out).at 1 rfl j hv)) (fun hHeld => ?_)
       clear hK K hs2
       try simp only [z0, z1, z2, z3]
       refine tk 13 qRfLk9_22 (some 69) (v := ?q916v) (Or.inl ⟨by rfl, ?q916h⟩) hHeld ?q916r
       case q916h => (intro wq hSw; clear hSw; go_simp; try with_reducible rfl)
       try simp only [z0, z1, z2, z3]
       refine tn 14 qRfLk9_23 (fun K hK => ?_)
       rw [if_pos (by rfl)]
       obtain ⟨a6, c6, rfl⟩ := own_slice ((HS249.out).own 5 rfl)
       have q5 := (HS249.out).at 0 rfl 1 rfl
       have f5 := (HS249.out).frozen 0 rfl 1
       go_simp
       clear q5 f5
       have HS250 : Hid (Hp w [.ob (w.heap.size) 25 (tbCells (.slice a t.held.length cap) (.slice a6 l6.length c6)), .ob b3 29 (grCells g), .ob b4 25 (tbCells (.slice none 0 0) (.slice none 0 0)), .rd R, .ob B84 29 (grCells wx), .sl ((.slice a6 l6.length c6)) 29 4 (l6.length) (grRow l6), .ob B243 29 (([grCells g] : List (List Value)).flatMap id)] (w247.setCell ⟨w.heap.size, 1, none⟩ (.slice a6 l6.length c6))) := (HS249.out).set 0 rfl 1 (.slice a6 l6.length c6)
       refine hK.out _ _ ((fun j v hv => by rw [Nat.zero_add]; exact (HS250.out).at 1 rfl j hv)) (fun hHeld => ?_)
       clear hK K
       generalize (w247.setCell ⟨w.heap.size, 1, none⟩ (.slice a6 l6.length c6)) = w248 at *
       try simp only [z0, z1, z2, z3]
       refine wpAnyH_done (by kernel_rfl) ?_ _
       clear hHeld
       generalize (if cap2 = p then a2 else Option.map (fun x => Addr.add x (p * 4)) a2) = ap9 at *
       have HS251 : Hid (Hp w [.ob (w.heap.size) 25 (tbCells (.slice a t.held.length cap) (.slice a6 l6.length c6)), .ob b3 29 (grCells g), .ob b4 25 (tbCells (.slice none 0 0) (.slice none 0 0)), .rd R, .ob B84 29 (grCells wx), .sl ((.slice a6 l6.length c6)) 29 4 (l6.length) (grRow l6)] w248) := HS250.out.pull [0, 1, 2, 3, 4, 5] rfl (pull_nd HS250.out.nd [0, 1, 2, 3, 4, 5] rfl (by decide))
       clear HS250
       obtain ⟨R7, h7, hn7, hs7⟩ := Hp.ownrd2 (A := [.ob (w.heap.size) 25 (tbCells (.slice a t.held.length cap) (.slice a6 l6.length c6)), .ob b3 29 (grCells g), .ob b4 25 (tbCells (.slice none 0 0) (.slice none 0 0)), .rd R, .ob B84 29 (grCells wx)]) HS251.out
       go_wp2_with fail
       go_meet
       exact ⟨a6, c6, R7, h7, hn7, hs7⟩
     ·have q0 := (HS244.out).at 0 rfl 1 rfl
      go_simp
      clear q0
      have HS245 := HS244
      refine hK.out _ _ ((fun j v hv => by rw [Nat.zero_add]; exact (HS245.out).at 1 rfl j hv)) (fun hHeld => ?_)
      clear hK K
      try simp only [z0, z1, z2, z3]
      refine tk 11 qRfLk9_20 (some 67) (v := .slice (if cap2 = p then a2 else Option.map (fun x => Addr.add x (p * 4)) a2) (t.wait.length - p) (cap2 - p)) (Or.inl ⟨by rfl, ?q917h⟩) hHeld ?q917r
      case q917h => (intro wq hSw; clear hSw; go_simp; try with_reducible rfl)
      try simp only [z0, z1, z2, z3]
      refine tn 4 qRfLk9_18 (fun K hK => ?_)
      rw [if_pos (by rfl)]
      refine wp_append_sl (HS245.out) (.const (.slice none 0 0)) (.tmp 59) 23 rfl 5 (v := .slice none 0 0) (n := 0) (xs := []) rfl (xv := .slice a2 p cap2) (m := (t.wait.take p).length) (ys := grRow (t.wait.take p)) (R := R5) HT5.out (HI5.out _ ((HS245.out).reads 3 rfl)) HUX.out elem_gr rfl rfl (one_grs _) (by have := HLn.out; rw [List.length_take]; omega) ?_
      intro v5 w245 hs
      have hs2 : Hp w [.ob (w.heap.size) 25 (tbCells (.slice a t.held.length cap) (.slice a2 t.wait.length cap2)), .ob b3 29 (grCells g), .ob b4 25 (tbCells (.slice none 0 0) (.slice none 0 0)), .rd R, .ob B84 29 (grCells wx), .sl v5 29 4 ((t.wait.take p).length) (grRow (t.wait.take p)), .ob B243 29 (([grCells g] : List (List Value)).flatMap id)] w245 := by
       have h9 := hs
       simp only [Nat.zero_add, List.nil_append] at h9
       exact h9
      clear hs
      have HS246 : Hid (Hp w [.ob (w.heap.size) 25 (tbCells (.slice a t.held.length cap) (.slice a2 t.wait.length cap2)), .ob b3 29 (grCells g), .ob b4 25 (tbCells (.slice none 0 0) (.slice none 0 0)), .rd R, .ob B84 29 (grCells wx), .sl v5 29 4 ((t.wait.take p).length) (grRow (t.wait.take p)), .ob B243 29 (([grCells g] : List (List Value)).flatMap id)] w245) := hs2
      refine hK.out _ _ ((fun j v hv => by rw [Nat.zero_add]; exact (HS246.out).at 1 rfl j hv)) (fun hHeld => ?_)
      clear hK K hs2
      try simp only [z0, z1, z2, z3]
      refine tn 7 qRfLk9_19 (fun K hK => ?_)
      rw [if_pos (by rfl)]
      refine wp_append_hp (HS246.out) (.tmp 60) (.tmp 62) 23 rfl 5 rfl 6 rfl HUX.out elem_gr 1 1 rfl rfl rfl (by intro u hu; simp only [List.flatMap_cons, List.flatMap_nil, List.append_nil, id] at hu; exact one_gr _ u hu) (by have := HLn.out; rw [List.length_take]; omega) ?_
      intro v246 w246 hs hnil
      have HS248 : Hid (Hp w [.ob (w.heap.size) 25 (tbCells (.slice a t.held.length cap) (.slice a2 t.wait.length cap2)), .ob b3 29 (grCells g), .ob b4 25 (tbCells (.slice none 0 0) (.slice none 0 0)), .rd R, .ob B84 29 (grCells wx), .sl v246 29 4 ((t.wait.take p).length + 1) ((grRow (t.wait.take p)) ++ (([grCells g] : List (List Value)).flatMap id)), .ob B243 29 (([grCells g] : List (List Value)).flatMap id)] w246) := hs
      refine hK.out _ _ ((fun j v hv => by rw [Nat.zero_add]; exact (HS248.out).at 1 rfl j hv)) (fun hHeld => ?_)
      clear hK K hs
      try simp only [z0, z1, z2, z3]
      refine tn 12 qRfLk9_21 (fun K hK => ?_)
      rw [if_pos (by rfl)]
      refine wp_append_sl (HS248.out) (.tmp 63) (.tmp 67) 23 rfl 5 (v := v246) (n := (t.wait.take p).length + 1) (xs := (grRow (t.wait.take p)) ++ (([grCells g] : List (List Value)).flatMap id)) rfl (xv := .slice (if cap2 = p then a2 else Option.map (fun x => Addr.add x (p * 4)) a2) (t.wait.length - p) (cap2 - p)) (m := (t.wait.drop p).length) (ys := grRow (t.wait.drop p)) (R := R6) HT6.out (HI6.out _ ((HS248.out).reads 3 rfl)) HUX.out elem_gr rfl rfl (one_grs _) (by have := HLn.out; rw [List.length_take, List.length_drop]; omega) ?_
      intro v6 w247 hs
      have hs2 : Hp w [.ob (w.heap.size) 25 (tbCells (.slice a t.held.length cap) (.slice a2 t.wait.length cap2)), .ob b3 29 (grCells g), .ob b4 25 (tbCells (.slice none 0 0) (.slice none 0 0)), .rd R, .ob B84 29 (grCells wx), .sl v6 29 4 (l6.length) (grRow l6), .ob B243 29 (([grCells g] : List (List Value)).flatMap id)] w247 := by
       rw [← HL6.out, grRow_append, grRow_append, grRow_one, List.length_append, List.length_append, ← List.append_assoc, ← Nat.add_assoc]
       exact hs
      clear hs
      have HS249 : Hid (Hp w [.ob (w.heap.size) 25 (tbCells (.slice a t.held.length cap) (.slice a2 t.wait.length cap2)), .ob b3 29 (grCells g), .ob b4 25 (tbCells (.slice none 0 0) (.slice none 0 0)), .rd R, .ob B84 29 (grCells wx), .sl v6 29 4 (l6.length) (grRow l6), .ob B243 29 (([grCells g] : List (List Value)).flatMap id)] w247) := hs2
      refine hK.out _ _ ((fun j v hv => by rw [Nat.zero_add]; exact (HS249.out).at 1 rfl j hv)) (fun hHeld => ?_)
      clear hK K hs2
      try simp only [z0, z1, z2, z3]
      refine tk 13 qRfLk9_22 (some 69) (v := ?q918v) (Or.inl ⟨by rfl, ?q918h⟩) hHeld ?q918r
      case q918h => (intro wq hSw; clear hSw; go_simp; try with_reducible rfl)
      try simp only [z0, z1, z2, z3]
      refine tn 14 qRfLk9_23 (fun K hK => ?_)
      rw [if_pos (by rfl)]
      obtain ⟨a6, c6, rfl⟩ := own_slice ((HS249.out).own 5 rfl)
      have q5 := (HS249.out).at 0 rfl 1 rfl
      have f5 := (HS249.out).frozen 0 rfl 1
      go_simp
      clear q5 f5
      have HS250 : Hid (Hp w [.ob (w.heap.size) 25 (tbCells (.slice a t.held.length cap) (.slice a6 l6.length c6)), .ob b3 29 (grCells g), .ob b4 25 (tbCells (.slice none 0 0) (.slice none 0 0)), .rd R, .ob B84 29 (grCells wx), .sl ((.slice a6 l6.length c6)) 29 4 (l6.length) (grRow l6), .ob B243 29 (([grCells g] : List (List Value)).flatMap id)] (w247.setCell ⟨w.heap.size, 1, none⟩ (.slice a6 l6.length c6))) := (HS249.out).set 0 rfl 1 (.slice a6 l6.length c6)
      refine hK.out _ _ ((fun j v hv => by rw [Nat.zero_add]; exact (HS250.out).at 1 rfl j hv)) (fun hHeld => ?_)
      clear hK K
      generalize (w247.setCell ⟨w.heap.size, 1, none⟩ (.slice a6 l6.length c6)) = w248 at *
      try simp only [z0, z1, z2, z3]
      refine wpAnyH_done (by kernel_rfl) ?_ _
      clear hHeld
      generalize (if cap2 = p then a2 else Option.map (fun x => Addr.add x (p * 4)) a2) = ap9 at *
      have HS251 : Hid (Hp w [.ob (w.heap.size) 25 (tbCells (.slice a t.held.length cap) (.slice a6 l6.length c6)), .ob b3 29 (grCells g), .ob b4 25 (tbCells (.slice none 0 0) (.slice none 0 0)), .rd R, .ob B84 29 (grCells wx), .sl ((.slice a6 l6.length c6)) 29 4 (l6.length) (grRow l6)] w248) := HS250.out.pull [0, 1, 2, 3, 4, 5] rfl (pull_nd HS250.out.nd [0, 1, 2, 3, 4, 5] rfl (by decide))
      clear HS250
      obtain ⟨R7, h7, hn7, hs7⟩ := Hp.ownrd2 (A := [.ob (w.heap.size) 25 (tbCells (.slice a t.held.length cap) (.slice a6 l6.length c6)), .ob b3 29 (grCells g), .ob b4 25 (tbCells (.slice none 0 0) (.slice none 0 0)), .rd R, .ob B84 29 (grCells wx)]) HS251.out
      go_wp2_with fail
      go_meet
      exact ⟨a6, c6, R7, h7, hn7, hs7⟩
    ·have q0 := (HS243.out).at 0 rfl 1 rfl
     go_simp
     clear q0
     have HS244 := HS243
     refine hK.out _ _ ((fun j v hv => by rw [Nat.zero_add]; exact (HS244.out).at 1 rfl j hv)) (fun hHeld => ?_)
     clear hK K
     try simp only [z0, z1, z2, z3]
     refine tk 11 qRfLk9_20 (some 67) (v := .slice (if cap2 = p then a2 else Option.map (fun x => Addr.add x (p * 4)) a2) (t.wait.length - p) (cap2 - p)) (Or.inl ⟨by rfl, ?q919h⟩) hHeld ?q919r
     case q919h => (intro wq hSw; clear hSw; go_simp; try with_reducible rfl)
     try simp only [z0, z1, z2, z3]
     refine wpAnyH_ready (rs := [4, 6]) (by kernel_rfl) (by simp) ?_
     refine AllReadyH.cons (o := qRfLk9_18) rfl (fun K hK => ?_) (AllReadyH.cons (o := qRfLk9_15) rfl (fun K hK => ?_) (AllReadyH.nil))
     ·rw [if_pos (by rfl)]
      refine wp_append_sl (HS244.out) (.const (.slice none 0 0)) (.tmp 59) 23 rfl 5 (v := .slice none 0 0) (n := 0) (xs := []) rfl (xv := .slice a2 p cap2) (m := (t.wait.take p).length) (ys := grRow (t.wait.take p)) (R := R5) HT5.out (HI5.out _ ((HS244.out).reads 3 rfl)) HUX.out elem_gr rfl rfl (one_grs _) (by have := HLn.out; rw [List.length_take]; omega) ?_
      intro v5 w244 hs
      have hs2 : Hp w [.ob (w.heap.size) 25 (tbCells (.slice a t.held.length cap) (.slice a2 t.wait.length cap2)), .ob b3 29 (grCells g), .ob b4 25 (tbCells (.slice none 0 0) (.slice none 0 0)), .rd R, .ob B84 29 (grCells wx), .sl v5 29 4 ((t.wait.take p).length) (grRow (t.wait.take p))] w244 := by
       have h9 := hs
       simp only [Nat.zero_add, List.nil_append] at h9
       exact h9
      clear hs
      have HS245 : Hid (Hp w [.ob (w.heap.size) 25 (tbCells (.slice a t.held.length cap) (.slice a2 t.wait.length cap2)), .ob b3 29 (grCells g), .ob b4 25 (tbCells (.slice none 0 0) (.slice none 0 0)), .rd R, .ob B84 29 (grCells wx), .sl v5 29 4 ((t.wait.take p).length) (grRow (t.wait.take p))] w244) := hs2
      refine hK.out _ _ ((fun j v hv => by rw [Nat.zero_add]; exact (HS245.out).at 1 rfl j hv)) (fun hHeld => ?_)
      clear hK K hs2
      try simp only [z0, z1, z2, z3]
      refine tn 6 qRfLk9_15 (fun K hK => ?_)
      rw [if_pos (by rfl)]
      refine wp_build_obs rfl elem_gr HUX.out [grCells g] (List.forall_mem_cons.2 ⟨rfl, (fun _ h => absurd h List.not_mem_nil)⟩) (Nat.succ_pos _) (by simp only [List.length_cons, List.length_nil]; omega) rfl (by simp only [List.map_toArray, List.map_cons, List.map_nil, List.zipIdx_cons, List.zipIdx_nil]; exact rfl) ?_
      have HS246 : Hid (Hp w [.ob (w.heap.size) 25 (tbCells (.slice a t.held.length cap) (.slice a2 t.wait.length cap2)), .ob b3 29 (grCells g), .ob b4 25 (tbCells (.slice none 0 0) (.slice none 0 0)), .rd R, .ob B84 29 (grCells wx), .sl v5 29 4 ((t.wait.take p).length) (grRow (t.wait.take p)), .ob (w244.heap.size) 29 (([grCells g] : List (List Value)).flatMap id)] (w244.alloc (.cells (([grCells g] : List (List Value)).flatMap id).toArray 29))) := (HS245.out).put 29 (([grCells g] : List (List Value)).flatMap id)
      refine hK.out _ _ ((fun j v hv => by rw [Nat.zero_add]; exact (HS246.out).at 1 rfl j hv)) (fun hHeld => ?_)
      clear hK K
      generalize (w244.alloc (.cells (([grCells g] : List (List Value)).flatMap id).toArray 29)) = w245 at *
      generalize w244.heap.size = B243 at *
      try simp only [z0, z1, z2, z3]
      refine tn 7 qRfLk9_19 (fun K hK => ?_)
      rw [if_pos (by rfl)]
      refine wp_append_hp (HS246.out) (.tmp 60) (.tmp 62) 23 rfl 5 rfl 6 rfl HUX.out elem_gr 1 1 rfl rfl rfl (by intro u hu; simp only [List.flatMap_cons, List.flatMap_nil, List.append_nil, id] at hu; exact one_gr _ u hu) (by have := HLn.out; rw [List.length_take]; omega) ?_
      intro v246 w246 hs hnil
      have HS248 : Hid (Hp w [.ob (w.heap.size) 25 (tbCells (.slice a t.held.length cap) (.slice a2 t.wait.length cap2)), .ob b3 29 (grCells g), .ob b4 25 (tbCells (.slice none 0 0) (.slice none 0 0)), .rd R, .ob B84 29 (grCells wx), .sl v246 29 4 ((t.wait.take p).length + 1) ((grRow (t.wait.take p)) ++ (([grCells g] : List (List Value)).flatMap id)), .ob B243 29 (([grCells g] : List (List Value)).flatMap id)] w246) := hs
      refine hK.out _ _ ((fun j v hv => by rw [Nat.zero_add]; exact (HS248.out).at 1 rfl j hv)) (fun hHeld => ?_)
      clear hK K hs
      try simp only [z0, z1, z2, z3]
      refine tn 12 qRfLk9_21 (fun K hK => ?_)
      rw [if_pos (by rfl)]
      refine wp_append_sl (HS248.out) (.tmp 63) (.tmp 67) 23 rfl 5 (v := v246) (n := (t.wait.take p).length + 1) (xs := (grRow (t.wait.take p)) ++ (([grCells g] : List (List Value)).flatMap id)) rfl (xv := .slice (if cap2 = p then a2 else Option.map (fun x => Addr.add x (p * 4)) a2) (t.wait.length - p) (cap2 - p)) (m := (t.wait.drop p).length) (ys := grRow (t.wait.drop p)) (R := R6) HT6.out (HI6.out _ ((HS248.out).reads 3 rfl)) HUX.out elem_gr rfl rfl (one_grs _) (by have := HLn.out; rw [List.length_take, List.length_drop]; omega) ?_
      intro v6 w247 hs
      have hs2 : Hp w [.ob (w.heap.size) 25 (tbCells (.slice a t.held.length cap) (.slice a2 t.wait.length cap2)), .ob b3 29 (grCells g), .ob b4 25 (tbCells (.slice none 0 0) (.slice none 0 0)), .rd R, .ob B84 29 (grCells wx), .sl v6 29 4 (l6.length) (grRow l6), .ob B243 29 (([grCells g] : List (List Value)).flatMap id)] w247 := by
       rw [← HL6.out, grRow_append, grRow_append, grRow_one, List.length_append, List.length_append, ← List.append_assoc, ← Nat.add_assoc]
       exact hs
      clear hs
      have HS249 : Hid (Hp w [.ob (w.heap.size) 25 (tbCells (.slice a t.held.length cap) (.slice a2 t.wait.length cap2)), .ob b3 29 (grCells g), .ob b4 25 (tbCells (.slice none 0 0) (.slice none 0 0)), .rd R, .ob B84 29 (grCells wx), .sl v6 29 4 (l6.length) (grRow l6), .ob B243 29 (([grCells g] : List (List Value)).flatMap id)] w247) := hs2
      refine hK.out _ _ ((fun j v hv => by rw [Nat.zero_add]; exact (HS249.out).at 1 rfl j hv)) (fun hHeld => ?_)
      clear hK K hs2
      try simp only [z0, z1, z2, z3]
      refine tk 13 qRfLk9_22 (some 69) (v := ?q920v) (Or.inl ⟨by rfl, ?q920h⟩) hHeld ?q920r
      case q920h => (intro wq hSw; clear hSw; go_simp; try with_reducible rfl)
      try simp only [z0, z1, z2, z3]
      refine tn 14 qRfLk9_23 (fun K hK => ?_)
      rw [if_pos (by rfl)]
      obtain ⟨a6, c6, rfl⟩ := own_slice ((HS249.out).own 5 rfl)
      have q5 := (HS249.out).at 0 rfl 1 rfl
      have f5 := (HS249.out).frozen 0 rfl 1
      go_simp
      clear q5 f5
      have HS250 : Hid (Hp w [.ob (w.heap.size) 25 (tbCells (.slice a t.held.length cap) (.slice a6 l6.length c6)), .ob b3 29 (grCells g), .ob b4 25 (tbCells (.slice none 0 0) (.slice none 0 0)), .rd R, .ob B84 29 (grCells wx), .sl ((.slice a6 l6.length c6)) 29 4 (l6.length) (grRow l6), .ob B243 29 (([grCells g] : List (List Value)).flatMap id)] (w247.setCell ⟨w.heap.size, 1, none⟩ (.slice a6 l6.length c6))) := (HS249.out).set 0 rfl 1 (.slice a6 l6.length c6)
      refine hK.out _ _ ((fun j v hv => by rw [Nat.zero_add]; exact (HS250.out).at 1 rfl j hv)) (fun hHeld => ?_)
      clear hK K
      generalize (w247.setCell ⟨w.heap.size, 1, none⟩ (.slice a6 l6.length c6)) = w248 at *
      try simp only [z0, z1, z2, z3]
      refine wpAnyH_done (by kernel_rfl) ?_ _
      clear hHeld
      generalize (if cap2 = p then a2 else Option.map (fun x => Addr.add x (p * 4)) a2) = ap9 at *
      have HS251 : Hid (Hp w [.ob (w.heap.size) 25 (tbCells (.slice a t.held.length cap) (.slice a6 l6.length c6)), .ob b3 29 (grCells g), .ob b4 25 (tbCells (.slice none 0 0) (.slice none 0 0)), .rd R, .ob B84 29 (grCells wx), .sl ((.slice a6 l6.length c6)) 29 4 (l6.length) (grRow l6)] w248) := HS250.out.pull [0, 1, 2, 3, 4, 5] rfl (pull_nd HS250.out.nd [0, 1, 2, 3, 4, 5] rfl (by decide))
      clear HS250
      obtain ⟨R7, h7, hn7, hs7⟩ := Hp.ownrd2 (A := [.ob (w.heap.size) 25 (tbCells (.slice a t.held.length cap) (.slice a6 l6.length c6)), .ob b3 29 (grCells g), .ob b4 25 (tbCells (.slice none 0 0) (.slice none 0 0)), .rd R, .ob B84 29 (grCells wx)]) HS251.out
      go_wp2_with fail
      go_meet
      exact ⟨a6, c6, R7, h7, hn7, hs7⟩
     ·rw [if_pos (by rfl)]
      refine wp_build_obs rfl elem_gr HUX.out [grCells g] (List.forall_mem_cons.2 ⟨rfl, (fun _ h => absurd h List.not_mem_nil)⟩) (Nat.succ_pos _) (by simp only [List.length_cons, List.length_nil]; omega) rfl (by simp only [List.map_toArray, List.map_cons, List.map_nil, List.zipIdx_cons, List.zipIdx_nil]; exact rfl) ?_
      have HS245 : Hid (Hp w [.ob (w.heap.size) 25 (tbCells (.slice a t.held.length cap) (.slice a2 t.wait.length cap2)), .ob b3 29 (grCells g), .ob b4 25 (tbCells (.slice none 0 0) (.slice none 0 0)), .rd R, .ob B84 29 (grCells wx), .sl ((.slice none 0 0)) 29 4 (0) ([]), .ob (w243.heap.size) 29 (([grCells g] : List (List Value)).flatMap id)] (w243.alloc (.cells (([grCells g] : List (List Value)).flatMap id).toArray 29))) := (HS244.out).put 29 (([grCells g] : List (List Value)).flatMap id)
      refine hK.out _ _ ((fun j v hv => by rw [Nat.zero_add]; exact (HS245.out).at 1 rfl j hv)) (fun hHeld => ?_)
      clear hK K
      generalize (w243.alloc (.cells (([grCells g] : List (List Value)).flatMap id).toArray 29)) = w244 at *
      generalize w243.heap.size = B243 at *
      try simp only [z0, z1, z2, z3]
      refine tn 4 qRfLk9_18 (fun K hK => ?_)
      rw [if_pos (by rfl)]
      refine wp_append_sl (HS245.out) (.const (.slice none 0 0)) (.tmp 59) 23 rfl 5 (v := .slice none 0 0) (n := 0) (xs := []) rfl (xv := .slice a2 p cap2) (m := (t.wait.take p).length) (ys := grRow (t.wait.take p)) (R := R5) HT5.out (HI5.out _ ((HS245.out).reads 3 rfl)) HUX.out elem_gr rfl rfl (one_grs _) (by have := HLn.out; rw [List.length_take]; omega) ?_
      intro v5 w245 hs
      have hs2 : Hp w [.ob (w.heap.size) 25 (tbCells (.slice a t.held.length cap) (.slice a2 t.wait.length cap2)), .ob b3 29 (grCells g), .ob b4 25 (tbCells (.slice none 0 0) (.slice none 0 0)), .rd R, .ob B84 29 (grCells wx), .sl v5 29 4 ((t.wait.take p).length) (grRow (t.wait.take p)), .ob B243 29 (([grCells g] : List (List Value)).flatMap id)] w245 := by
       have h9 := hs
       simp only [Nat.zero_add, List.nil_append] at h9
       exact h9
      clear hs
      have HS246 : Hid (Hp w [.ob (w.heap.size) 25 (tbCells (.slice a t.held.length cap) (.slice a2 t.wait.length cap2)), .ob b3 29 (grCells g), .ob b4 25 (tbCells (.slice none 0 0) (.slice none 0 0)), .rd R, .ob B84 29 (grCells wx), .sl v5 29 4 ((t.wait.take p).length) (grRow (t.wait.take p)), .ob B243 29 (([grCells g] : List (List Value)).flatMap id)] w245) := hs2
      refine hK.out _ _ ((fun j v hv => by rw [Nat.zero_add]; exact (HS246.out).at 1 rfl j hv)) (fun hHeld => ?_)
      clear hK K hs2
      try simp only [z0, z1, z2, z3]
      refine tn 7 qRfLk9_19 (fun K hK => ?_)
      rw [if_pos (by rfl)]
      refine wp_append_hp (HS246.out) (.tmp 60) (.tmp 62) 23 rfl 5 rfl 6 rfl HUX.out elem_gr 1 1 rfl rfl rfl (by intro u hu; simp only [List.flatMap_cons, List.flatMap_nil, List.append_nil, id] at hu; exact one_gr _ u hu) (by have := HLn.out; rw [List.length_take]; omega) ?_
      intro v246 w246 hs hnil
      have HS248 : Hid (Hp w [.ob (w.heap.size) 25 (tbCells (.slice a t.held.length cap) (.slice a2 t.wait.length cap2)), .ob b3 29 (grCells g), .ob b4 25 (tbCells (.slice none 0 0) (.slice none 0 0)), .rd R, .ob B84 29 (grCells wx), .sl v246 29 4 ((t.wait.take p).length + 1) ((grRow (t.wait.take p)) ++ (([grCells g] : List (List Value)).flatMap id)), .ob B243 29 (([grCells g] : List (List Value)).flatMap id)] w246) := hs
      refine hK.out _ _ ((fun j v hv => by rw [Nat.zero_add]; exact (HS248.out).at 1 rfl j hv)) (fun hHeld => ?_)
      clear hK K hs
      try simp only [z0, z1, z2, z3]
      refine tn 12 qRfLk9_21 (fun K hK => ?_)
      rw [if_pos (by rfl)]
      refine wp_append_sl (HS248.out) (.tmp 63) (.tmp 67) 23 rfl 5 (v := v246) (n := (t.wait.take p).length + 1) (xs := (grRow (t.wait.take p)) ++ (([grCells g] : List (List Value)).flatMap id)) rfl (xv := .slice (if cap2 = p then a2 else Option.map (fun x => Addr.add x (p * 4)) a2) (t.wait.length - p) (cap2 - p)) (m := (t.wait.drop p).length) (ys := grRow (t.wait.drop p)) (R := R6) HT6.out (HI6.out _ ((HS248.out).reads 3 rfl)) HUX.out elem_gr rfl rfl (one_grs _) (by have := HLn.out; rw [List.length_take, List.length_drop]; omega) ?_
      intro v6 w247 hs
      have hs2 : Hp w [.ob (w.heap.size) 25 (tbCells (.slice a t.held.length cap) (.slice a2 t.wait.length cap2)), .ob b3 29 (grCells g), .ob b4 25 (tbCells (.slice none 0 0) (.slice none 0 0)), .rd R, .ob B84 29 (grCells wx), .sl v6 29 4 (l6.length) (grRow l6), .ob B243 29 (([grCells g] : List (List Value)).flatMap id)] w247 := by
       rw [← HL6.out, grRow_append, grRow_append, grRow_one, List.length_append, List.length_append, ← List.append_assoc, ← Nat.add_assoc]
       exact hs
      clear hs
      have HS249 : Hid (Hp w [.ob (w.heap.size) 25 (tbCells (.slice a t.held.length cap) (.slice a2 t.wait.length cap2)), .ob b3 29 (grCells g), .ob b4 25 (tbCells (.slice none 0 0) (.slice none 0 0)), .rd R, .ob B84 29 (grCells wx), .sl v6 29 4 (l6.length) (grRow l6), .ob B243 29 (([grCells g] : List (List Value)).flatMap id)] w247) := hs2
      refine hK.out _ _ ((fun j v hv => by rw [Nat.zero_add]; exact (HS249.out).at 1 rfl j hv)) (fun hHeld => ?_)
      clear hK K hs2
      try simp only [z0, z1, z2, z3]
      refine tk 13 qRfLk9_22 (some 69) (v := ?q921v) (Or.inl ⟨by rfl, ?q921h⟩) hHeld ?q921r
      case q921h => (intro wq hSw; clear hSw; go_simp; try with_reducible rfl)
      try simp only [z0, z1, z2, z3]
      refine tn 14 qRfLk9_23 (fun K hK => ?_)
      rw [if_pos (by rfl)]
      obtain ⟨a6, c6, rfl⟩ := own_slice ((HS249.out).own 5 rfl)
      have q5 := (HS249.out).at 0 rfl 1 rfl
      have f5 := (HS249.out).frozen 0 rfl 1
      go_simp
      clear q5 f5
      have HS250 : Hid (Hp w [.ob (w.heap.size) 25 (tbCells (.slice a t.held.length cap) (.slice a6 l6.length c6)), .ob b3 29 (grCells g), .ob b4 25 (tbCells (.slice none 0 0) (.slice none 0 0)), .rd R, .ob B84 29 (grCells wx), .sl ((.slice a6 l6.length c6)) 29 4 (l6.length) (grRow l6), .ob B243 29 (([grCells g] : List (List Value)).flatMap id)] (w247.setCell ⟨w.heap.size, 1, none⟩ (.slice a6 l6.length c6))) := (HS249.out).set 0 rfl 1 (.slice a6 l6.length c6)
      refine hK.out _ _ ((fun j v hv => by rw [Nat.zero_add]; exact (HS250.out).at 1 rfl j hv)) (fun hHeld => ?_)
      clear hK K
      generalize (w247.setCell ⟨w.heap.size, 1, none⟩ (.slice a6 l6.length c6)) = w248 at *
      try simp only [z0, z1, z2, z3]
      refine wpAnyH_done (by kernel_rfl) ?_ _
      clear hHeld
      generalize (if cap2 = p then a2 else Option.map (fun x => Addr.add x (p * 4)) a2) = ap9 at *
      have HS251 : Hid (Hp w [.ob (w.heap.size) 25 (tbCells (.slice a t.held.length cap) (.slice a6 l6.length c6)), .ob b3 29 (grCells g), .ob b4 25 (tbCells (.slice none 0 0) (.slice none 0 0)), .rd R, .ob B84 29 (grCells wx), .sl ((.slice a6 l6.length c6)) 29 4 (l6.length) (grRow l6)] w248) := HS250.out.pull [0, 1, 2, 3, 4, 5] rfl (pull_nd HS250.out.nd [0, 1, 2, 3, 4, 5] rfl (by decide))
      clear HS250
      obtain ⟨R7, h7, hn7, hs7⟩ := Hp.ownrd2 (A := [.ob (w.heap.size) 25 (tbCells (.slice a t.held.length cap) (.slice a6 l6.length c6)), .ob b3 29 (grCells g), .ob b4 25 (tbCells (.slice none 0 0) (.slice none 0 0)), .rd R, .ob B84 29 (grCells wx)]) HS251.out
      go_wp2_with fail
      go_meet
      exact ⟨a6, c6, R7, h7, hn7, hs7⟩
   ·rw [if_pos (by rfl)]
    refine wp_build_obs rfl elem_gr HUX.out [grCells g] (List.forall_mem_cons.2 ⟨rfl, (fun _ h => absurd h List.not_mem_nil)⟩) (Nat.succ_pos _) (by simp only [List.length_cons, List.length_nil]; omega) rfl (by simp only [List.map_toArray, List.map_cons, List.map_nil, List.zipIdx_cons, List.zipIdx_nil]; exact rfl) ?_
    have HS243 : Hid (Hp w [.ob (w.heap.size) 25 (tbCells (.slice a t.held.length cap) (.slice a2 t.wait.length cap2)), .ob b3 29 (grCells g), .ob b4 25 (tbCells (.slice none 0 0) (.slice none 0 0)), .rd R, .ob B84 29 (grCells wx), .sl ((.slice none 0 0)) 29 4 (0) ([]), .ob (w222.drew.heap.size) 29 (([grCells g] : List (List Value)).flatMap id)] (w222.drew.alloc (.cells (([grCells g] : List (List Value)).flatMap id).toArray 29))) := ((HN0.out).drew).put 29 (([grCells g] : List (List Value)).flatMap id)
    refine hK.out _ _ ((fun j v hv => by rw [Nat.zero_add]; exact (HS243.out).at 1 rfl j hv)) (fun hHeld => ?_)
    clear hK K
    generalize (w222.drew.alloc (.cells (([grCells g] : List (List Value)).flatMap id).toArray 29)) = w243 at *
    generalize w222.drew.heap.size = B243 at *
    try simp only [z0, z1, z2, z3]
    refine wpAnyH_ready (rs := [1, 9]) (by kernel_rfl) (by simp) ?_
    refine AllReadyH.cons (o := qRfLk9_14) rfl (fun K hK => ?_) (AllReadyH.cons (o := qRfLk9_16) rfl (fun K hK => ?_) (AllReadyH.nil))
    ·have q0 := (HS243.out).at 0 rfl 1 rfl
     go_simp
     clear q0
     have HS244 := HS243
     refine hK.out _ _ ((fun j v hv => by rw [Nat.zero_add]; exact (HS244.out).at 1 rfl j hv)) (fun hHeld => ?_)
     clear hK K
     try simp only [z0, z1, z2, z3]
     refine tk 3 qRfLk9_17 (some 59) (v := .slice a2 p cap2) (Or.inl ⟨by rfl, ?q922h⟩) hHeld ?q922r
     case q922h => (intro wq hSw; clear hSw; go_simp; try with_reducible rfl)
     try simp only [z0, z1, z2, z3]
     refine wpAnyH_ready (rs := [4, 9]) (by kernel_rfl) (by simp) ?_
     refine AllReadyH.cons (o := qRfLk9_18) rfl (fun K hK => ?_) (AllReadyH.cons (o := qRfLk9_16) rfl (fun K hK => ?_) (AllReadyH.nil))
     ·rw [if_pos (by rfl)]
      refine wp_append_sl (HS244.out) (.const (.slice none 0 0)) (.tmp 59) 23 rfl 5 (v := .slice none 0 0) (n := 0) (xs := []) rfl (xv := .slice a2 p cap2) (m := (t.wait.take p).length) (ys := grRow (t.wait.take p)) (R := R5) HT5.out (HI5.out _ ((HS244.out).reads 3 rfl)) HUX.out elem_gr rfl rfl (one_grs _) (by have := HLn.out; rw [List.length_take]; omega) ?_
      intro v5 w244 hs
      have hs2 : Hp w [.ob (w.heap.size) 25 (tbCells (.slice a t.held.length cap) (.slice a2 t.wait.length cap2)), .ob b3 29 (grCells g), .ob b4 25 (tbCells (.slice none 0 0) (.slice none 0 0)), .rd R, .ob B84 29 (grCells wx), .sl v5 29 4 ((t.wait.take p).length) (grRow (t.wait.take p)), .ob B243 29 (([grCells g] : List (List Value)).flatMap id)] w244 := by
       have h9 := hs
       simp only [Nat.zero_add, List.nil_append] at h9
       exact h9
      clear hs
      have HS245 : Hid (Hp w [.ob (w.heap.size) 25 (tbCells (.slice a t.held.length cap) (.slice a2 t.wait.length cap2)), .ob b3 29 (grCells g), .ob b4 25 (tbCells (.slice none 0 0) (.slice none 0 0)), .rd R, .ob B84 29 (grCells wx), .sl v5 29 4 ((t.wait.take p).length) (grRow (t.wait.take p)), .ob B243 29 (([grCells g] : List (List Value)).flatMap id)] w244) := hs2
      refine hK.out _ _ ((fun j v hv => by rw [Nat.zero_add]; exact (HS245.out).at 1 rfl j hv)) (fun hHeld => ?_)
      clear hK K hs2
      try simp only [z0, z1, z2, z3]
      refine wpAnyH_ready (rs := [7, 9]) (by kernel_rfl) (by simp) ?_
      refine AllReadyH.cons (o := qRfLk9_19) rfl (fun K hK => ?_) (AllReadyH.cons (o := qRfLk9_16) rfl (fun K hK => ?_) (AllReadyH.nil))
      ·rw [if_pos (by rfl)]
       refine wp_append_hp (HS245.out) (.tmp 60) (.tmp 62) 23 rfl 5 rfl 6 rfl HUX.out elem_gr 1 1 rfl rfl rfl (by intro u hu; simp only [List.flatMap_cons, List.flatMap_nil, List.append_nil, id] at hu; exact one_gr _ u hu) (by have := HLn.out; rw [List.length_take]; omega) ?_
       intro v245 w245 hs hnil
       have HS247 : Hid (Hp w [.ob (w.heap.size) 25 (tbCells (.slice a t.held.length cap) (.slice a2 t.wait.length cap2)), .ob b3 29 (grCells g), .ob b4 25 (tbCells (.slice none 0 0) (.slice none 0 0)), .rd R, .ob B84 29 (grCells wx), .sl v245 29 4 ((t.wait.take p).length + 1) ((grRow (t.wait.take p)) ++ (([grCells g] : List (List Value)).flatMap id)), .ob B243 29 (([grCells g] : List (List Value)).flatMap id)] w245) := hs
       refine hK.out _ _ ((fun j v hv => by rw [Nat.zero_add]; exact (HS247.out).at 1 rfl j hv)) (fun hHeld => ?_)
       clear hK K hs
       try simp only [z0, z1, z2, z3]
       refine tn 9 qRfLk9_16 (fun K hK => ?_)
       have q0 := (HS247.out).at 0 rfl 1 rfl
       go_simp
       clear q0
       have HS248 := HS247
       refine hK.out _ _ ((fun j v hv => by rw [Nat.zero_add]; exact (HS248.out).at 1 rfl j hv)) (fun hHeld => ?_)
       clear hK K
       try simp only [z0, z1, z2, z3]
       refine tk 11 qRfLk9_20 (some 67) (v := .slice (if cap2 = p then a2 else Option.map (fun x => Addr.add x (p * 4)) a2) (t.wait.length - p) (cap2 - p)) (Or.inl ⟨by rfl, ?q923h⟩) hHeld ?q923r
       case q923h => (intro wq hSw; clear hSw; go_simp; try with_reducible rfl)
       try simp only [z0, z1, z2, z3]
       refine tn 12 qRfLk9_21 (fun K hK => ?_)
       rw [if_pos (by rfl)]
       refine wp_append_sl (HS248.out) (.tmp 63) (.tmp 67) 23 rfl 5 (v := v245) (n := (t.wait.take p).length + 1) (xs := (grRow (t.wait.take p)) ++ (([grCells g] : List (List Value)).flatMap id)) rfl (xv := .slice (if cap2 = p then a2 else Option.map (fun x => Addr.add x (p * 4)) a2) (t.wait.length - p) (cap2 - p)) (m := (t.wait.drop p).length) (ys := grRow (t.wait.drop p)) (R := R6) HT6.out (HI6.out _ ((HS248.out).reads 3 rfl)) HUX.out elem_gr rfl rfl (one_grs _) (by have := HLn.out; rw [List.length_take, List.length_drop]; omega) ?_
       intro v6 w246 hs
       have hs2 : Hp w [.ob (w.heap.size) 25 (tbCells (.slice a t.held.length cap) (.slice a2 t.wait.length cap2)), .ob b3 29 (grCells g), .ob b4 25 (tbCells (.slice none 0 0) (.slice none 0 0)), .rd R, .ob B84 29 (grCells wx), .sl v6 29 4 (l6.length) (grRow l6), .ob B243 29 (([grCells g] : List (List Value)).flatMap id)] w246 := by
        rw [← HL6.out, grRow_append, grRow_append, grRow_one, List.length_append, List.length_append, ← List.append_assoc, ← Nat.add_assoc]
        exact hs
       clear hs
       have HS249 : Hid (Hp w [.ob (w.heap.size) 25 (tbCells (.slice a t.held.length cap) (.slice a2 t.wait.length cap2)), .ob b3 29 (grCells g), .ob b4 25 (tbCells (.slice none 0 0) (.slice none 0 0)), .rd R, .ob B84 29 (grCells wx), .sl v6 29 4 (l6.length) (grRow l6), .ob B243 29 (([grCells g] : List (List Value)).flatMap id)] w246) := hs2
       refine hK.out _ _ ((fun j v hv => by rw [Nat.zero_add]; exact (HS249.out).at 1 rfl j hv)) (fun hHeld => ?_)
       clear hK K hs2
       try simp only [z0, z1, z2, z3]
       refine tk 13 qRfLk9_22 (some 69) (v := ?q924v) (Or.inl ⟨by rfl, ?q924h⟩) hHeld ?q924r
       case q924h => (intro wq hSw; clear hSw; go_simp; try with_reducible rfl)
       try simp only [z0, z1, z2, z3]
       refine tn 14 qRfLk9_23 (fun K hK => ?_)
       rw [if_pos (by rfl)]
       obtain ⟨a6, c6, rfl⟩ := own_slice ((HS249.out).own 5 rfl)
       have q5 := (HS249.out).at 0 rfl 1 rfl
       have f5 := (HS249.out).frozen 0 rfl 1
       go_simp
       clear q5 f5
       have HS250 : Hid (Hp w [.ob (w.heap.size) 25 (tbCells (.slice a t.held.length cap) (.slice a6 l6.length c6)), .ob b3 29 (grCells g), .ob b4 25 (tbCells (.slice none 0 0) (.slice none 0 0)), .rd R, .ob B84 29 (grCells wx), .sl ((.slice a6 l6.length c6)) 29 4 (l6.length) (grRow l6), .ob B243 29 (([grCells g] : List (List Value)).flatMap id)] (w246.setCell ⟨w.heap.size, 1, none⟩ (.slice a6 l6.length c6))) := (HS249.out).set 0 rfl 1 (.slice a6 l6.length c6)
       refine hK.out _ _ ((fun j v hv => by rw [Nat.zero_add]; exact (HS250.out).at 1 rfl j hv)) (fun hHeld => ?_)
       clear hK K
       generalize (w246.setCell ⟨w.heap.size, 1, none⟩ (.slice a6 l6.length c6)) = w247 at *
       try simp only [z0, z1, z2, z3]
       refine wpAnyH_done (by kernel_rfl) ?_ _
       clear hHeld
       generalize (if cap2 = p then a2 else Option.map (fun x => Addr.add x (p * 4)) a2) = ap9 at *
       have HS251 : Hid (Hp w [.ob (w.heap.size) 25 (tbCells (.slice a t.held.length cap) (.slice a6 l6.length c6)), .ob b3 29 (grCells g), .ob b4 25 (tbCells (.slice none 0 0) (.slice none 0 0)), .rd R, .ob B84 29 (grCells wx), .sl ((.slice a6 l6.length c6)) 29 4 (l6.length) (grRow l6)] w247) := HS250.out.pull [0, 1, 2, 3, 4, 5] rfl (pull_nd HS250.out.nd [0, 1, 2, 3, 4, 5] rfl (by decide))
       clear HS250
       obtain ⟨R7, h7, hn7, hs7⟩ := Hp.ownrd2 (A := [.ob (w.heap.size) 25 (tbCells (.slice a t.held.length cap) (.slice a6 l6.length c6)), .ob b3 29 (grCells g), .ob b4 25 (tbCells (.slice none 0 0) (.slice none 0 0)), .rd R, .ob B84 29 (grCells wx)]) HS251.out
       go_wp2_with fail
       go_meet
       exact ⟨a6, c6, R7, h7, hn7, hs7⟩
      ·have q0 := (HS245.out).at 0 rfl 1 rfl
       go_simp
       clear q0
       have HS246 := HS245
       refine hK.out _ _ ((fun j v hv => by rw [Nat.zero_add]; exact (HS246.out).at 1 rfl j hv)) (fun hHeld => ?_)
       clear hK K
       try simp only [z0, z1, z2, z3]
       refine tk 11 qRfLk9_20 (some 67) (v := .slice (if cap2 = p then a2 else Option.map (fun x => Addr.add x (p * 4)) a2) (t.wait.length - p) (cap2 - p)) (Or.inl ⟨by rfl, ?q925h⟩) hHeld ?q925r
       case q925h => (intro wq hSw; clear hSw; go_simp; try with_reducible rfl)
       try simp only [z0, z1, z2, z3]
       refine tn 7 qRfLk9_19 (fun K hK => ?_)
       rw [if_pos (by rfl)]
       refine wp_append_hp (HS246.out) (.tmp 60) (.tmp 62) 23 rfl 5 rfl 6 rfl HUX.out elem_gr 1 1 rfl rfl rfl (by intro u hu; simp only [List.flatMap_cons, List.flatMap_nil, List.append_nil, id] at hu; exact one_gr _ u hu) (by have := HLn.out; rw [List.length_take]; omega) ?_
       intro v245 w245 hs hnil
       have HS248 : Hid (Hp w [.ob (w.heap.size) 25 (tbCells (.slice a t.held.length cap) (.slice a2 t.wait.length cap2)), .ob b3 29 (grCells g), .ob b4 25 (tbCells (.slice none 0 0) (.slice none 0 0)), .rd R, .ob B84 29 (grCells wx), .sl v245 29 4 ((t.wait.take p).length + 1) ((grRow (t.wait.take p)) ++ (([grCells g] : List (List Value)).flatMap id)), .ob B243 29 (([grCells g] : List (List Value)).flatMap id)] w245) := hs
       refine hK.out _ _ ((fun j v hv => by rw [Nat.zero_add]; exact (HS248.out).at 1 rfl j hv)) (fun hHeld => ?_)
       clear hK K hs
       try simp only [z0, z1, z2, z3]
       refine tn 12 qRfLk9_21 (fun K hK => ?_)
       rw [if_pos (by rfl)]
       refine wp_append_sl (HS248.out) (.tmp 63) (.tmp 67) 23 rfl 5 (v := v245) (n := (t.wait.take p).length + 1) (xs := (grRow (t.wait.take p)) ++ (([grCells g] : List (List Value)).flatMap id)) rfl (xv := .slice (if cap2 = p then a2 else Option.map (fun x => Addr.add x (p * 4)) a2) (t.wait.length - p) (cap2 - p)) (m := (t.wait.drop p).length) (ys := grRow (t.wait.drop p)) (R := R6) HT6.out (HI6.out _ ((HS248.out).reads 3 rfl)) HUX.out elem_gr rfl rfl (one_grs _) (by have := HLn.out; rw [List.length_take, List.length_drop]; omega) ?_
       intro v6 w246 hs
       have hs2 : Hp w [.ob (w.heap.size) 25 (tbCells (.slice a t.held.length cap) (.slice a2 t.wait.length cap2)), .ob b3 29 (grCells g), .ob b4 25 (tbCells (.slice none 0 0) (.slice none 0 0)), .rd R, .ob B84 29 (grCells wx), .sl v6 29 4 (l6.length) (grRow l6), .ob B243 29 (([grCells g] : List (List Value)).flatMap id)] w246 := by
        rw [← HL6.out, grRow_append, grRow_append, grRow_one, List.length_append, List.length_append, ← List.append_assoc, ← Nat.add_assoc]
        exact hs
       clear hs
       have HS249 : Hid (Hp w [.ob (w.heap.size) 25 (tbCells (.slice a t.held.length cap) (.slice a2 t.wait.length cap2)), .ob b3 29 (grCells g), .ob b4 25 (tbCells (.slice none 0 0) (.slice none 0 0)), .rd R, .ob B84 29 (grCells wx), .sl v6 29 4 (l6.length) (grRow l6), .ob B243 29 (([grCells g] : List (List Value)).flatMap id)] w246) := hs2
       refine hK.out _ _ ((fun j v hv => by rw [Nat.zero_add]; exact (HS249.out).at 1 rfl j hv)) (fun hHeld => ?_)
       clear hK K hs2
       try simp only [z0, z1, z2, z3]
       refine tk 13 qRfLk9_22 (some 69) (v := ?q926v) (Or.inl ⟨by rfl, ?q926h⟩) hHeld ?q926r
       case q926h => (intro wq hSw; clear hSw; go_simp; try with_reducible rfl)
       try simp only [z0, z1, z2, z3]
       refine tn 14 qRfLk9_23 (fun K hK => ?_)
       rw [if_pos (by rfl)]
       obtain ⟨a6, c6, rfl⟩ := own_slice ((HS249.out).own 5 rfl)
       have q5 := (HS249.out).at 0 rfl 1 rfl
       have f5 := (HS249.out).frozen 0 rfl 1
       go_simp
       clear q5 f5
       have HS250 : Hid (Hp w [.ob (w.heap.size) 25 (tbCells (.slice a t.held.length cap) (.slice a6 l6.length c6)), .ob b3 29 (grCells g), .ob b4 25 (tbCells (.slice none 0 0) (.slice none 0 0)), .rd R, .ob B84 29 (grCells wx), .sl ((.slice a6 l6.length c6)) 29 4 (l6.length) (grRow l6), .ob B243 29 (([grCells g] : List (List Value)).flatMap id)] (w246.setCell ⟨w.heap.size, 1, none⟩ (.slice a6 l6.length c6))) := (HS249.out).set 0 rfl 1 (.slice a6 l6.length c6)
       refine hK.out _ _ ((fun j v hv => by rw [Nat.zero_add]; exact (HS250.out).at 1 rfl j hv)) (fun hHeld => ?_)
       clear hK K
       generalize (w246.setCell ⟨w.heap.size, 1, none⟩ (.slice a6 l6.length c6)) = w247 at *
       try simp only [z0, z1, z2, z3]
       refine wpAnyH_done (by kernel_rfl) ?_ _
       clear hHeld
       generalize (if cap2 = p then a2 else Option.map (fun x => Addr.add x (p * 4)) a2) = ap9 at *
       have HS251 : Hid (Hp w [.ob (w.heap.size) 25 (tbCells (.slice a t.held.length cap) (.slice a6 l6.length c6)), .ob b3 29 (grCells g), .ob b4 25 (tbCells (.slice none 0 0) (.slice none 0 0)), .rd R, .ob B84 29 (grCells wx), .sl ((.slice a6 l6.length c6)) 29 4 (l6.length) (grRow l6)] w247) := HS250.out.pull [0, 1, 2, 3, 4, 5] rfl (pull_nd HS250.out.nd [0, 1, 2, 3, 4, 5] rfl (by decide))
       clear HS250
       obtain ⟨R7, h7, hn7, hs7⟩ := Hp.ownrd2 (A := [.ob (w.heap.size) 25 (tbCells (.slice a t.held.length cap) (.slice a6 l6.length c6)), .ob b3 29 (grCells g), .ob b4 25 (tbCells (.slice none 0 0) (.slice none 0 0)), .rd R, .ob B84 29 (grCells wx)]) HS251.out
       go_wp2_with fail
       go_meet
       exact ⟨a6, c6, R7, h7, hn7, hs7⟩
     ·have q0 := (HS244.out).at 0 rfl 1 rfl
      go_simp
      clear q0
      have HS245 := HS244
      refine hK.out _ _ ((fun j v hv => by rw [Nat.zero_add]; exact (HS245.out).at 1 rfl j hv)) (fun hHeld => ?_)
      clear hK K
      try simp only [z0, z1, z2, z3]
      refine tk 11 qRfLk9_20 (some 67) (v := .slice (if cap2 = p then a2 else Option.map (fun x => Addr.add x (p * 4)) a2) (t.wait.length - p) (cap2 - p)) (Or.inl ⟨by rfl, ?q927h⟩) hHeld ?q927r
      case q927h => (intro wq hSw; clear hSw; go_simp; try with_reducible rfl)
      try simp only [z0, z1, z2, z3]
      refine tn 4 qRfLk9_18 (fun K hK => ?_)
      rw [if_pos (by rfl)]
      refine wp_append_sl (HS245.out) (.const (.slice none 0 0)) (.tmp 59) 23 rfl 5 (v := .slice none 0 0) (n := 0) (xs := []) rfl (xv := .slice a2 p cap2) (m := (t.wait.take p).length) (ys := grRow (t.wait.take p)) (R := R5) HT5.out (HI5.out _ ((HS245.out).reads 3 rfl)) HUX.out elem_gr rfl rfl (one_grs _) (by have := HLn.out; rw [List.length_take]; omega) ?_
      intro v5 w244 hs
      have hs2 : Hp w [.ob (w.heap.size) 25 (tbCells (.slice a t.held.length cap) (.slice a2 t.wait.length cap2)), .ob b3 29 (grCells g), .ob b4 25 (tbCells (.slice none 0 0) (.slice none 0 0)), .rd R, .ob B84 29 (grCells wx), .sl v5 29 4 ((t.wait.take p).length) (grRow (t.wait.take p)), .ob B243 29 (([grCells g] : List (List Value)).flatMap id)] w244 := by
       have h9 := hs
       simp only [Nat.zero_add, List.nil_append] at h9
       exact h9
      clear hs
      have HS246 : Hid (Hp w [.ob (w.heap.size) 25 (tbCells (.slice a t.held.length cap) (.slice a2 t.wait.length cap2)), .ob b3 29 (grCells g), .ob b4 25 (tbCells (.slice none 0 0) (.slice none 0 0)), .rd R, .ob B84 29 (grCells wx), .sl v5 29 4 ((t.wait.take p).length) (grRow (t.wait.take p)), .ob B243 29 (([grCells g] : List (List Value)).flatMap id)] w244) := hs2
      refine hK.out _ _ ((fun j v hv => by rw [Nat.zero_add]; exact (HS246.out).at 1 rfl j hv)) (fun hHeld => ?_)
      clear hK K hs2
      try simp only [z0, z1, z2, z3]
      refine tn 7 qRfLk9_19 (fun K hK => ?_)
      rw [if_pos (by rfl)]
      refine wp_append_hp (HS246.out) (.tmp 60) (.tmp 62) 23 rfl 5 rfl 6 rfl HUX.out elem_gr 1 1 rfl rfl rfl (by intro u hu; simp only [List.flatMap_cons, List.flatMap_nil, List.append_nil, id] at hu; exact one_gr _ u hu) (by have := HLn.out; rw [List.length_take]; omega) ?_
      intro v245 w245 hs hnil
      have HS248 : Hid (Hp w [.ob (w.heap.size) 25 (tbCells (.slice a t.held.length cap) (.slice a2 t.wait.length cap2)), .ob b3 29 (grCells g), .ob b4 25 (tbCells (.slice none 0 0) (.slice none 0 0)), .rd R, .ob B84 29 (grCells wx), .sl v245 29 4 ((t.wait.take p).length + 1) ((grRow (t.wait.take p)) ++ (([grCells g] : List (List Value)).flatMap id)), .ob B243 29 (([grCells g] : List (List Value)).flatMap id)] w245) := hs
      refine hK.out _ _ ((fun j v hv => by rw [Nat.zero_add]; exact (HS248.out).at 1 rfl j hv)) (fun hHeld => ?_)
      clear hK K hs
      try simp only [z0, z1, z2, z3]
      refine tn 12 qRfLk9_21 (fun K hK => ?_)
      rw [if_pos (by rfl)]
      refine wp_append_sl (HS248.out) (.tmp 63) (.tmp 67) 23 rfl 5 (v := v245) (n := (t.wait.take p).length + 1) (xs := (grRow (t.wait.take p)) ++ (([grCells g] : List (List Value)).flatMap id)) rfl (xv := .slice (if cap2 = p then a2 else Option.map (fun x => Addr.add x (p * 4)) a2) (t.wait.length - p) (cap2 - p)) (m := (t.wait.drop p).length) (ys := grRow (t.wait.drop p)) (R := R6) HT6.out (HI6.out _ ((HS248.out).reads 3 rfl)) HUX.out elem_gr rfl rfl (one_grs _) (by have := HLn.out; rw [List.length_take, List.length_drop]; omega) ?_
      intro v6 w246 hs
      have hs2 : Hp w [.ob (w.heap.size) 25 (tbCells (.slice a t.held.length cap) (.slice a2 t.wait.length cap2)), .ob b3 29 (grCells g), .ob b4 25 (tbCells (.slice none 0 0) (.slice none 0 0)), .rd R, .ob B84 29 (grCells wx), .sl v6 29 4 (l6.length) (grRow l6), .ob B243 29 (([grCells g] : List (List Value)).flatMap id)] w246 := by
       rw [← HL6.out, grRow_append, grRow_append, grRow_one, List.length_append, List.length_append, ← List.append_assoc, ← Nat.add_assoc]
       exact hs
      clear hs
      have HS249 : Hid (Hp w [.ob (w.heap.size) 25 (tbCells (.slice a t.held.length cap) (.slice a2 t.wait.length cap2)), .ob b3 29 (grCells g), .ob b4 25 (tbCells (.slice none 0 0) (.slice none 0 0)), .rd R, .ob B84 29 (grCells wx), .sl v6 29 4 (l6.length) (grRow l6), .ob B243 29 (([grCells g] : List (List Value)).flatMap id)] w246) := hs2
      refine hK.out _ _ ((fun j v hv => by rw [Nat.zero_add]; exact (HS249.out).at 1 rfl j hv)) (fun hHeld => ?_)
      clear hK K hs2
      try simp only [z0, z1, z2, z3]
      refine tk 13 qRfLk9_22 (some 69) (v := ?q928v) (Or.inl ⟨by rfl, ?q928h⟩) hHeld ?q928r
      case q928h => (intro wq hSw; clear hSw; go_simp; try with_reducible rfl)
      try simp only [z0, z1, z2, z3]
      refine tn 14 qRfLk9_23 (fun K hK => ?_)
      rw [if_pos (by rfl)]
      obtain ⟨a6, c6, rfl⟩ := own_slice ((HS249.out).own 5 rfl)
      have q5 := (HS249.out).at 0 rfl 1 rfl
      have f5 := (HS249.out).frozen 0 rfl 1
      go_simp
      clear q5 f5
      have HS250 : Hid (Hp w [.ob (w.heap.size) 25 (tbCells (.slice a t.held.length cap) (.slice a6 l6.length c6)), .ob b3 29 (grCells g), .ob b4 25 (tbCells (.slice none 0 0) (.slice none 0 0)), .rd R, .ob B84 29 (grCells wx), .sl ((.slice a6 l6.length c6)) 29 4 (l6.length) (grRow l6), .ob B243 29 (([grCells g] : List (List Value)).flatMap id)] (w246.setCell ⟨w.heap.size, 1, none⟩ (.slice a6 l6.length c6))) := (HS249.out).set 0 rfl 1 (.slice a6 l6.length c6)
      refine hK.out _ _ ((fun j v hv => by rw [Nat.zero_add]; exact (HS250.out).at 1 rfl j hv)) (fun hHeld => ?_)
      clear hK K
      generalize (w246.setCell ⟨w.heap.size, 1, none⟩ (.slice a6 l6.length c6)) = w247 at *
      try simp only [z0, z1, z2, z3]
      refine wpAnyH_done (by kernel_rfl) ?_ _
      clear hHeld
      generalize (if cap2 = p then a2 else Option.map (fun x => Addr.add x (p * 4)) a2) = ap9 at *
      have HS251 : Hid (Hp w [.ob (w.heap.size) 25 (tbCells (.slice a t.held.length cap) (.slice a6 l6.length c6)), .ob b3 29 (grCells g), .ob b4 25 (tbCells (.slice none 0 0) (.slice none 0 0)), .rd R, .ob B84 29 (grCells wx), .sl ((.slice a6 l6.length c6)) 29 4 (l6.length) (grRow l6)] w247) := HS250.out.pull [0, 1, 2, 3, 4, 5] rfl (pull_nd HS250.out.nd [0, 1, 2, 3, 4, 5] rfl (by decide))
      clear HS250
      obtain ⟨R7, h7, hn7, hs7⟩ := Hp.ownrd2 (A := [.ob (w.heap.size) 25 (tbCells (.slice a t.held.length cap) (.slice a6 l6.length c6)), .ob b3 29 (grCells g), .ob b4 25 (tbCells (.slice none 0 0) (.slice none 0 0)), .rd R, .ob B84 29 (grCells wx)]) HS251.out
      go_wp2_with fail
      go_meet
      exact ⟨a6, c6, R7, h7, hn7, hs7⟩
    ·have q0 := (HS243.out).at 0 rfl 1 rfl
     go_simp
     clear q0
     have HS244 := HS243
     refine hK.out _ _ ((fun j v hv => by rw [Nat.zero_add]; exact (HS244.out).at 1 rfl j hv)) (fun hHeld => ?_)
     clear hK K
     try simp only [z0, z1, z2, z3]
     refine tk 11 qRfLk9_20 (some 67) (v := .slice (if cap2 = p then a2 else Option.map (fun x => Addr.add x (p * 4)) a2) (t.wait.length - p) (cap2 - p)) (Or.inl ⟨by rfl, ?q929h⟩) hHeld ?q929r
     case q929h => (intro wq hSw; clear hSw; go_simp; try with_reducible rfl)
     try simp only [z0, z1, z2, z3]
     refine tn 1 qRfLk9_14 (fun K hK => ?_)
     have q0 := (HS244.out).at 0 rfl 1 rfl
     go_simp
     clear q0
     have HS245 := HS244
     refine hK.out _ _ ((fun j v hv => by rw [Nat.zero_add]; exact (HS245.out).at 1 rfl j hv)) (fun hHeld => ?_)
     clear hK K
     try simp only [z0, z1, z2, z3]
     refine tk 3 qRfLk9_17 (some 59) (v := .slice a2 p cap2) (Or.inl ⟨by rfl, ?q930h⟩) hHeld ?q930r
     case q930h => (intro wq hSw; clear hSw; go_simp; try with_reducible rfl)
     try simp only [z0, z1, z2, z3]
     refine tn 4 qRfLk9_18 (fun K hK => ?_)
     rw [if_pos (by rfl)]
     refine wp_append_sl (HS245.out) (.const (.slice none 0 0)) (.tmp 59) 23 rfl 5 (v := .slice none 0 0) (n := 0) (xs := []) rfl (xv := .slice a2 p cap2) (m := (t.wait.take p).length) (ys := grRow (t.wait.take p)) (R := R5) HT5.out (HI5.out _ ((HS245.out).reads 3 rfl)) HUX.out elem_gr rfl rfl (one_grs _) (by have := HLn.out; rw [List.length_take]; omega) ?_
     intro v5 w244 hs
     have hs2 : Hp w [.ob (w.heap.size) 25 (tbCells (.slice a t.held.length cap) (.slice a2 t.wait.length cap2)), .ob b3 29 (grCells g), .ob b4 25 (tbCells (.slice none 0 0) (.slice none 0 0)), .rd R, .ob B84 29 (grCells wx), .sl v5 29 4 ((t.wait.take p).length) (grRow (t.wait.take p)), .ob B243 29 (([grCells g] : List (List Value)).flatMap id)] w244 := by
      have h9 := hs
      simp only [Nat.zero_add, List.nil_append] at h9
      exact h9
     clear hs
     have HS246 : Hid (Hp w [.ob (w.heap.size) 25 (tbCells (.slice a t.held.length cap) (.slice a2 t.wait.length cap2)), .ob b3 29 (grCells g), .ob b4 25 (tbCells (.slice none 0 0) (.slice none 0 0)), .rd R, .ob B84 29 (grCells wx), .sl v5 29 4 ((t.wait.take p).length) (grRow (t.wait.take p)), .ob B243 29 (([grCells g] : List (List Value)).flatMap id)] w244) := hs2
     refine hK.out _ _ ((fun j v hv => by rw [Nat.zero_add]; exact (HS246.out).at 1 rfl j hv)) (fun hHeld => ?_)
     clear hK K hs2
     try simp only [z0, z1, z2, z3]
     refine tn 7 qRfLk9_19 (fun K hK => ?_)
     rw [if_pos (by rfl)]
     refine wp_append_hp (HS246.out) (.tmp 60) (.tmp 62) 23 rfl 5 rfl 6 rfl HUX.out elem_gr 1 1 rfl rfl rfl (by intro u hu; simp only [List.flatMap_cons, List.flatMap_nil, List.append_nil, id] at hu; exact one_gr _ u hu) (by have := HLn.out; rw [List.length_take]; omega) ?_
     intro v245 w245 hs hnil
     have HS248 : Hid (Hp w [.ob (w.heap.size) 25 (tbCells (.slice a t.held.length cap) (.slice a2 t.wait.length cap2)), .ob b3 29 (grCells g), .ob b4 25 (tbCells (.slice none 0 0) (.slice none 0 0)), .rd R, .ob B84 29 (grCells wx), .sl v245 29 4 ((t.wait.take p).length + 1) ((grRow (t.wait.take p)) ++ (([grCells g] : List (List Value)).flatMap id)), .ob B243 29 (([grCells g] : List (List Value)).flatMap id)] w245) := hs
     refine hK.out _ _ ((fun j v hv => by rw [Nat.zero_add]; exact (HS248.out).at 1 rfl j hv)) (fun hHeld => ?_)
     clear hK K hs
     try simp only [z0, z1, z2, z3]
     refine tn 12 qRfLk9_21 (fun K hK => ?_)
     rw [if_pos (by rfl)]
     refine wp_append_sl (HS248.out) (.tmp 63) (.tmp 67) 23 rfl 5 (v := v245) (n := (t.wait.take p).length + 1) (xs := (grRow (t.wait.take p)) ++ (([grCells g] : List (List Value)).flatMap id)) rfl (xv := .slice (if cap2 = p then a2 else Option.map (fun x => Addr.add x (p * 4)) a2) (t.wait.length - p) (cap2 - p)) (m := (t.wait.drop p).length) (ys := grRow (t.wait.drop p)) (R := R6) HT6.out (HI6.out _ ((HS248.out).reads 3 rfl)) HUX.out elem_gr rfl rfl (one_grs _) (by have := HLn.out; rw [List.length_take, List.length_drop]; omega) ?_
     intro v6 w246 hs
     have hs2 : Hp w [.ob (w.heap.size) 25 (tbCells (.slice a t.held.length cap) (.slice a2 t.wait.length cap2)), .ob b3 29 (grCells g), .ob b4 25 (tbCells (.slice none 0 0) (.slice none 0 0)), .rd R, .ob B84 29 (grCells wx), .sl v6 29 4 (l6.length) (grRow l6), .ob B243 29 (([grCells g] : List (List Value)).flatMap id)] w246 := by
      rw [← HL6.out, grRow_append, grRow_append, grRow_one, List.length_append, List.length_append, ← List.append_assoc, ← Nat.add_assoc]
      exact hs
     clear hs
     have HS249 : Hid (Hp w [.ob (w.heap.size) 25 (tbCells (.slice a t.held.length cap) (.slice a2 t.wait.length cap2)), .ob b3 29 (grCells g), .ob b4 25 (tbCells (.slice none 0 0) (.slice none 0 0)), .rd R, .ob B84 29 (grCells wx), .sl v6 29 4 (l6.length) (grRow l6), .ob B243 29 (([grCells g] : List (List Value)).flatMap id)] w246) := hs2
     refine hK.out _ _ ((fun j v hv => by rw [Nat.zero_add]; exact (HS249.out).at 1 rfl j hv)) (fun hHeld => ?_)
     clear hK K hs2
     try simp only [z0, z1, z2, z3]
     refine tk 13 qRfLk9_22 (some 69) (v := ?q931v) (Or.inl ⟨by rfl, ?q931h⟩) hHeld ?q931r
     case q931h => (intro wq hSw; clear hSw; go_simp; try with_reducible rfl)
     try simp only [z0, z1, z2, z3]
     refine tn 14 qRfLk9_23 (fun K hK => ?_)
     rw [if_pos (by rfl)]
     obtain ⟨a6, c6, rfl⟩ := own_slice ((HS249.out).own 5 rfl)
     have q5 := (HS249.out).at 0 rfl 1 rfl
     have f5 := (HS249.out).frozen 0 rfl 1
     go_simp
     clear q5 f5
     have HS250 : Hid (Hp w [.ob (w.heap.size) 25 (tbCells (.slice a t.held.length cap) (.slice a6 l6.length c6)), .ob b3 29 (grCells g), .ob b4 25 (tbCells (.slice none 0 0) (.slice none 0 0)), .rd R, .ob B84 29 (grCells wx), .sl ((.slice a6 l6.length c6)) 29 4 (l6.length) (grRow l6), .ob B243 29 (([grCells g] : List (List Value)).flatMap id)] (w246.setCell ⟨w.heap.size, 1, none⟩ (.slice a6 l6.length c6))) := (HS249.out).set 0 rfl 1 (.slice a6 l6.length c6)
     refine hK.out _ _ ((fun j v hv => by rw [Nat.zero_add]; exact (HS250.out).at 1 rfl j hv)) (fun hHeld => ?_)
     clear hK K
     generalize (w246.setCell ⟨w.heap.size, 1, none⟩ (.slice a6 l6.length c6)) = w247 at *
     try simp only [z0, z1, z2, z3]
     refine wpAnyH_done (by kernel_rfl) ?_ _
     clear hHeld
     generalize (if cap2 = p then a2 else Option.map (fun x => Addr.add x (p * 4)) a2) = ap9 at *
     have HS251 : Hid (Hp w [.ob (w.heap.size) 25 (tbCells (.slice a t.held.length cap) (.slice a6 l6.length c6)), .ob b3 29 (grCells g), .ob b4 25 (tbCells (.slice none 0 0) (.slice none 0 0)), .rd R, .ob B84 29 (grCells wx), .sl ((.slice a6 l6.length c6)) 29 4 (l6.length) (grRow l6)] w247) := HS250.out.pull [0, 1, 2, 3, 4, 5] rfl (pull_nd HS250.out.nd [0, 1, 2, 3, 4, 5] rfl (by decide))
     clear HS250
     obtain ⟨R7, h7, hn7, hs7⟩ := Hp.ownrd2 (A := [.ob (w.heap.size) 25 (tbCells (.slice a t.held.length cap) (.slice a6 l6.length c6)), .ob b3 29 (grCells g), .ob b4 25 (tbCells (.slice none 0 0) (.slice none 0 0)), .rd R, .ob B84 29 (grCells wx)]) HS251.out
     go_wp2_with fail
     go_meet
     exact ⟨a6, c6, R7, h7, hn7, hs7⟩
   ·have q0 := ((HN0.out).drew).at 0 rfl 1 rfl
    go_simp
    clear q0
    have HS243 : Hid (Hp w [.ob (w.heap.size) 25 (tbCells (.slice a t.held.length cap) (.slice a2 t.wait.length cap2)), .ob b3 29 (grCells g), .ob b4 25 (tbCells (.slice none 0 0) (.slice none 0 0)), .rd R, .ob B84 29 (grCells wx), .sl ((.slice none 0 0)) 29 4 (0) ([])] (w222.drew)) := (HN0.out).drew
    refine hK.out _ _ ((fun j v hv => by rw [Nat.zero_add]; exact (HS243.out).at 1 rfl j hv)) (fun hHeld => ?_)
    clear hK K
    generalize w222.drew = w243 at *
    try simp only [z0, z1, z2, z3]
    refine tk 11 qRfLk9_20 (some 67) (v := .slice (if cap2 = p then a2 else Option.map (fun x => Addr.add x (p * 4)) a2) (t.wait.length - p) (cap2 - p)) (Or.inl ⟨by rfl, ?q932h⟩) hHeld ?q932r
    case q932h => (intro wq hSw; clear hSw; go_simp; try with_reducible rfl)
    try simp only [z0, z1, z2, z3]
    refine wpAnyH_ready (rs := [1, 6]) (by kernel_rfl) (by simp) ?_
    refine AllReadyH.cons (o := qRfLk9_14) rfl (fun K hK => ?_) (AllReadyH.cons (o := qRfLk9_15) rfl (fun K hK => ?_) (AllReadyH.nil))
    ·have q0 := (HS243.out).at 0 rfl 1 rfl
     go_simp
     clear q0
     have HS244 := HS243
     refine hK.out _ _ ((fun j v hv => by rw [Nat.zero_add]; exact (HS244.out).at 1 rfl j hv)) (fun hHeld => ?_)
     clear hK K
     try simp only [z0, z1, z2, z3]
     refine tk 3 qRfLk9_17 (some 59) (v := .slice a2 p cap2) (Or.inl ⟨by rfl, ?q933h⟩) hHeld ?q933r
     case q933h => (intro wq hSw; clear hSw; go_simp; try with_reducible rfl)
     try simp only [z0, z1, z2, z3]
     refine wpAnyH_ready (rs := [4, 6]) (by kernel_rfl) (by simp) ?_
     refine AllReadyH.cons (o := qRfLk9_18) rfl (fun K hK => ?_) (AllReadyH.cons (o := qRfLk9_15) rfl (fun K hK => ?_) (AllReadyH.nil))
     ·rw [if_pos (by rfl)]
      refine wp_append_sl (HS244.out) (.const (.slice none 0 0)) (.tmp 59) 23 rfl 5 (v := .slice none 0 0) (n := 0) (xs := []) rfl (xv := .slice a2 p cap2) (m := (t.wait.take p).length) (ys := grRow (t.wait.take p)) (R := R5) HT5.out (HI5.out _ ((HS244.out).reads 3 rfl)) HUX.out elem_gr rfl rfl (one_grs _) (by have := HLn.out; rw [List.length_take]; omega) ?_
      intro v5 w244 hs
      have hs2 : Hp w [.ob (w.heap.size) 25 (tbCells (.slice a t.held.length cap) (.slice a2 t.wait.length cap2)), .ob b3 29 (grCells g), .ob b4 25 (tbCells (.slice none 0 0) (.slice none 0 0)), .rd R, .ob B84 29 (grCells wx), .sl v5 29 4 ((t.wait.take p).length) (grRow (t.wait.take p))] w244 := by
       have h9 := hs
       simp only [Nat.zero_add, List.nil_append] at h9
       exact h9
      clear hs
      have HS245 : Hid (Hp w [.ob (w.heap.size) 25 (tbCells (.slice a t.held.length cap) (.slice a2 t.wait.length cap2)), .ob b3 29 (grCells g), .ob b4 25 (tbCells (.slice none 0 0) (.slice none 0 0)), .rd R, .ob B84 29 (grCells wx), .sl v5 29 4 ((t.wait.take p).length) (grRow (t.wait.take p))] w244) := hs2
      refine hK.out _ _ ((fun j v hv => by rw [Nat.zero_add]; exact (HS245.out).at 1 rfl j hv)) (fun hHeld => ?_)
      clear hK K hs2
      try simp only [z0, z1, z2, z3]
      refine tn 6 qRfLk9_15 (fun K hK => ?_)
      rw [if_pos (by rfl)]
      refine wp_build_obs rfl elem_gr HUX.out [grCells g] (List.forall_mem_cons.2 ⟨rfl, (fun _ h => absurd h List.not_mem_nil)⟩) (Nat.succ_pos _) (by simp only [List.length_cons, List.length_nil]; omega) rfl (by simp only [List.map_toArray, List.map_cons, List.map_nil, List.zipIdx_cons, List.zipIdx_nil]; exact rfl) ?_
      have HS246 : Hid (Hp w [.ob (w.heap.size) 25 (tbCells (.slice a t.held.length cap) (.slice a2 t.wait.length cap2)), .ob b3 29 (grCells g), .ob b4 25 (tbCells (.slice none 0 0) (.slice none 0 0)), .rd R, .ob B84 29 (grCells wx), .sl v5 29 4 ((t.wait.take p).length) (grRow (t.wait.take p)), .ob (w244.heap.size) 29 (([grCells g] : List (List Value)).flatMap id)] (w244.alloc (.cells (([grCells g] : List (List Value)).flatMap id).toArray 29))) := (HS245.out).put 29 (([grCells g] : List (List Value)).flatMap id)
      refine hK.out _ _ ((fun j v hv => by rw [Nat.zero_add]; exact (HS246.out).at 1 rfl j hv)) (fun hHeld => ?_)
      clear hK K
      generalize (w244.alloc (.cells (([grCells g] : List (List Value)).flatMap id).toArray 29)) = w245 at *
      generalize w244.heap.size = B243 at *
      try simp only [z0, z1, z2, z3]
      refine tn 7 qRfLk9_19 (fun K hK => ?_)
      rw [if_pos (by rfl)]
      refine wp_append_hp (HS246.out) (.tmp 60) (.tmp 62) 23 rfl 5 rfl 6 rfl HUX.out elem_gr 1 1 rfl rfl rfl (by intro u hu; simp only [List.flatMap_cons, List.flatMap_nil, List.append_nil, id] at hu; exact one_gr _ u hu) (by have := HLn.out; rw [List.length_take]; omega) ?_
      intro v246 w246 hs hnil
      have HS248 : Hid (Hp w [.ob (w.heap.size) 25 (tbCells (.slice a t.held.length cap) (.slice a2 t.wait.length cap2)), .ob b3 29 (grCells g), .ob b4 25 (tbCells (.slice none 0 0) (.slice none 0 0)), .rd R, .ob B84 29 (grCells wx), .sl v246 29 4 ((t.wait.take p).length + 1) ((grRow (t.wait.take p)) ++ (([grCells g] : List (List Value)).flatMap id)), .ob B243 29 (([grCells g] : List (List Value)).flatMap id)] w246) := hs
      refine hK.out _ _ ((fun j v hv => by rw [Nat.zero_add]; exact (HS248.out).at 1 rfl j hv)) (fun hHeld => ?_)
      clear hK K hs
      try simp only [z0, z1, z2, z3]
      refine tn 12 qRfLk9_21 (fun K hK => ?_)
      rw [if_pos (by rfl)]
      refine wp_append_sl (HS248.out) (.tmp 63) (.tmp 67) 23 rfl 5 (v := v246) (n := (t.wait.take p).length + 1) (xs := (grRow (t.wait.take p)) ++ (([grCells g] : List (List Value)).flatMap id)) rfl (xv := .slice (if cap2 = p then a2 else Option.map (fun x => Addr.add x (p * 4)) a2) (t.wait.length - p) (cap2 - p)) (m := (t.wait.drop p).length) (ys := grRow (t.wait.drop p)) (R := R6) HT6.out (HI6.out _ ((HS248.out).reads 3 rfl)) HUX.out elem_gr rfl rfl (one_grs _) (by have := HLn.out; rw [List.length_take, List.length_drop]; omega) ?_
      intro v6 w247 hs
      have hs2 : Hp w [.ob (w.heap.size) 25 (tbCells (.slice a t.held.length cap) (.slice a2 t.wait.length cap2)), .ob b3 29 (grCells g), .ob b4 25 (tbCells (.slice none 0 0) (.slice none 0 0)), .rd R, .ob B84 29 (grCells wx), .sl v6 29 4 (l6.length) (grRow l6), .ob B243 29 (([grCells g] : List (List Value)).flatMap id)] w247 := by
       rw [← HL6.out, grRow_append, grRow_append, grRow_one, List.length_append, List.length_append, ← List.append_assoc, ← Nat.add_assoc]
       exact hs
      clear hs
      have HS249 : Hid (Hp w [.ob (w.heap.size) 25 (tbCells (.slice a t.held.length cap) (.slice a2 t.wait.length cap2)), .ob b3 29 (grCells g), .ob b4 25 (tbCells (.slice none 0 0) (.slice none 0 0)), .rd R, .ob B84 29 (grCells wx), .sl v6 29 4 (l6.length) (grRow l6), .ob B243 29 (([grCells g] : List (List Value)).flatMap id)] w247) := hs2
      refine hK.out _ _ ((fun j v hv => by rw [Nat.zero_add]; exact (HS249.out).at 1 rfl j hv)) (fun hHeld => ?_)
      clear hK K hs2
      try simp only [z0, z1, z2, z3]
      refine tk 13 qRfLk9_22 (some 69) (v := ?q934v) (Or.inl ⟨by rfl, ?q934h⟩) hHeld ?q934r
      case q934h => (intro wq hSw; clear hSw; go_simp; try with_reducible rfl)
      try simp only [z0, z1, z2, z3]
      refine tn 14 qRfLk9_23 (fun K hK => ?_)
      rw [if_pos (by rfl)]
      obtain ⟨a6, c6, rfl⟩ := own_slice ((HS249.out).own 5 rfl)
      have q5 := (HS249.out).at 0 rfl 1 rfl
      have f5 := (HS249.out).frozen 0 rfl 1
      go_simp
      clear q5 f5
      have HS250 : Hid (Hp w [.ob (w.heap.size) 25 (tbCells (.slice a t.held.length cap) (.slice a6 l6.length c6)), .ob b3 29 (grCells g), .ob b4 25 (tbCells (.slice none 0 0) (.slice none 0 0)), .rd R, .ob B84 29 (grCells wx), .sl ((.slice a6 l6.length c6)) 29 4 (l6.length) (grRow l6), .ob B243 29 (([grCells g] : List (List Value)).flatMap id)] (w247.setCell ⟨w.heap.size, 1, none⟩ (.slice a6 l6.length c6))) := (HS249.out).set 0 rfl 1 (.slice a6 l6.length c6)
      refine hK.out _ _ ((fun j v hv => by rw [Nat.zero_add]; exact (HS250.out).at 1 rfl j hv)) (fun hHeld => ?_)
      clear hK K
      generalize (w247.setCell ⟨w.heap.size, 1, none⟩ (.slice a6 l6.length c6)) = w248 at *
      try simp only [z0, z1, z2, z3]
      refine wpAnyH_done (by kernel_rfl) ?_ _
      clear hHeld
      generalize (if cap2 = p then a2 else Option.map (fun x => Addr.add x (p * 4)) a2) = ap9 at *
      have HS251 : Hid (Hp w [.ob (w.heap.size) 25 (tbCells (.slice a t.held.length cap) (.slice a6 l6.length c6)), .ob b3 29 (grCells g), .ob b4 25 (tbCells (.slice none 0 0) (.slice none 0 0)), .rd R, .ob B84 29 (grCells wx), .sl ((.slice a6 l6.length c6)) 29 4 (l6.length) (grRow l6)] w248) := HS250.out.pull [0, 1, 2, 3, 4, 5] rfl (pull_nd HS250.out.nd [0, 1, 2, 3, 4, 5] rfl (by decide))
      clear HS250
      obtain ⟨R7, h7, hn7, hs7⟩ := Hp.ownrd2 (A := [.ob (w.heap.size) 25 (tbCells (.slice a t.held.length cap) (.slice a6 l6.length c6)), .ob b3 29 (grCells g), .ob b4 25 (tbCells (.slice none 0 0) (.slice none 0 0)), .rd R, .ob B84 29 (grCells wx)]) HS251.out
      go_wp2_with fail
      go_meet
      exact ⟨a6, c6, R7, h7, hn7, hs7⟩
     ·rw [if_pos (by rfl)]
      refine wp_build_obs rfl elem_gr HUX.out [grCells g] (List.forall_mem_cons.2 ⟨rfl, (fun _ h => absurd h List.not_mem_nil)⟩) (Nat.succ_pos _) (by simp only [List.length_cons, List.length_nil]; omega) rfl (by simp only [List.map_toArray, List.map_cons, List.map_nil, List.zipIdx_cons, List.zipIdx_nil]; exact rfl) ?_
      have HS245 : Hid (Hp w [.ob (w.heap.size) 25 (tbCells (.slice a t.held.length cap) (.slice a2 t.wait.length cap2)), .ob b3 29 (grCells g), .ob b4 25 (tbCells (.slice none 0 0) (.slice none 0 0)), .rd R, .ob B84 29 (grCells wx), .sl ((.slice none 0 0)) 29 4 (0) ([]), .ob (w243.heap.size) 29 (([grCells g] : List (List Value)).flatMap id)] (w243.alloc (.cells (([grCells g] : List (List Value)).flatMap id).toArray 29))) := (HS244.out).put 29 (([grCells g] : List (List Value)).flatMap id)
      refine hK.out _ _ ((fun j v hv => by rw [Nat.zero_add]; exact (HS245.out).at 1 rfl j hv)) (fun hHeld => ?_)
      clear hK K
      generalize (w243.alloc (.cells (([grCells g] : List (List Value)).flatMap id).toArray 29)) = w244 at *
      generalize w243.heap.size = B243 at *
      try simp only [z0, z1, z2, z3]
      refine tn 4 qRfLk9_18 (fun K hK => ?_)
      rw [if_pos (by rfl)]
      refine wp_append_sl (HS245.out) (.const (.slice none 0 0)) (.tmp 59) 23 rfl 5 (v := .slice none 0 0) (n := 0) (xs := []) rfl (xv := .slice a2 p cap2) (m := (t.wait.take p).length) (ys := grRow (t.wait.take p)) (R := R5) HT5.out (HI5.out _ ((HS245.out).reads 3 rfl)) HUX.out elem_gr rfl rfl (one_grs _) (by have := HLn.out; rw [List.length_take]; omega) ?_
      intro v5 w245 hs
      have hs2 : Hp w [.ob (w.heap.size) 25 (tbCells (.slice a t.held.length cap) (.slice a2 t.wait.length cap2)), .ob b3 29 (grCells g), .ob b4 25 (tbCells (.slice none 0 0) (.slice none 0 0)), .rd R, .ob B84 29 (grCells wx), .sl v5 29 4 ((t.wait.take p).length) (grRow (t.wait.take p)), .ob B243 29 (([grCells g] : List (List Value)).flatMap id)] w245 := by
       have h9 := hs
       simp only [Nat.zero_add, List.nil_append] at h9
       exact h9
      clear hs
      have HS246 : Hid (Hp w [.ob (w.heap.size) 25 (tbCells (.slice a t.held.length cap) (.slice a2 t.wait.length cap2)), .ob b3 29 (grCells g), .ob b4 25 (tbCells (.slice none 0 0) (.slice none 0 0)), .rd R, .ob B84 29 (grCells wx), .sl v5 29 4 ((t.wait.take p).length) (grRow (t.wait.take p)), .ob B243 29 (([grCells g] : List (List Value)).flatMap id)] w245) := hs2
      refine hK.out _ _ ((fun j v hv => by rw [Nat.zero_add]; exact (HS246.out).at 1 rfl j hv)) (fun hHeld => ?_)
      clear hK K hs2
      try simp only [z0, z1, z2, z3]
      refine tn 7 qRfLk9_19 (fun K hK => ?_)
      rw [if_pos (by rfl)]
      refine wp_append_hp (HS246.out) (.tmp 60) (.tmp 62) 23 rfl 5 rfl 6 rfl HUX.out elem_gr 1 1 rfl rfl rfl (by intro u hu; simp only [List.flatMap_cons, List.flatMap_nil, List.append_nil, id] at hu; exact one_gr _ u hu) (by have := HLn.out; rw [List.length_take]; omega) ?_
      intro v246 w246 hs hnil
      have HS248 : Hid (Hp w [.ob (w.heap.size) 25 (tbCells (.slice a t.held.length cap) (.slice a2 t.wait.length cap2)), .ob b3 29 (grCells g), .ob b4 25 (tbCells (.slice none 0 0) (.slice none 0 0)), .rd R, .ob B84 29 (grCells wx), .sl v246 29 4 ((t.wait.take p).length + 1) ((grRow (t.wait.take p)) ++ (([grCells g] : List (List Value)).flatMap id)), .ob B243 29 (([grCells g] : List (List Value)).flatMap id)] w246) := hs
      refine hK.out _ _ ((fun j v hv => by rw [Nat.zero_add]; exact (HS248.out).at 1 rfl j hv)) (fun hHeld => ?_)
      clear hK K hs
      try simp only [z0, z1, z2, z3]
      refine tn 12 qRfLk9_21 (fun K hK => ?_)
      rw [if_pos (by rfl)]
      refine wp_append_sl (HS248.out) (.tmp 63) (.tmp 67) 23 rfl 5 (v := v246) (n := (t.wait.take p).length + 1) (xs := (grRow (t.wait.take p)) ++ (([grCells g] : List (List Value)).flatMap id)) rfl (xv := .slice (if cap2 = p then a2 else Option.map (fun x => Addr.add x (p * 4)) a2) (t.wait.length - p) (cap2 - p)) (m := (t.wait.drop p).length) (ys := grRow (t.wait.drop p)) (R := R6) HT6.out (HI6.out _ ((HS248.out).reads 3 rfl)) HUX.out elem_gr rfl rfl (one_grs _) (by have := HLn.out; rw [List.length_take, List.length_drop]; omega) ?_
      intro v6 w247 hs
      have hs2 : Hp w [.ob (w.heap.size) 25 (tbCells (.slice a t.held.length cap) (.slice a2 t.wait.length cap2)), .ob b3 29 (grCells g), .ob b4 25 (tbCells (.slice none 0 0) (.slice none 0 0)), .rd R, .ob B84 29 (grCells wx), .sl v6 29 4 (l6.length) (grRow l6), .ob B243 29 (([grCells g] : List (List Value)).flatMap id)] w247 := by
       rw [← HL6.out, grRow_append, grRow_append, grRow_one, List.length_append, List.length_append, ← List.append_assoc, ← Nat.add_assoc]
       exact hs
      clear hs
      have HS249 : Hid (Hp w [.ob (w.heap.size) 25 (tbCells (.slice a t.held.length cap) (.slice a2 t.wait.length cap2)), .ob b3 29 (grCells g), .ob b4 25 (tbCells (.slice none 0 0) (.slice none 0 0)), .rd R, .ob B84 29 (grCells wx), .sl v6 29 4 (l6.length) (grRow l6), .ob B243 29 (([grCells g] : List (List Value)).flatMap id)] w247) := hs2
      refine hK.out _ _ ((fun j v hv => by rw [Nat.zero_add]; exact (HS249.out).at 1 rfl j hv)) (fun hHeld => ?_)
      clear hK K hs2
      try simp only [z0, z1, z2, z3]
      refine tk 13 qRfLk9_22 (some 69) (v := ?q935v) (Or.inl ⟨by rfl, ?q935h⟩) hHeld ?q935r
      case q935h => (intro wq hSw; clear hSw; go_simp; try with_reducible rfl)
      try simp only [z0, z1, z2, z3]
      refine tn 14 qRfLk9_23 (fun K hK => ?_)
      rw [if_pos (by rfl)]
      obtain ⟨a6, c6, rfl⟩ := own_slice ((HS249.out).own 5 rfl)
      have q5 := (HS249.out).at 0 rfl 1 rfl
      have f5 := (HS249.out).frozen 0 rfl 1
      go_simp
      clear q5 f5
      have HS250 : Hid (Hp w [.ob (w.heap.size) 25 (tbCells (.slice a t.held.length cap) (.slice a6 l6.length c6)), .ob b3 29 (grCells g), .ob b4 25 (tbCells (.slice none 0 0) (.slice none 0 0)), .rd R, .ob B84 29 (grCells wx), .sl ((.slice a6 l6.length c6)) 29 4 (l6.length) (grRow l6), .ob B243 29 (([grCells g] : List (List Value)).flatMap id)] (w247.setCell ⟨w.heap.size, 1, none⟩ (.slice a6 l6.length c6))) := (HS249.out).set 0 rfl 1 (.slice a6 l6.length c6)
      refine hK.out _ _ ((fun j v hv => by rw [Nat.zero_add]; exact (HS250.out).at 1 rfl j hv)) (fun hHeld => ?_)
      clear hK K
      generalize (w247.setCell ⟨w.heap.size, 1, none⟩ (.slice a6 l6.length c6)) = w248 at *
      try simp only [z0, z1, z2, z3]
      refine wpAnyH_done (by kernel_rfl) ?_ _
      clear hHeld
      generalize (if cap2 = p then a2 else Option.map (fun x => Addr.add x (p * 4)) a2) = ap9 at *
      have HS251 : Hid (Hp w [.ob (w.heap.size) 25 (tbCells (.slice a t.held.length cap) (.slice a6 l6.length c6)), .ob b3 29 (grCells g), .ob b4 25 (tbCells (.slice none 0 0) (.slice none 0 0)), .rd R, .ob B84 29 (grCells wx), .sl ((.slice a6 l6.length c6)) 29 4 (l6.length) (grRow l6)] w248) := HS250.out.pull [0, 1, 2, 3, 4, 5] rfl (pull_nd HS250.out.nd [0, 1, 2, 3, 4, 5] rfl (by decide))
      clear HS250
      obtain ⟨R7, h7, hn7, hs7⟩ := Hp.ownrd2 (A := [.ob (w.heap.size) 25 (tbCells (.slice a t.held.length cap) (.slice a6 l6.length c6)), .ob b3 29 (grCells g), .ob b4 25 (tbCells (.slice none 0 0) (.slice none 0 0)), .rd R, .ob B84 29 (grCells wx)]) HS251.out
      go_wp2_with fail
      go_meet
      exact ⟨a6, c6, R7, h7, hn7, hs7⟩
    ·rw [if_pos (by rfl)]
     refine wp_build_obs rfl elem_gr HUX.out [grCells g] (List.forall_mem_cons.2 ⟨rfl, (fun _ h => absurd h List.not_mem_nil)⟩) (Nat.succ_pos _) (by simp only [List.length_cons, List.length_nil]; omega) rfl (by simp only [List.map_toArray, List.map_cons, List.map_nil, List.zipIdx_cons, List.zipIdx_nil]; exact rfl) ?_
     have HS244 : Hid (Hp w [.ob (w.heap.size) 25 (tbCells (.slice a t.held.length cap) (.slice a2 t.wait.length cap2)), .ob b3 29 (grCells g), .ob b4 25 (tbCells (.slice none 0 0) (.slice none 0 0)), .rd R, .ob B84 29 (grCells wx), .sl ((.slice none 0 0)) 29 4 (0) ([]), .ob (w243.heap.size) 29 (([grCells g] : List (List Value)).flatMap id)] (w243.alloc (.cells (([grCells g] : List (List Value)).flatMap id).toArray 29))) := (HS243.out).put 29 (([grCells g] : List (List Value)).flatMap id)
     refine hK.out _ _ ((fun j v hv => by rw [Nat.zero_add]; exact (HS244.out).at 1 rfl j hv)) (fun hHeld => ?_)
     clear hK K
     generalize (w243.alloc (.cells (([grCells g] : List (List Value)).flatMap id).toArray 29)) = w244 at *
     generalize w243.heap.size = B243 at *
     try simp only [z0, z1, z2, z3]
     refine tn 1 qRfLk9_14 (fun K hK => ?_)
     have q0 := (HS244.out).at 0 rfl 1 rfl
     go_simp
     clear q0
     have HS245 := HS244
     refine hK.out _ _ ((fun j v hv => by rw [Nat.zero_add]; exact (HS245.out).at 1 rfl j hv)) (fun hHeld => ?_)
     clear hK K
     try simp only [z0, z1, z2, z3]
     refine tk 3 qRfLk9_17 (some 59) (v := .slice a2 p cap2) (Or.inl ⟨by rfl, ?q936h⟩) hHeld ?q936r
     case q936h => (intro wq hSw; clear hSw; go_simp; try with_reducible rfl)
     try simp only [z0, z1, z2, z3]
     refine tn 4 qRfLk9_18 (fun K hK => ?_)
     rw [if_pos (by rfl)]
     refine wp_append_sl (HS245.out) (.const (.slice none 0 0)) (.tmp 59) 23 rfl 5 (v := .slice none 0 0) (n := 0) (xs := []) rfl (xv := .slice a2 p cap2) (m := (t.wait.take p).length) (ys := grRow (t.wait.take p)) (R := R5) HT5.out (HI5.out _ ((HS245.out).reads 3 rfl)) HUX.out elem_gr rfl rfl (one_grs _) (by have := HLn.out; rw [List.length_take]; omega) ?_
     intro v5 w245 hs
     have hs2 : Hp w [.ob (w.heap.size) 25 (tbCells (.slice a t.held.length cap) (.slice a2 t.wait.length cap2)), .ob b3 29 (grCells g), .ob b4 25 (tbCells (.slice none 0 0) (.slice none 0 0)), .rd R, .ob B84 29 (grCells wx), .sl v5 29 4 ((t.wait.take p).length) (grRow (t.wait.take p)), .ob B243 29 (([grCells g] : List (List Value)).flatMap id)] w245 := by
      have h9 := hs
      simp only [Nat.zero_add, List.nil_append] at h9
      exact h9
     clear hs
     have HS246 : Hid (Hp w [.ob (w.heap.size) 25 (tbCells (.slice a t.held.length cap) (.slice a2 t.wait.length cap2)), .ob b3 29 (grCells g), .ob b4 25 (tbCells (.slice none 0 0) (.slice none 0 0)), .rd R, .ob B84 29 (grCells wx), .sl v5 29 4 ((t.wait.take p).length) (grRow (t.wait.take p)), .ob B243 29 (([grCells g] : List (List Value)).flatMap id)] w245) := hs2
     refine hK.out _ _ ((fun j v hv => by rw [Nat.zero_add]; exact (HS246.out).at 1 rfl j hv)) (fun hHeld => ?_)
     clear hK K hs2
     try simp only [z0, z1, z2, z3]
     refine tn 7 qRfLk9_19 (fun K hK => ?_)
     rw [if_pos (by rfl)]
     refine wp_append_hp (HS246.out) (.tmp 60) (.tmp 62) 23 rfl 5 rfl 6 rfl HUX.out elem_gr 1 1 rfl rfl rfl (by intro u hu; simp only [List.flatMap_cons, List.flatMap_nil, List.append_nil, id] at hu; exact one_gr _ u hu) (by have := HLn.out; rw [List.length_take]; omega) ?_
     intro v246 w246 hs hnil
     have HS248 : Hid (Hp w [.ob (w.heap.size) 25 (tbCells (.slice a t.held.length cap) (.slice a2 t.wait.length cap2)), .ob b3 29 (grCells g), .ob b4 25 (tbCells (.slice none 0 0) (.slice none 0 0)), .rd R, .ob B84 29 (grCells wx), .sl v246 29 4 ((t.wait.take p).length + 1) ((grRow (t.wait.take p)) ++ (([grCells g] : List (List Value)).flatMap id)), .ob B243 29 (([grCells g] : List (List Value)).flatMap id)] w246) := hs
     refine hK.out _ _ ((fun j v hv => by rw [Nat.zero_add]; exact (HS248.out).at 1 rfl j hv)) (fun hHeld => ?_)
     clear hK K hs
     try simp only [z0, z1, z2, z3]
     refine tn 12 qRfLk9_21 (fun K hK => ?_)
     rw [if_pos (by rfl)]
     refine wp_append_sl (HS248.out) (.tmp 63) (.tmp 67) 23 rfl 5 (v := v246) (n := (t.wait.take p).length + 1) (xs := (grRow (t.wait.take p)) ++ (([grCells g] : List (List Value)).flatMap id)) rfl (xv := .slice (if cap2 = p then a2 else Option.map (fun x => Addr.add x (p * 4)) a2) (t.wait.length - p) (cap2 - p)) (m := (t.wait.drop p).length) (ys := grRow (t.wait.drop p)) (R := R6) HT6.out (HI6.out _ ((HS248.out).reads 3 rfl)) HUX.out elem_gr rfl rfl (one_grs _) (by have := HLn.out; rw [List.length_take, List.length_drop]; omega) ?_
     intro v6 w247 hs
     have hs2 : Hp w [.ob (w.heap.size) 25 (tbCells (.slice a t.held.length cap) (.slice a2 t.wait.length cap2)), .ob b3 29 (grCells g), .ob b4 25 (tbCells (.slice none 0 0) (.slice none 0 0)), .rd R, .ob B84 29 (grCells wx), .sl v6 29 4 (l6.length) (grRow l6), .ob B243 29 (([grCells g] : List (List Value)).flatMap id)] w247 := by
      rw [← HL6.out, grRow_append, grRow_append, grRow_one, List.length_append, List.length_append, ← List.append_assoc, ← Nat.add_assoc]
      exact hs
     clear hs
     have HS249 : Hid (Hp w [.ob (w.heap.size) 25 (tbCells (.slice a t.held.length cap) (.slice a2 t.wait.length cap2)), .ob b3 29 (grCells g), .ob b4 25 (tbCells (.slice none 0 0) (.slice none 0 0)), .rd R, .ob B84 29 (grCells wx), .sl v6 29 4 (l6.length) (grRow l6), .ob B243 29 (([grCells g] : List (List Value)).flatMap id)] w247) := hs2
     refine hK.out _ _ ((fun j v hv => by rw [Nat.zero_add]; exact (HS249.out).at 1 rfl j hv)) (fun hHeld => ?_)
     clear hK K hs2
     try simp only [z0, z1, z2, z3]
     refine tk 13 qRfLk9_22 (some 69) (v := ?q937v) (Or.inl ⟨by rfl, ?q937h⟩) hHeld ?q937r
     case q937h => (intro wq hSw; clear hSw; go_simp; try with_reducible rfl)
     try simp only [z0, z1, z2, z3]
     refine tn 14 qRfLk9_23 (fun K hK => ?_)
     rw [if_pos (by rfl)]
     obtain ⟨a6, c6, rfl⟩ := own_slice ((HS249.out).own 5 rfl)
     have q5 := (HS249.out).at 0 rfl 1 rfl
     have f5 := (HS249.out).frozen 0 rfl 1
     go_simp
     clear q5 f5
     have HS250 : Hid (Hp w [.ob (w.heap.size) 25 (tbCells (.slice a t.held.length cap) (.slice a6 l6.length c6)), .ob b3 29 (grCells g), .ob b4 25 (tbCells (.slice none 0 0) (.slice none 0 0)), .rd R, .ob B84 29 (grCells wx), .sl ((.slice a6 l6.length c6)) 29 4 (l6.length) (grRow l6), .ob B243 29 (([grCells g] : List (List Value)).flatMap id)] (w247.setCell ⟨w.heap.size, 1, none⟩ (.slice a6 l6.length c6))) := (HS249.out).set 0 rfl 1 (.slice a6 l6.length c6)
     refine hK.out _ _ ((fun j v hv => by rw [Nat.zero_add]; exact (HS250.out).at 1 rfl j hv)) (fun hHeld => ?_)
     clear hK K
     generalize (w247.setCell ⟨w.heap.size, 1, none⟩ (.slice a6 l6.length c6)) = w248 at *
     try simp only [z0, z1, z2, z3]
     refine wpAnyH_done (by kernel_rfl) ?_ _
     clear hHeld
     generalize (if cap2 = p then a2 else Option.map (fun x => Addr.add x (p * 4)) a2) = ap9 at *
     have HS251 : Hid (Hp w [.ob (w.heap.size) 25 (tbCells (.slice a t.held.length cap) (.slice a6 l6.length c6)), .ob b3 29 (grCells g), .ob b4 25 (tbCells (.slice none 0 0) (.slice none 0 0)), .rd R, .ob B84 29 (grCells wx), .sl ((.slice a6 l6.length c6)) 29 4 (l6.length) (grRow l6)] w248) := HS250.out.pull [0, 1, 2, 3, 4, 5] rfl (pull_nd HS250.out.nd [0, 1, 2, 3, 4, 5] rfl (by decide))
     clear HS250
     obtain ⟨R7, h7, hn7, hs7⟩ := Hp.ownrd2 (A := [.ob (w.heap.size) 25 (tbCells (.slice a t.held.length cap) (.slice a6 l6.length c6)), .ob b3 29 (grCells g), .ob b4 25 (tbCells (.slice none 0 0) (.slice none 0 0)), .rd R, .ob B84 29 (grCells wx)]) HS251.out
     go_wp2_with fail
     go_meet
     exact ⟨a6, c6, R7, h7, hn7, hs7⟩
  case rest =>
   obtain ⟨a6, c6, R7, h7, hn7, hs7⟩ := hcut
   have HR7 := Lib.hid h7
   have HN7 := Lib.hid hn7
   have HS7 : Hid (Hp w [.ob (w.heap.size) 25 (tbCells (.slice a t.held.length cap) (.slice a6 l6.length c6)), .ob b3 29 (grCells g), .ob b4 25 (tbCells (.slice none 0 0) (.slice none 0 0)), .rd R, .ob B84 29 (grCells wx), .rd R7] wc) := hs7
   clear h7 hn7 hs7 HN0 HT5 HT6 HI5 HI6
   generalize wc = w700 at *
   have hi9 : TbIn ⟨t.held, l6⟩ := by have := HIn.out; rwa [HAe.out] at this
   have HE2 : Hid (rq = (settleR ⟨t.held, l6⟩, decide (g.mode ≤ modeG (settleR ⟨t.held, l6⟩).held g), 0)) := Lib.hid (by rw [HE.out, HAe.out])
   have HIn2 := Lib.hid hi9
   have HFw : Hid (t.held.length + l6.length ≤ 2000) := Lib.hid (by have h1 := congrArg List.length HL6.out; have h2 := HLn.out; simp only [List.length_append, List.length_take, List.length_drop, List.length_singleton] at h1; omega)
   have HSe : Hid (∀ W, RdIn W (R ++ R7) → Calls Try.prog 47 #[.agg (tbCells (.slice a t.held.length cap) (.slice a6 l6.length c6)).toArray] W (TbPost W (R ++ R7) (settleR ⟨t.held, l6⟩))) := fun W h2 => rsettle_any W ⟨SlRd.mono HT.out.1 (fun r hr => by simp [hr]), SlRd.mono HR7.out (fun r hr => by simp [hr])⟩ h2 HIn2.out HFw.out
   have hi8 := settle_in HIn2.out
   have hl8 := settle_len HIn2.out
   have HGs := Lib.hid (hi8.good (by have := HFw.out; simp only at hl8; omega))
   generalize settleR ⟨t.held, l6⟩ = u at *
   clear HE HAe hi9 hi8 hl8
   have b0 : w700.cell? ⟨w.heap.size, 0, none⟩ = some (.slice a t.held.length cap) := HS7.out.at 0 rfl 0 rfl
   have b1 : w700.cell? ⟨w.heap.size, 1, none⟩ = some (.slice a6 l6.length c6) := HS7.out.at 0 rfl 1 rfl
   go_wp2_with fail
   refine (HSe.out _ (RdIn.append (HS7.out.reads 3 rfl) (HS7.out.reads 5 rfl))).mono ?_
   rintro e w701 ⟨h9, v9, R9, rfl, hrd9, hin9, hnew9, hb⟩
   have hold := HS7.out.old.size
   have hnw : ∀ r ∈ R9, w.heap.size ≤ r.1 ∨ r.1 ∈ R.map (·.1) := fun r hr => by
    rcases hnew9 r hr with h | h
    ·exact .inl (Nat.le_trans hold h)
    ·obtain ⟨q, hq, hqe⟩ := List.mem_map.1 h
     rw [← hqe]
     rcases List.mem_append.1 hq with hq | hq
     ·exact .inr (List.mem_map.2 ⟨q, hq, rfl⟩)
     ·exact .inl (HN7.out q hq)
   have hs9 := HS7.out.addrd hb R9 hin9 (fun r hr => (hnew9 r hr).elim .inl (fun h => .inr (by obtain ⟨q, hq, hqe⟩ := List.mem_map.1 h; rcases List.mem_append.1 hq with hq | hq; exact ⟨.rd R, List.mem_of_getElem? (i := 3) rfl, List.mem_map.2 ⟨q, hq, hqe⟩⟩; exact ⟨.rd R7, List.mem_of_getElem? (i := 5) rfl, List.mem_map.2 ⟨q, hq, hqe⟩⟩)))
   obtain ⟨a9, c9, rfl, _, _⟩ := hrd9.1.shape
   obtain ⟨d9, e9, rfl, _, _⟩ := hrd9.2.shape
   have H9 := Lib.hid hrd9
   have N9 := Lib.hid hnw
   have HS9 : Hid (Hp w [.ob (w.heap.size) 25 (tbCells (.slice a t.held.length cap) (.slice a6 l6.length c6)), .ob b3 29 (grCells g), .ob b4 25 (tbCells (.slice none 0 0) (.slice none 0 0)), .rd R, .ob B84 29 (grCells wx), .rd R7, .rd R9] w701) := hs9
   clear hs9 hin9 hnew9 hb hrd9 hnw hold b0 b1 HSe HS7
   go_upto_region 17 with (first | ((with_reducible refine wpList_store_ob 25 (.tmp 2) (w.heap.size) (tbCells (.slice a9 u.held.length c9) (.slice d9 u.wait.length e9)) (tbCells (.slice a t.held.length cap) (.slice a6 l6.length c6)) 25 ?_ ?_ ?_ ?_ ?_ ?_ ?_); (exact rfl); (exact rfl); (exact (HS9.out).get 0 rfl); (exact info_tb); (exact rfl); (exact (oneCell_tb _ _ _ _ _ _)); skip))
   have HS731 : Hid (Hp w [.ob (w.heap.size) 25 (tbCells (.slice a9 u.held.length c9) (.slice d9 u.wait.length e9)), .ob b3 29 (grCells g), .ob b4 25 (tbCells (.slice none 0 0) (.slice none 0 0)), .rd R, .ob B84 29 (grCells wx), .rd R7, .rd R9] (w701.setRow (w.heap.size) (tbCells (.slice a9 u.held.length c9) (.slice d9 u.wait.length e9)).toArray)) := (HS9.out).row 0 rfl (tbCells (.slice a9 u.held.length c9) (.slice d9 u.wait.length e9))
   clear HS9
   generalize (w701.setRow (w.heap.size) (tbCells (.slice a9 u.held.length c9) (.slice d9 u.wait.length e9)).toArray) = w731 at *
   have HMu : Hid (∀ W, RdIn W R9 → Calls Try.prog 38 #[.agg (tbCells (.slice a9 u.held.length c9) (.slice d9 u.wait.length e9)).toArray, .int .i64 g.tx, .agg (lkCells g.lock).toArray] W fun e w' => e = .returned (.int .i64 (modeG u.held g)) ∧ Below W.heap.size W w') := fun W h2 => rmode_any g.tx g.lock W H9.out h2 HGs.out HK.out.lock
   generalize modeG u.held g = mu at *
   obtain ⟨q, hq⟩ : ∃ q, decide (g.mode ≤ mu) = q := ⟨_, rfl⟩
   rw [hq] at HE2
   refine wp_region_held_drew (S := fun w' => w'.rangeAt w.heap.size 0 (tbCells (.slice a9 u.held.length c9) (.slice d9 u.wait.length e9)) ∧ w'.rangeAt b3 0 (grCells g)) (by kernel_rfl) (⟨(fun j v hv => by rw [Nat.zero_add]; exact ((HS731.out).drew).at 0 rfl j hv), (fun j v hv => by rw [Nat.zero_add]; exact ((HS731.out).drew).at 1 rfl j hv)⟩) (fun hHeld => ?_)
   refine tk 0 qRfLk9_24 (some 72) (yieldsIf_load_mid (by rfl) 25 (.tmp 2) rfl w.heap.size (0) rfl (tbCells (.slice a9 u.held.length c9) (.slice d9 u.wait.length e9)) _ (fun _ h => h.1) HUT.out rfl (info_tb)) hHeld ?_
   try simp only [z0, z1, z2, z3]
   refine tk 1 qRfLk9_25 (some 73) (yieldsIf_load_mid (by rfl) 25 (.tmp 2) rfl w.heap.size (0) rfl (tbCells (.slice a9 u.held.length c9) (.slice d9 u.wait.length e9)) _ (fun _ h => h.1) HUT.out rfl (info_tb)) hHeld ?_
   try simp only [z0, z1, z2, z3]
   refine tk 2 qRfLk9_26 (some 74) (v := ?q1103v) (Or.inl ⟨by rfl, ?q1103h⟩) hHeld ?q1103r
   case q1103h => (intro wq hSw; clear hSw; go_simp; try with_reducible rfl)
   try simp only [z0, z1, z2, z3]
   refine tk 3 qRfLk9_27 (some 75) (v := .int .i64 g.tx) (Or.inl ⟨by rfl, ?q1104h⟩) hHeld ?q1104r
   case q1104h => (intro wq hSw; have lq := (hSw.2) 0 (.int .i64 g.tx) rfl; simp only [Nat.zero_add] at lq; clear hSw; go_simp; try with_reducible rfl)
   try simp only [z0, z1, z2, z3]
   refine tk 4 qRfLk9_28 (some 76) (v := ?q1105v) (Or.inl ⟨by rfl, ?q1105h⟩) hHeld ?q1105r
   case q1105h => (intro wq hSw; clear hSw; go_simp; try with_reducible rfl)
   try simp only [z0, z1, z2, z3]
   refine tk 5 qRfLk9_29 (some 77) (yieldsIf_load_mid (by rfl) 27 (.tmp 76) rfl b3 (1) rfl (lkCells g.lock) _ (fun _ h => range_part (h.2) (mid_lk g)) HUK.out rfl (info_lk)) hHeld ?_
   try simp only [z0, z1, z2, z3]
   refine tk 7 qRfLk9_30 (some 79) (v := ?q1107v) (Or.inl ⟨by rfl, ?q1107h⟩) hHeld ?q1107r
   case q1107h => (intro wq hSw; clear hSw; go_simp; try with_reducible rfl)
   try simp only [z0, z1, z2, z3]
   refine tk 8 qRfLk9_31 (some 80) (v := .int .i64 g.mode) (Or.inl ⟨by rfl, ?q1108h⟩) hHeld ?q1108r
   case q1108h => (intro wq hSw; have lq := (hSw.2) 3 (.int .i64 g.mode) rfl; simp only [Nat.zero_add] at lq; clear hSw; go_simp; try with_reducible rfl)
   try simp only [z0, z1, z2, z3]
   refine tn 6 qRfLk9_32 (fun K hK => ?_)
   go_simp
   go_wp2_with (go_at_call 38; refine (HMu.out _ (((HS731.out).drew).reads 6 rfl)).mono ?_; rintro e w757 ⟨rfl, hb⟩)
   have HS757 := Lib.hid (((HS731.out).drew).calls hb)
   refine hK.out _ _ (⟨(fun j v hv => by rw [Nat.zero_add]; exact (HS757.out).at 0 rfl j hv), (fun j v hv => by rw [Nat.zero_add]; exact (HS757.out).at 1 rfl j hv)⟩) (fun hHeld => ?_)
   clear hK K hb
   try simp only [z0, z1, z2, z3]
   refine tk 9 qRfLk9_33 (some 81) (v := .bool q) (Or.inl ⟨by rfl, ?q1109h⟩) hHeld ?q1109r
   case q1109h => (intro wq hSw; clear hSw; go_simp; try with_reducible rfl)
   try simp only [z0, z1, z2, z3]
   refine tn 10 qRfLk9_34 (fun K hK => ?_)
   rw [if_pos (by rfl)]
   refine wp_store_ob 25 (.tmp 4) (.tmp 72) b4 (tbCells (.slice a9 u.held.length c9) (.slice d9 u.wait.length e9)) (tbCells (.slice none 0 0) (.slice none 0 0)) 25 rfl rfl rfl rfl ((HS757.out).get 2 rfl) (info_tb) (rfl) ((oneCell_tb _ _ _ _ _ _)) ?_
   have HS758 : Hid (Hp w [.ob (w.heap.size) 25 (tbCells (.slice a9 u.held.length c9) (.slice d9 u.wait.length e9)), .ob b3 29 (grCells g), .ob b4 25 (tbCells (.slice a9 u.held.length c9) (.slice d9 u.wait.length e9)), .rd R, .ob B84 29 (grCells wx), .rd R7, .rd R9] (w757.setRow b4 (tbCells (.slice a9 u.held.length c9) (.slice d9 u.wait.length e9)).toArray)) := (HS757.out).row 2 rfl (tbCells (.slice a9 u.held.length c9) (.slice d9 u.wait.length e9))
   refine hK.out _ _ (⟨(fun j v hv => by rw [Nat.zero_add]; exact (HS758.out).at 0 rfl j hv), (fun j v hv => by rw [Nat.zero_add]; exact (HS758.out).at 1 rfl j hv)⟩) (fun hHeld => ?_)
   clear hK K
   generalize (w757.setRow b4 (tbCells (.slice a9 u.held.length c9) (.slice d9 u.wait.length e9)).toArray) = w758 at *
   try simp only [z0, z1, z2, z3]
   refine tk 11 qRfLk9_35 (some 5) (v := ?q1110v) (Or.inl ⟨by rfl, ?q1110h⟩) hHeld ?q1110r
   case q1110h => (intro wq hSw; clear hSw; go_simp; try with_reducible rfl)
   try simp only [z0, z1, z2, z3]
   refine tk 12 qRfLk9_36 (some 6) (v := ?q1111v) (Or.inl ⟨by rfl, ?q1111h⟩) hHeld ?q1111r
   case q1111h => (intro wq hSw; clear hSw; go_simp; try with_reducible rfl)
   try simp only [z0, z1, z2, z3]
   refine wpAnyH_done (by kernel_rfl) ?_ _
   clear hHeld
   go_wp2_with fail
   refine bodyPost_ret (results_ob_tmp2 Try.results18 _ _ b4 (tbCells (.slice a9 u.held.length c9) (.slice d9 u.wait.length e9)) 25 _ rfl ((HS758.out).get 2 rfl) HUT.out rfl info_tb) rfl ?_
   rw [HE2.out]
   exact ⟨_, _, R9, rfl, H9.out, (HS758.out).reads 6 rfl, N9.out, (HS758.out).old⟩
end Go.Proofs.Ytcnaalbpbalgdaa
